/- Ways of the walk over the reference's head Decode. -/
import Derived.Test.YtifhjmhekapaoaaDoorHeadRDBase
import Derived.Deep.DeepCutAuto
namespace Go.Proofs.YtifhjmhekapaoaaDoor
set_option maxRecDepth 100000
open Go.RowKit
set_option linter.unusedVariables false

set_option maxHeartbeats 4000000 in
theorem rd_53l_h (a : Addr) (L C : Nat) (zs : List Int) (G : Hd) (m x : Int) (z0 z1 z4 z5 z16 z17 z18 z19 z32 z33 : Int) (w : World) (E : Value) (hE : E = .tuple #[.agg (hdA zeroH), .int .i64 53]) (F : RDF a L C zs G m x z0 z1 z4 z5 z16 z17 z18 z19 z32 z33) (hc : BytesAt w a zs) (h2 : z1 = 2) (hh : 127 < z33) (hm : m ≠ 0) (hx : x = m) (hl : (L : Int) ≠ m) :
    Calls Tryd.prog 7 #[.slice (some a) L C] w fun e w' => e = .returned E ∧ Below w.heap.size w w' := by
  have HB := Lib.hid (Below.refl w.heap.size w)
  have HX := Lib.hid (congrArg Ending.returned hE)
  clear hE
  have d1 : (z1 != 2) = false := by simp [h2]
  clear h2
  have dx : (x != m) = false := by simp [hx]
  have dL : ((L : Int) != m) = true := by simp [hl]
  clear hx hl
  have BA := Lib.hid hc
  have FF := Lib.hid F
  have k1 := F.l34
  have k2 := F.lc
  have k3 := F.cm
  have k4 := F.b0
  have k5 := F.b4
  have k6 := F.b33
  unfold maxLen at k3
  have hLs : decide ((L : Int) < 34) = false := decide_eq_false (by omega)
  clear F hc
  go_enter Tryd.func7, Tryd.ntmps7
  go_upto_region 5 with (refine big_alloc rfl 32 rfl (hdA zeroH) (by kernel_rfl) ?_; intro gK2 wK2 hlK2 nK2 hbK2; have K2 := Lib.hid nK2; have LK2 := Lib.hid (Nat.le_trans (HB.out).size hlK2); replace BA := Lib.hid ((BA.out).keptB hbK2); replace HB := Lib.hid (bstep HB.out hbK2); clear hlK2 nK2 hbK2; have e1 := (FF.out).v1 _ BA.out)
  clear e1
  go_cut [4, 14, 15, 16, 17, 18, 19, 20, 21, 22, 23, 24, 25, 26, 27, 28, 29, 30, 31, 32, 33, 34] (fun s4 s14 s15 s16 s17 s18 s19 s20 s21 s22 s23 s24 s25 s26 s27 s28 s29 s30 s31 s32 s33 s34 wx => RDCut a L C zs G z0 z4 z33 w gK2 s4 s14 s15 s16 s17 s18 s19 s20 s21 s22 s23 s24 s25 s26 s27 s28 s29 s30 s31 s32 s33 s34 wx)
  case first =>
    refine wp_region_noPanic ?_
    refine wp_region_held_drew (S := fun v => Below w.heap.size w v ∧ Holds v gK2 32 (hdA zeroH) ∧ BytesAt v a zs) (by kernel_rfl) ?_ (fun hHeld => ?_)
    · exact ⟨bdrew HB.out, (K2.out).drew, (BA.out).drew⟩
    clear HB K2 BA
    refine wpAnyH_take (i := 0) (v := .slice (some a) L C) (at_list rfl) (by kernel_rfl) (by kernel_rfl) (by kernel_rfl) (fun _ _ _ h => h) (Or.inl ⟨by rfl, ?_⟩) hHeld ?_
    · intro v hSv
      clear hHeld
      go_simp
    try simp only [Act.put, List.setIfInBounds_toArray, List.set_cons_zero, List.set_cons_succ]
    refine wpAnyH_take (i := 1) (v := .pointer (some a)) (at_list rfl) (by kernel_rfl) (by kernel_rfl) (by kernel_rfl) (fun _ _ _ h => h) (Or.inl ⟨by rfl, ?_⟩) hHeld ?_
    · intro v hSv
      clear hHeld
      clear hSv
      go_simp
      intro h
      exfalso
      omega
    try simp only [Act.put, List.setIfInBounds_toArray, List.set_cons_zero, List.set_cons_succ]
    refine wpAnyH_take (i := 2) (v := .int .u8 z0) (at_list rfl) (by kernel_rfl) (by kernel_rfl) (by kernel_rfl) (fun _ _ _ h => h) (Or.inl ⟨by rfl, ?_⟩) hHeld ?_
    · intro v hSv
      clear hHeld
      have c0 := (FF.out).v0 v hSv.2.2
      clear hSv
      go_simp
    try simp only [Act.put, List.setIfInBounds_toArray, List.set_cons_zero, List.set_cons_succ]
    refine wpAnyH_take (i := 3) (v := .int .i64 z0) (at_list rfl) (by kernel_rfl) (by kernel_rfl) (by kernel_rfl) (fun _ _ _ h => h) (Or.inl ⟨by rfl, ?_⟩) hHeld ?_
    · intro v hSv
      clear hHeld
      clear hSv
      go_simp
      rw [IntKind.wrap_i64]
      omega
    try simp only [Act.put, List.setIfInBounds_toArray, List.set_cons_zero, List.set_cons_succ]
    refine wpAnyH_take (i := 4) (v := .int .i64 G.t) (at_list rfl) (by kernel_rfl) (by kernel_rfl) (by kernel_rfl) (fun _ _ _ h => h) (Or.inl ⟨by rfl, ?_⟩) hHeld ?_
    · intro v hSv
      clear hHeld
      clear hSv
      have hgt := (FF.out).gt
      go_simp
      rw [Int.tmod_eq_emod_of_nonneg (by omega)]
    try simp only [Act.put, List.setIfInBounds_toArray, List.set_cons_zero, List.set_cons_succ]
    refine wpAnyH_take (i := 5) (v := .slice (some a) L C) (at_list rfl) (by kernel_rfl) (by kernel_rfl) (by kernel_rfl) (fun _ _ _ h => h) (Or.inl ⟨by rfl, ?_⟩) hHeld ?_
    · intro v hSv
      clear hHeld
      go_simp
    try simp only [Act.put, List.setIfInBounds_toArray, List.set_cons_zero, List.set_cons_succ]
    refine wpAnyH_take (i := 6) (v := .pointer (some ⟨a.block, a.off + 4, none⟩)) (at_list rfl) (by kernel_rfl) (by kernel_rfl) (by kernel_rfl) (fun _ _ _ h => h) (Or.inl ⟨by rfl, ?_⟩) hHeld ?_
    · intro v hSv
      clear hHeld
      clear hSv
      go_simp
      intro h
      exfalso
      omega
    try simp only [Act.put, List.setIfInBounds_toArray, List.set_cons_zero, List.set_cons_succ]
    refine wpAnyH_take (i := 7) (v := .int .u8 z4) (at_list rfl) (by kernel_rfl) (by kernel_rfl) (by kernel_rfl) (fun _ _ _ h => h) (Or.inl ⟨by rfl, ?_⟩) hHeld ?_
    · intro v hSv
      clear hHeld
      have c4 := (FF.out).v4 v hSv.2.2
      clear hSv
      go_simp
    try simp only [Act.put, List.setIfInBounds_toArray, List.set_cons_zero, List.set_cons_succ]
    refine wpAnyH_take (i := 8) (v := .int .i64 G.d) (at_list rfl) (by kernel_rfl) (by kernel_rfl) (by kernel_rfl) (fun _ _ _ h => h) (Or.inl ⟨by rfl, ?_⟩) hHeld ?_
    · intro v hSv
      clear hHeld
      clear hSv
      have hgd := (FF.out).gd
      go_simp
      rw [IntKind.wrap_i64]
      omega
    try simp only [Act.put, List.setIfInBounds_toArray, List.set_cons_zero, List.set_cons_succ]
    refine wpAnyH_take (i := 9) (v := .slice (some a) L C) (at_list rfl) (by kernel_rfl) (by kernel_rfl) (by kernel_rfl) (fun _ _ _ h => h) (Or.inl ⟨by rfl, ?_⟩) hHeld ?_
    · intro v hSv
      clear hHeld
      go_simp
    try simp only [Act.put, List.setIfInBounds_toArray, List.set_cons_zero, List.set_cons_succ]
    refine wpAnyH_take (i := 11) (v := .slice (some a) L C) (at_list rfl) (by kernel_rfl) (by kernel_rfl) (by kernel_rfl) (fun _ _ _ h => h) (Or.inl ⟨by rfl, ?_⟩) hHeld ?_
    · intro v hSv
      clear hHeld
      go_simp
    try simp only [Act.put, List.setIfInBounds_toArray, List.set_cons_zero, List.set_cons_succ]
    refine wpAnyH_take (i := 12) (v := .slice (some ⟨a.block, a.off + 8, none⟩) 8 (C - 8)) (at_list rfl) (by kernel_rfl) (by kernel_rfl) (by kernel_rfl) (fun _ _ _ h => h) (Or.inl ⟨by rfl, ?_⟩) hHeld ?_
    · intro v hSv
      clear hHeld
      clear hSv
      have hsl := (FF.out).s8 v
      go_simp
    try simp only [Act.put, List.setIfInBounds_toArray, List.set_cons_zero, List.set_cons_succ]
    refine wpAnyH_take (i := 14) (v := .slice (some a) L C) (at_list rfl) (by kernel_rfl) (by kernel_rfl) (by kernel_rfl) (fun _ _ _ h => h) (Or.inl ⟨by rfl, ?_⟩) hHeld ?_
    · intro v hSv
      clear hHeld
      go_simp
    try simp only [Act.put, List.setIfInBounds_toArray, List.set_cons_zero, List.set_cons_succ]
    refine wpAnyH_take (i := 16) (v := .slice (some a) L C) (at_list rfl) (by kernel_rfl) (by kernel_rfl) (by kernel_rfl) (fun _ _ _ h => h) (Or.inl ⟨by rfl, ?_⟩) hHeld ?_
    · intro v hSv
      clear hHeld
      go_simp
    try simp only [Act.put, List.setIfInBounds_toArray, List.set_cons_zero, List.set_cons_succ]
    refine wpAnyH_take (i := 17) (v := .pointer (some ⟨a.block, a.off + 33, none⟩)) (at_list rfl) (by kernel_rfl) (by kernel_rfl) (by kernel_rfl) (fun _ _ _ h => h) (Or.inl ⟨by rfl, ?_⟩) hHeld ?_
    · intro v hSv
      clear hHeld
      clear hSv
      go_simp
      intro h
      exfalso
      omega
    try simp only [Act.put, List.setIfInBounds_toArray, List.set_cons_zero, List.set_cons_succ]
    refine wpAnyH_take (i := 18) (v := .int .u8 z33) (at_list rfl) (by kernel_rfl) (by kernel_rfl) (by kernel_rfl) (fun _ _ _ h => h) (Or.inl ⟨by rfl, ?_⟩) hHeld ?_
    · intro v hSv
      clear hHeld
      have c33 := (FF.out).v33 v hSv.2.2
      clear hSv
      go_simp
    try simp only [Act.put, List.setIfInBounds_toArray, List.set_cons_zero, List.set_cons_succ]
    refine wpAnyH_take (i := 19) (v := .int .i64 z33) (at_list rfl) (by kernel_rfl) (by kernel_rfl) (by kernel_rfl) (fun _ _ _ h => h) (Or.inl ⟨by rfl, ?_⟩) hHeld ?_
    · intro v hSv
      clear hHeld
      clear hSv
      go_simp
      rw [IntKind.wrap_i64]
      omega
    try simp only [Act.put, List.setIfInBounds_toArray, List.set_cons_zero, List.set_cons_succ]
    refine wpAnyH_ready (rs := [10, 21]) (by kernel_rfl) (by simp) ?_
    refine AllReadyH.cons (at_list rfl) (fun K hK => ?_) (AllReadyH.cons (at_list rfl) (fun K hK => ?_) (AllReadyH.nil))
    · go_simp
      refine ((FF.out).cv _ hHeld.2.2).mono ?_
      rintro e y1 ⟨rfl, hy1⟩
      go_wp2_with fail
      refine hK.out _ _ ?_ (fun hHeld2 => ?_)
      · exact ⟨bstep hHeld.1 hy1, hHeld.2.1.keptB hy1, hHeld.2.2.keptB hy1⟩
      clear hK K hHeld
      have hHeld := hHeld2
      clear hHeld2 hy1
      try simp only [Act.put, List.setIfInBounds_toArray, List.set_cons_zero, List.set_cons_succ]
      refine wpAnyH_ready (rs := [13, 21]) (by kernel_rfl) (by simp) ?_
      refine AllReadyH.cons (at_list rfl) (fun K hK => ?_) (AllReadyH.cons (at_list rfl) (fun K hK => ?_) (AllReadyH.nil))
      · go_simp
        refine ((FF.out).cs _ hHeld.2.2).mono ?_
        rintro e y2 ⟨rfl, hy2⟩
        go_wp2_with fail
        refine hK.out _ _ ?_ (fun hHeld2 => ?_)
        · exact ⟨bstep hHeld.1 hy2, hHeld.2.1.keptB hy2, hHeld.2.2.keptB hy2⟩
        clear hK K hHeld
        have hHeld := hHeld2
        clear hHeld2 hy2
        try simp only [Act.put, List.setIfInBounds_toArray, List.set_cons_zero, List.set_cons_succ]
        refine wpAnyH_ready (rs := [15, 21]) (by kernel_rfl) (by simp) ?_
        refine AllReadyH.cons (at_list rfl) (fun K hK => ?_) (AllReadyH.cons (at_list rfl) (fun K hK => ?_) (AllReadyH.nil))
        · go_simp
          refine ((FF.out).cw _ hHeld.2.2).mono ?_
          rintro e y3 ⟨rfl, hy3⟩
          go_wp2_with fail
          refine hK.out _ _ ?_ (fun hHeld2 => ?_)
          · exact ⟨bstep hHeld.1 hy3, hHeld.2.1.keptB hy3, hHeld.2.2.keptB hy3⟩
          clear hK K hHeld
          have hHeld := hHeld2
          clear hHeld2 hy3
          try simp only [Act.put, List.setIfInBounds_toArray, List.set_cons_zero, List.set_cons_succ]
          refine wpAnyH_take (i := 20) (v := .agg (hdA ⟨G.t, G.d, G.f, G.c, zeroP, G.s, z33⟩)) (at_list rfl) (by kernel_rfl) (by kernel_rfl) (by kernel_rfl) (fun _ _ _ h => h) (yields_buildH (by rfl) 32 _ rfl (hdA ⟨G.t, G.d, G.f, G.c, zeroP, G.s, z33⟩) (by kernel_rfl)) hHeld ?_
          try simp only [Act.put, List.setIfInBounds_toArray, List.set_cons_zero, List.set_cons_succ]
          refine wpAnyH_ready (rs := [21]) (by kernel_rfl) (by simp) ?_
          refine AllReadyH.cons (at_list rfl) (fun K hK => ?_) (AllReadyH.nil)
          refine step_alloc (by rfl) 32 rfl (hdA zeroH) (by kernel_rfl) ?_
          intro g4 y4 hl4 n4 hy4
          have K4 := Lib.hid n4
          have L4 := Lib.hid (show w.heap.size ≤ g4 from Nat.le_trans hHeld.1.size hl4)
          have N24 := Lib.hid (show gK2 ≠ g4 by have := hHeld.2.1.inside; omega)
          have NA4 := Lib.hid (show a.block ≠ g4 by have := hHeld.2.2.inside (by rw [(FF.out).len]; omega); omega)
          refine hK.out _ _ ?_ (fun hHeld2 => ?_)
          · exact ⟨bstep hHeld.1 hy4, hHeld.2.1.keptB hy4, hHeld.2.2.keptB hy4⟩
          clear hK K hHeld
          have hHeld := hHeld2
          clear hHeld2
          try simp only [Act.put]
          try simp only [List.setIfInBounds_toArray, List.set_cons_zero, List.set_cons_succ]
          clear hl4 n4 hy4
          refine wpAnyH_ready (rs := [22]) (by kernel_rfl) (by simp) ?_
          refine AllReadyH.cons (at_list rfl) (fun K hK => ?_) (AllReadyH.nil)
          refine step_store (by rfl) 32 _ _ rfl g4 0 (hdA ⟨G.t, G.d, G.f, G.c, zeroP, G.s, z33⟩).toList rfl rfl K4.out (by kernel_rfl) (by kernel_rfl) (of_decide_eq_true (by kernel_rfl)) (hdA ⟨G.t, G.d, G.f, G.c, zeroP, G.s, z33⟩) (by kernel_rfl) ?_
          intro y5 n4 hy5
          replace K4 := Lib.hid n4
          refine hK.out _ _ ?_ (fun hHeld2 => ?_)
          · exact ⟨btouch hHeld.1 hy5 L4.out, hHeld.2.1.touch hy5 N24.out, hHeld.2.2.touch hy5 NA4.out⟩
          clear hK K hHeld
          have hHeld := hHeld2
          clear hHeld2
          try simp only [Act.put]
          clear n4 hy5
          refine wpAnyH_done (by kernel_rfl) ?_ _
          refine NoPanic.normal ?_
          go_wp2_with fail
          go_meet
          exact ⟨g4, rfl, rfl, rfl, rfl, rfl, rfl, rfl, rfl, rfl, rfl, rfl, rfl, rfl, rfl, rfl, rfl, rfl, rfl, rfl, rfl, rfl, rfl, hHeld.1, hHeld.2.2, hHeld.2.1, K4.out, N24.out, L4.out, NA4.out⟩
        · refine step_alloc (by rfl) 32 rfl (hdA zeroH) (by kernel_rfl) ?_
          intro g4 y6 hl4 n4 hy6
          have K4 := Lib.hid n4
          have L4 := Lib.hid (show w.heap.size ≤ g4 from Nat.le_trans hHeld.1.size hl4)
          have N24 := Lib.hid (show gK2 ≠ g4 by have := hHeld.2.1.inside; omega)
          have NA4 := Lib.hid (show a.block ≠ g4 by have := hHeld.2.2.inside (by rw [(FF.out).len]; omega); omega)
          refine hK.out _ _ ?_ (fun hHeld2 => ?_)
          · exact ⟨bstep hHeld.1 hy6, hHeld.2.1.keptB hy6, hHeld.2.2.keptB hy6⟩
          clear hK K hHeld
          have hHeld := hHeld2
          clear hHeld2
          try simp only [Act.put]
          try simp only [List.setIfInBounds_toArray, List.set_cons_zero, List.set_cons_succ]
          clear hl4 n4 hy6
          refine wpAnyH_ready (rs := [15]) (by kernel_rfl) (by simp) ?_
          refine AllReadyH.cons (at_list rfl) (fun K hK => ?_) (AllReadyH.nil)
          go_simp
          refine ((FF.out).cw _ hHeld.2.2).mono ?_
          rintro e y7 ⟨rfl, hy7⟩
          replace K4 := Lib.hid ((K4.out).keptB hy7)
          go_wp2_with fail
          refine hK.out _ _ ?_ (fun hHeld2 => ?_)
          · exact ⟨bstep hHeld.1 hy7, hHeld.2.1.keptB hy7, hHeld.2.2.keptB hy7⟩
          clear hK K hHeld
          have hHeld := hHeld2
          clear hHeld2 hy7
          try simp only [Act.put, List.setIfInBounds_toArray, List.set_cons_zero, List.set_cons_succ]
          refine wpAnyH_take (i := 20) (v := .agg (hdA ⟨G.t, G.d, G.f, G.c, zeroP, G.s, z33⟩)) (at_list rfl) (by kernel_rfl) (by kernel_rfl) (by kernel_rfl) (fun _ _ _ h => h) (yields_buildH (by rfl) 32 _ rfl (hdA ⟨G.t, G.d, G.f, G.c, zeroP, G.s, z33⟩) (by kernel_rfl)) hHeld ?_
          try simp only [Act.put, List.setIfInBounds_toArray, List.set_cons_zero, List.set_cons_succ]
          refine wpAnyH_ready (rs := [22]) (by kernel_rfl) (by simp) ?_
          refine AllReadyH.cons (at_list rfl) (fun K hK => ?_) (AllReadyH.nil)
          refine step_store (by rfl) 32 _ _ rfl g4 0 (hdA ⟨G.t, G.d, G.f, G.c, zeroP, G.s, z33⟩).toList rfl rfl K4.out (by kernel_rfl) (by kernel_rfl) (of_decide_eq_true (by kernel_rfl)) (hdA ⟨G.t, G.d, G.f, G.c, zeroP, G.s, z33⟩) (by kernel_rfl) ?_
          intro y8 n4 hy8
          replace K4 := Lib.hid n4
          refine hK.out _ _ ?_ (fun hHeld2 => ?_)
          · exact ⟨btouch hHeld.1 hy8 L4.out, hHeld.2.1.touch hy8 N24.out, hHeld.2.2.touch hy8 NA4.out⟩
          clear hK K hHeld
          have hHeld := hHeld2
          clear hHeld2
          try simp only [Act.put]
          clear n4 hy8
          refine wpAnyH_done (by kernel_rfl) ?_ _
          refine NoPanic.normal ?_
          go_wp2_with fail
          go_meet
          exact ⟨g4, rfl, rfl, rfl, rfl, rfl, rfl, rfl, rfl, rfl, rfl, rfl, rfl, rfl, rfl, rfl, rfl, rfl, rfl, rfl, rfl, rfl, rfl, hHeld.1, hHeld.2.2, hHeld.2.1, K4.out, N24.out, L4.out, NA4.out⟩
      · refine step_alloc (by rfl) 32 rfl (hdA zeroH) (by kernel_rfl) ?_
        intro g4 y9 hl4 n4 hy9
        have K4 := Lib.hid n4
        have L4 := Lib.hid (show w.heap.size ≤ g4 from Nat.le_trans hHeld.1.size hl4)
        have N24 := Lib.hid (show gK2 ≠ g4 by have := hHeld.2.1.inside; omega)
        have NA4 := Lib.hid (show a.block ≠ g4 by have := hHeld.2.2.inside (by rw [(FF.out).len]; omega); omega)
        refine hK.out _ _ ?_ (fun hHeld2 => ?_)
        · exact ⟨bstep hHeld.1 hy9, hHeld.2.1.keptB hy9, hHeld.2.2.keptB hy9⟩
        clear hK K hHeld
        have hHeld := hHeld2
        clear hHeld2
        try simp only [Act.put]
        try simp only [List.setIfInBounds_toArray, List.set_cons_zero, List.set_cons_succ]
        clear hl4 n4 hy9
        refine wpAnyH_ready (rs := [13]) (by kernel_rfl) (by simp) ?_
        refine AllReadyH.cons (at_list rfl) (fun K hK => ?_) (AllReadyH.nil)
        go_simp
        refine ((FF.out).cs _ hHeld.2.2).mono ?_
        rintro e y10 ⟨rfl, hy10⟩
        replace K4 := Lib.hid ((K4.out).keptB hy10)
        go_wp2_with fail
        refine hK.out _ _ ?_ (fun hHeld2 => ?_)
        · exact ⟨bstep hHeld.1 hy10, hHeld.2.1.keptB hy10, hHeld.2.2.keptB hy10⟩
        clear hK K hHeld
        have hHeld := hHeld2
        clear hHeld2 hy10
        try simp only [Act.put, List.setIfInBounds_toArray, List.set_cons_zero, List.set_cons_succ]
        refine wpAnyH_ready (rs := [15]) (by kernel_rfl) (by simp) ?_
        refine AllReadyH.cons (at_list rfl) (fun K hK => ?_) (AllReadyH.nil)
        go_simp
        refine ((FF.out).cw _ hHeld.2.2).mono ?_
        rintro e y11 ⟨rfl, hy11⟩
        replace K4 := Lib.hid ((K4.out).keptB hy11)
        go_wp2_with fail
        refine hK.out _ _ ?_ (fun hHeld2 => ?_)
        · exact ⟨bstep hHeld.1 hy11, hHeld.2.1.keptB hy11, hHeld.2.2.keptB hy11⟩
        clear hK K hHeld
        have hHeld := hHeld2
        clear hHeld2 hy11
        try simp only [Act.put, List.setIfInBounds_toArray, List.set_cons_zero, List.set_cons_succ]
        refine wpAnyH_take (i := 20) (v := .agg (hdA ⟨G.t, G.d, G.f, G.c, zeroP, G.s, z33⟩)) (at_list rfl) (by kernel_rfl) (by kernel_rfl) (by kernel_rfl) (fun _ _ _ h => h) (yields_buildH (by rfl) 32 _ rfl (hdA ⟨G.t, G.d, G.f, G.c, zeroP, G.s, z33⟩) (by kernel_rfl)) hHeld ?_
        try simp only [Act.put, List.setIfInBounds_toArray, List.set_cons_zero, List.set_cons_succ]
        refine wpAnyH_ready (rs := [22]) (by kernel_rfl) (by simp) ?_
        refine AllReadyH.cons (at_list rfl) (fun K hK => ?_) (AllReadyH.nil)
        refine step_store (by rfl) 32 _ _ rfl g4 0 (hdA ⟨G.t, G.d, G.f, G.c, zeroP, G.s, z33⟩).toList rfl rfl K4.out (by kernel_rfl) (by kernel_rfl) (of_decide_eq_true (by kernel_rfl)) (hdA ⟨G.t, G.d, G.f, G.c, zeroP, G.s, z33⟩) (by kernel_rfl) ?_
        intro y12 n4 hy12
        replace K4 := Lib.hid n4
        refine hK.out _ _ ?_ (fun hHeld2 => ?_)
        · exact ⟨btouch hHeld.1 hy12 L4.out, hHeld.2.1.touch hy12 N24.out, hHeld.2.2.touch hy12 NA4.out⟩
        clear hK K hHeld
        have hHeld := hHeld2
        clear hHeld2
        try simp only [Act.put]
        clear n4 hy12
        refine wpAnyH_done (by kernel_rfl) ?_ _
        refine NoPanic.normal ?_
        go_wp2_with fail
        go_meet
        exact ⟨g4, rfl, rfl, rfl, rfl, rfl, rfl, rfl, rfl, rfl, rfl, rfl, rfl, rfl, rfl, rfl, rfl, rfl, rfl, rfl, rfl, rfl, rfl, hHeld.1, hHeld.2.2, hHeld.2.1, K4.out, N24.out, L4.out, NA4.out⟩
    · refine step_alloc (by rfl) 32 rfl (hdA zeroH) (by kernel_rfl) ?_
      intro g4 y13 hl4 n4 hy13
      have K4 := Lib.hid n4
      have L4 := Lib.hid (show w.heap.size ≤ g4 from Nat.le_trans hHeld.1.size hl4)
      have N24 := Lib.hid (show gK2 ≠ g4 by have := hHeld.2.1.inside; omega)
      have NA4 := Lib.hid (show a.block ≠ g4 by have := hHeld.2.2.inside (by rw [(FF.out).len]; omega); omega)
      refine hK.out _ _ ?_ (fun hHeld2 => ?_)
      · exact ⟨bstep hHeld.1 hy13, hHeld.2.1.keptB hy13, hHeld.2.2.keptB hy13⟩
      clear hK K hHeld
      have hHeld := hHeld2
      clear hHeld2
      try simp only [Act.put]
      try simp only [List.setIfInBounds_toArray, List.set_cons_zero, List.set_cons_succ]
      clear hl4 n4 hy13
      refine wpAnyH_ready (rs := [10]) (by kernel_rfl) (by simp) ?_
      refine AllReadyH.cons (at_list rfl) (fun K hK => ?_) (AllReadyH.nil)
      go_simp
      refine ((FF.out).cv _ hHeld.2.2).mono ?_
      rintro e y14 ⟨rfl, hy14⟩
      replace K4 := Lib.hid ((K4.out).keptB hy14)
      go_wp2_with fail
      refine hK.out _ _ ?_ (fun hHeld2 => ?_)
      · exact ⟨bstep hHeld.1 hy14, hHeld.2.1.keptB hy14, hHeld.2.2.keptB hy14⟩
      clear hK K hHeld
      have hHeld := hHeld2
      clear hHeld2 hy14
      try simp only [Act.put, List.setIfInBounds_toArray, List.set_cons_zero, List.set_cons_succ]
      refine wpAnyH_ready (rs := [13]) (by kernel_rfl) (by simp) ?_
      refine AllReadyH.cons (at_list rfl) (fun K hK => ?_) (AllReadyH.nil)
      go_simp
      refine ((FF.out).cs _ hHeld.2.2).mono ?_
      rintro e y15 ⟨rfl, hy15⟩
      replace K4 := Lib.hid ((K4.out).keptB hy15)
      go_wp2_with fail
      refine hK.out _ _ ?_ (fun hHeld2 => ?_)
      · exact ⟨bstep hHeld.1 hy15, hHeld.2.1.keptB hy15, hHeld.2.2.keptB hy15⟩
      clear hK K hHeld
      have hHeld := hHeld2
      clear hHeld2 hy15
      try simp only [Act.put, List.setIfInBounds_toArray, List.set_cons_zero, List.set_cons_succ]
      refine wpAnyH_ready (rs := [15]) (by kernel_rfl) (by simp) ?_
      refine AllReadyH.cons (at_list rfl) (fun K hK => ?_) (AllReadyH.nil)
      go_simp
      refine ((FF.out).cw _ hHeld.2.2).mono ?_
      rintro e y16 ⟨rfl, hy16⟩
      replace K4 := Lib.hid ((K4.out).keptB hy16)
      go_wp2_with fail
      refine hK.out _ _ ?_ (fun hHeld2 => ?_)
      · exact ⟨bstep hHeld.1 hy16, hHeld.2.1.keptB hy16, hHeld.2.2.keptB hy16⟩
      clear hK K hHeld
      have hHeld := hHeld2
      clear hHeld2 hy16
      try simp only [Act.put, List.setIfInBounds_toArray, List.set_cons_zero, List.set_cons_succ]
      refine wpAnyH_take (i := 20) (v := .agg (hdA ⟨G.t, G.d, G.f, G.c, zeroP, G.s, z33⟩)) (at_list rfl) (by kernel_rfl) (by kernel_rfl) (by kernel_rfl) (fun _ _ _ h => h) (yields_buildH (by rfl) 32 _ rfl (hdA ⟨G.t, G.d, G.f, G.c, zeroP, G.s, z33⟩) (by kernel_rfl)) hHeld ?_
      try simp only [Act.put, List.setIfInBounds_toArray, List.set_cons_zero, List.set_cons_succ]
      refine wpAnyH_ready (rs := [22]) (by kernel_rfl) (by simp) ?_
      refine AllReadyH.cons (at_list rfl) (fun K hK => ?_) (AllReadyH.nil)
      refine step_store (by rfl) 32 _ _ rfl g4 0 (hdA ⟨G.t, G.d, G.f, G.c, zeroP, G.s, z33⟩).toList rfl rfl K4.out (by kernel_rfl) (by kernel_rfl) (of_decide_eq_true (by kernel_rfl)) (hdA ⟨G.t, G.d, G.f, G.c, zeroP, G.s, z33⟩) (by kernel_rfl) ?_
      intro y17 n4 hy17
      replace K4 := Lib.hid n4
      refine hK.out _ _ ?_ (fun hHeld2 => ?_)
      · exact ⟨btouch hHeld.1 hy17 L4.out, hHeld.2.1.touch hy17 N24.out, hHeld.2.2.touch hy17 NA4.out⟩
      clear hK K hHeld
      have hHeld := hHeld2
      clear hHeld2
      try simp only [Act.put]
      clear n4 hy17
      refine wpAnyH_done (by kernel_rfl) ?_ _
      refine NoPanic.normal ?_
      go_wp2_with fail
      go_meet
      exact ⟨g4, rfl, rfl, rfl, rfl, rfl, rfl, rfl, rfl, rfl, rfl, rfl, rfl, rfl, rfl, rfl, rfl, rfl, rfl, rfl, rfl, rfl, rfl, hHeld.1, hHeld.2.2, hHeld.2.1, K4.out, N24.out, L4.out, NA4.out⟩
  case rest =>
    obtain ⟨gK4, rfl, rfl, rfl, rfl, rfl, rfl, rfl, rfl, rfl, rfl, rfl, rfl, rfl, rfl, rfl, rfl, rfl, rfl, rfl, rfl, rfl, rfl, hb, hba, hr, h4, hne, hle, hna⟩ := hcut
    have HB := Lib.hid hb
    have BA := Lib.hid hba
    have K2 := Lib.hid hr
    have K4 := Lib.hid h4
    have NK2K4 := Lib.hid hne
    have LK4 := Lib.hid hle
    have NA4 := Lib.hid hna
    clear hb hba hr h4 hne hle hna
    have y14 := (K4.out).reads (i := 14) (x := .int .i64 z33) rfl
    have eL := (FF.out).gl
    have eL2 : Hid (z33 - 256 = G.l) := by rw [Hid, eL]; unfold sg1; rw [if_pos hh]
    have dh : decide (127 < z33) = true := decide_eq_true hh
    clear eL
    go_upto_region 8 with (refine big_set rfl 3 _ _ rfl gK4 14 (.int .i64 (z33 - 256)) rfl rfl K4.out (by kernel_rfl) rfl rfl (of_decide_eq_true (by kernel_rfl)) (hdA ⟨G.t, G.d, G.f, G.c, zeroP, G.s, z33 - 256⟩) (by kernel_rfl) ?_; intro vK41 nK4 htK4; replace K4 := Lib.hid nK4; replace K2 := Lib.hid ((K2.out).touch htK4 NK2K4.out); replace BA := Lib.hid ((BA.out).touch htK4 NA4.out); replace HB := Lib.hid (btouch HB.out htK4 LK4.out); clear nK4 htK4)
    rw [eL2.out] at K4
    clear eL2 dh hh
    clear y14
    have s20 := (FF.out).s20
    go_wp2_with fail
    clear s20
    refine ((FF.out).cg _ BA.out).mono ?_
    rintro e w6 ⟨rfl, h6⟩
    replace K2 := Lib.hid ((K2.out).keptB h6)
    replace K4 := Lib.hid ((K4.out).keptB h6)
    replace BA := Lib.hid ((BA.out).keptB h6)
    replace HB := Lib.hid (bstep HB.out h6)
    clear h6
    go_upto_region 9 with (refine big_store rfl 26 _ _ rfl gK4 4 [.int .u8 G.p.c.b0, .int .u8 G.p.c.b1, .int .u8 G.p.c.b2, .int .u8 G.p.c.b3, .int .u8 G.p.c.b4, .int .u8 G.p.c.b5, .int .u8 G.p.c.b6, .int .u8 G.p.c.b7, .int .i64 G.p.n] rfl rfl K4.out (by kernel_rfl) (by kernel_rfl) (of_decide_eq_true (by kernel_rfl)) (hdA G) (by kernel_rfl) ?_; intro vK42 nK4 htK4; replace K4 := Lib.hid nK4; replace K2 := Lib.hid ((K2.out).touch htK4 NK2K4.out); replace BA := Lib.hid ((BA.out).touch htK4 NA4.out); replace HB := Lib.hid (btouch HB.out htK4 LK4.out); clear nK4 htK4)
    have y0 := (K4.out).reads (i := 0) (x := .int .i64 G.t) rfl
    go_wp2_with fail
    refine ((FF.out).cl _).mono ?_
    rintro e w7 ⟨rfl, rfl⟩
    clear y0
    have d2 : (m == 0) = false := by simp [hm]
    go_upto_region 11 with fail
    refine wp_region_held_drew (S := fun v => Below w.heap.size w v ∧ Holds v gK2 32 (hdA zeroH) ∧ BytesAt v a zs ∧ Holds v gK4 32 (hdA G)) (by kernel_rfl) ?_ (fun hHeld => ?_)
    · exact ⟨bdrew HB.out, (K2.out).drew, (BA.out).drew, (K4.out).drew⟩
    clear HB K2 BA K4
    refine wpAnyH_take (i := 0) (v := .slice (some a) L C) (at_list rfl) (by kernel_rfl) (by kernel_rfl) (by kernel_rfl) (fun _ _ _ h => h) (Or.inl ⟨by rfl, ?_⟩) hHeld ?_
    · intro v hSv
      clear hHeld
      go_simp
    try simp only [Act.put, List.setIfInBounds_toArray, List.set_cons_zero, List.set_cons_succ]
    refine wpAnyH_take (i := 2) (v := .pointer (some ⟨gK4, 0, none⟩)) (at_list rfl) (by kernel_rfl) (by kernel_rfl) (by kernel_rfl) (fun _ _ _ h => h) (Or.inl ⟨by rfl, ?_⟩) hHeld ?_
    · intro v hSv
      clear hHeld
      go_simp
    try simp only [Act.put, List.setIfInBounds_toArray, List.set_cons_zero, List.set_cons_succ]
    refine wpAnyH_take (i := 3) (v := .int .i64 G.t) (at_list rfl) (by kernel_rfl) (by kernel_rfl) (by kernel_rfl) (fun _ _ _ h => h) (Or.inl ⟨by rfl, ?_⟩) hHeld ?_
    · intro v hSv
      clear hHeld
      have q_ := Holds.reads hSv.2.2.2 (i := 0) (x := .int .i64 G.t) rfl
      clear hSv
      go_simp
    try simp only [Act.put, List.setIfInBounds_toArray, List.set_cons_zero, List.set_cons_succ]
    refine wpAnyH_ready (rs := [1]) (by kernel_rfl) (by simp) ?_
    refine AllReadyH.cons (at_list rfl) (fun K hK => ?_) AllReadyH.nil
    go_simp
    refine ((FF.out).cx _ hHeld.2.2.1).mono ?_
    rintro e v1 ⟨rfl, hv1⟩
    go_wp2_with fail
    refine hK.out _ _ ?_ (fun hHeld2 => ?_)
    · exact ⟨bstep hHeld.1 hv1, hHeld.2.1.keptB hv1, hHeld.2.2.1.keptB hv1, hHeld.2.2.2.keptB hv1⟩
    clear hK K hHeld
    have hHeld := hHeld2
    clear hHeld2 hv1
    try simp only [Act.put, List.setIfInBounds_toArray, List.set_cons_zero, List.set_cons_succ]
    refine wpAnyH_ready (rs := [4]) (by kernel_rfl) (by simp) ?_
    refine AllReadyH.cons (at_list rfl) (fun K hK => ?_) AllReadyH.nil
    go_simp
    refine ((FF.out).cl _).mono ?_
    rintro e vp ⟨rfl, rfl⟩
    go_wp2_with fail
    refine hK.out _ _ hHeld (fun hHeld2 => ?_)
    clear hK K hHeld
    have hHeld := hHeld2
    clear hHeld2
    try simp only [Act.put, List.setIfInBounds_toArray, List.set_cons_zero, List.set_cons_succ]
    refine wpAnyH_take (i := 5) (v := .bool false) (at_list rfl) (by kernel_rfl) (by kernel_rfl) (by kernel_rfl) (fun _ _ _ h => h) (Or.inl ⟨by rfl, ?_⟩) hHeld ?_
    · intro v hSv
      clear hHeld
      clear hSv
      go_simp
    try simp only [Act.put, List.setIfInBounds_toArray, List.set_cons_zero, List.set_cons_succ]
    refine wpAnyH_take (i := 6) (v := .bool false) (at_list rfl) (by kernel_rfl) (by kernel_rfl) (by kernel_rfl) (fun _ _ _ h => h) (Or.inl ⟨by rfl, ?_⟩) hHeld ?_
    · intro v hSv
      clear hHeld
      go_simp
    try simp only [Act.put, List.setIfInBounds_toArray, List.set_cons_zero, List.set_cons_succ]
    refine wpAnyH_take (i := 7) (v := .slice (some a) L C) (at_list rfl) (by kernel_rfl) (by kernel_rfl) (by kernel_rfl) (fun _ _ _ h => h) (Or.inl ⟨by rfl, ?_⟩) hHeld ?_
    · intro v hSv
      clear hHeld
      go_simp
    try simp only [Act.put, List.setIfInBounds_toArray, List.set_cons_zero, List.set_cons_succ]
    refine wpAnyH_take (i := 8) (v := .int .i64 L) (at_list rfl) (by kernel_rfl) (by kernel_rfl) (by kernel_rfl) (fun _ _ _ h => h) (Or.inl ⟨by rfl, ?_⟩) hHeld ?_
    · intro v hSv
      clear hHeld
      go_simp
    try simp only [Act.put, List.setIfInBounds_toArray, List.set_cons_zero, List.set_cons_succ]
    refine wpAnyH_take (i := 9) (v := .pointer (some ⟨gK4, 0, none⟩)) (at_list rfl) (by kernel_rfl) (by kernel_rfl) (by kernel_rfl) (fun _ _ _ h => h) (Or.inl ⟨by rfl, ?_⟩) hHeld ?_
    · intro v hSv
      clear hHeld
      go_simp
    try simp only [Act.put, List.setIfInBounds_toArray, List.set_cons_zero, List.set_cons_succ]
    refine wpAnyH_take (i := 10) (v := .int .i64 G.t) (at_list rfl) (by kernel_rfl) (by kernel_rfl) (by kernel_rfl) (fun _ _ _ h => h) (Or.inl ⟨by rfl, ?_⟩) hHeld ?_
    · intro v hSv
      clear hHeld
      have q_ := Holds.reads hSv.2.2.2 (i := 0) (x := .int .i64 G.t) rfl
      clear hSv
      go_simp
    try simp only [Act.put, List.setIfInBounds_toArray, List.set_cons_zero, List.set_cons_succ]
    refine wpAnyH_ready (rs := [11]) (by kernel_rfl) (by simp) ?_
    refine AllReadyH.cons (at_list rfl) (fun K hK => ?_) AllReadyH.nil
    go_simp
    refine ((FF.out).cl _).mono ?_
    rintro e vp ⟨rfl, rfl⟩
    go_wp2_with fail
    refine hK.out _ _ hHeld (fun hHeld2 => ?_)
    clear hK K hHeld
    have hHeld := hHeld2
    clear hHeld2
    try simp only [Act.put, List.setIfInBounds_toArray, List.set_cons_zero, List.set_cons_succ]
    refine wpAnyH_take (i := 12) (v := .bool true) (at_list rfl) (by kernel_rfl) (by kernel_rfl) (by kernel_rfl) (fun _ _ _ h => h) (Or.inl ⟨by rfl, ?_⟩) hHeld ?_
    · intro v hSv
      clear hHeld
      clear hSv
      go_simp
    try simp only [Act.put, List.setIfInBounds_toArray, List.set_cons_zero, List.set_cons_succ]
    refine wpAnyH_take (i := 13) (v := .bool true) (at_list rfl) (by kernel_rfl) (by kernel_rfl) (by kernel_rfl) (fun _ _ _ h => h) (Or.inl ⟨by rfl, ?_⟩) hHeld ?_
    · intro v hSv
      clear hHeld
      go_simp
    try simp only [Act.put, List.setIfInBounds_toArray, List.set_cons_zero, List.set_cons_succ]
    refine wpAnyH_done (by kernel_rfl) ?_ _
    have HB := Lib.hid hHeld.1
    have K2 := Lib.hid hHeld.2.1
    have BA := Lib.hid hHeld.2.2.1
    have K4 := Lib.hid hHeld.2.2.2
    clear hHeld
    go_wp2_with (first | (refine big_fill rfl 32 _ _ rfl gK2 (hdA zeroH) rfl rfl K2.out (by kernel_rfl) (by kernel_rfl) (by kernel_rfl) ?_; intro vK29 nK2 htK2; replace K2 := Lib.hid nK2; replace HB := Lib.hid (btouch HB.out htK2 LK2.out); clear nK2 htK2) | (refine big_build rfl 32 _ rfl (hdA zeroH) (by kernel_rfl) ?_))
    refine bodyPost_ret (results_two rfl _ _ gK2 _ (hdA zeroH) (.int .i64 53) _ rfl rfl K2.out Tryd.underlying32 rfl (by kernel_rfl)) rfl ⟨?_, HB.out⟩
    exact HX.out.symm
set_option maxHeartbeats 4000000 in
theorem rd_54_h (a : Addr) (L C : Nat) (zs : List Int) (G : Hd) (m x : Int) (z0 z1 z4 z5 z16 z17 z18 z19 z32 z33 : Int) (w : World) (E : Value) (hE : E = .tuple #[.agg (hdA zeroH), .int .i64 54]) (F : RDF a L C zs G m x z0 z1 z4 z5 z16 z17 z18 z19 z32 z33) (hc : BytesAt w a zs) (h2 : z1 = 2) (hh : 127 < z33) (hm : m ≠ 0) (hx : x = m) (hl : (L : Int) = m) (am : 15 < z0 ∨ z5 ≠ 0 ∨ z16 ≠ 0 ∨ z17 ≠ 0 ∨ z18 ≠ 0 ∨ z19 ≠ 0 ∨ z32 ≠ 0) :
    Calls Tryd.prog 7 #[.slice (some a) L C] w fun e w' => e = .returned E ∧ Below w.heap.size w w' := by
  have HB := Lib.hid (Below.refl w.heap.size w)
  have HX := Lib.hid (congrArg Ending.returned hE)
  clear hE
  have d1 : (z1 != 2) = false := by simp [h2]
  clear h2
  have dx : (x != m) = false := by simp [hx]
  have dL : ((L : Int) != m) = false := by simp [hl]
  clear hx hl
  have BA := Lib.hid hc
  have FF := Lib.hid F
  have k1 := F.l34
  have k2 := F.lc
  have k3 := F.cm
  have k4 := F.b0
  have k5 := F.b4
  have k6 := F.b33
  unfold maxLen at k3
  have hLs : decide ((L : Int) < 34) = false := decide_eq_false (by omega)
  clear F hc
  go_enter Tryd.func7, Tryd.ntmps7
  go_upto_region 5 with (refine big_alloc rfl 32 rfl (hdA zeroH) (by kernel_rfl) ?_; intro gK2 wK2 hlK2 nK2 hbK2; have K2 := Lib.hid nK2; have LK2 := Lib.hid (Nat.le_trans (HB.out).size hlK2); replace BA := Lib.hid ((BA.out).keptB hbK2); replace HB := Lib.hid (bstep HB.out hbK2); clear hlK2 nK2 hbK2; have e1 := (FF.out).v1 _ BA.out)
  clear e1
  go_cut [4, 14, 15, 16, 17, 18, 19, 20, 21, 22, 23, 24, 25, 26, 27, 28, 29, 30, 31, 32, 33, 34] (fun s4 s14 s15 s16 s17 s18 s19 s20 s21 s22 s23 s24 s25 s26 s27 s28 s29 s30 s31 s32 s33 s34 wx => RDCut a L C zs G z0 z4 z33 w gK2 s4 s14 s15 s16 s17 s18 s19 s20 s21 s22 s23 s24 s25 s26 s27 s28 s29 s30 s31 s32 s33 s34 wx)
  case first =>
    refine wp_region_noPanic ?_
    refine wp_region_held_drew (S := fun v => Below w.heap.size w v ∧ Holds v gK2 32 (hdA zeroH) ∧ BytesAt v a zs) (by kernel_rfl) ?_ (fun hHeld => ?_)
    · exact ⟨bdrew HB.out, (K2.out).drew, (BA.out).drew⟩
    clear HB K2 BA
    refine wpAnyH_take (i := 0) (v := .slice (some a) L C) (at_list rfl) (by kernel_rfl) (by kernel_rfl) (by kernel_rfl) (fun _ _ _ h => h) (Or.inl ⟨by rfl, ?_⟩) hHeld ?_
    · intro v hSv
      clear hHeld
      go_simp
    try simp only [Act.put, List.setIfInBounds_toArray, List.set_cons_zero, List.set_cons_succ]
    refine wpAnyH_take (i := 1) (v := .pointer (some a)) (at_list rfl) (by kernel_rfl) (by kernel_rfl) (by kernel_rfl) (fun _ _ _ h => h) (Or.inl ⟨by rfl, ?_⟩) hHeld ?_
    · intro v hSv
      clear hHeld
      clear hSv
      go_simp
      intro h
      exfalso
      omega
    try simp only [Act.put, List.setIfInBounds_toArray, List.set_cons_zero, List.set_cons_succ]
    refine wpAnyH_take (i := 2) (v := .int .u8 z0) (at_list rfl) (by kernel_rfl) (by kernel_rfl) (by kernel_rfl) (fun _ _ _ h => h) (Or.inl ⟨by rfl, ?_⟩) hHeld ?_
    · intro v hSv
      clear hHeld
      have c0 := (FF.out).v0 v hSv.2.2
      clear hSv
      go_simp
    try simp only [Act.put, List.setIfInBounds_toArray, List.set_cons_zero, List.set_cons_succ]
    refine wpAnyH_take (i := 3) (v := .int .i64 z0) (at_list rfl) (by kernel_rfl) (by kernel_rfl) (by kernel_rfl) (fun _ _ _ h => h) (Or.inl ⟨by rfl, ?_⟩) hHeld ?_
    · intro v hSv
      clear hHeld
      clear hSv
      go_simp
      rw [IntKind.wrap_i64]
      omega
    try simp only [Act.put, List.setIfInBounds_toArray, List.set_cons_zero, List.set_cons_succ]
    refine wpAnyH_take (i := 4) (v := .int .i64 G.t) (at_list rfl) (by kernel_rfl) (by kernel_rfl) (by kernel_rfl) (fun _ _ _ h => h) (Or.inl ⟨by rfl, ?_⟩) hHeld ?_
    · intro v hSv
      clear hHeld
      clear hSv
      have hgt := (FF.out).gt
      go_simp
      rw [Int.tmod_eq_emod_of_nonneg (by omega)]
    try simp only [Act.put, List.setIfInBounds_toArray, List.set_cons_zero, List.set_cons_succ]
    refine wpAnyH_take (i := 5) (v := .slice (some a) L C) (at_list rfl) (by kernel_rfl) (by kernel_rfl) (by kernel_rfl) (fun _ _ _ h => h) (Or.inl ⟨by rfl, ?_⟩) hHeld ?_
    · intro v hSv
      clear hHeld
      go_simp
    try simp only [Act.put, List.setIfInBounds_toArray, List.set_cons_zero, List.set_cons_succ]
    refine wpAnyH_take (i := 6) (v := .pointer (some ⟨a.block, a.off + 4, none⟩)) (at_list rfl) (by kernel_rfl) (by kernel_rfl) (by kernel_rfl) (fun _ _ _ h => h) (Or.inl ⟨by rfl, ?_⟩) hHeld ?_
    · intro v hSv
      clear hHeld
      clear hSv
      go_simp
      intro h
      exfalso
      omega
    try simp only [Act.put, List.setIfInBounds_toArray, List.set_cons_zero, List.set_cons_succ]
    refine wpAnyH_take (i := 7) (v := .int .u8 z4) (at_list rfl) (by kernel_rfl) (by kernel_rfl) (by kernel_rfl) (fun _ _ _ h => h) (Or.inl ⟨by rfl, ?_⟩) hHeld ?_
    · intro v hSv
      clear hHeld
      have c4 := (FF.out).v4 v hSv.2.2
      clear hSv
      go_simp
    try simp only [Act.put, List.setIfInBounds_toArray, List.set_cons_zero, List.set_cons_succ]
    refine wpAnyH_take (i := 8) (v := .int .i64 G.d) (at_list rfl) (by kernel_rfl) (by kernel_rfl) (by kernel_rfl) (fun _ _ _ h => h) (Or.inl ⟨by rfl, ?_⟩) hHeld ?_
    · intro v hSv
      clear hHeld
      clear hSv
      have hgd := (FF.out).gd
      go_simp
      rw [IntKind.wrap_i64]
      omega
    try simp only [Act.put, List.setIfInBounds_toArray, List.set_cons_zero, List.set_cons_succ]
    refine wpAnyH_take (i := 9) (v := .slice (some a) L C) (at_list rfl) (by kernel_rfl) (by kernel_rfl) (by kernel_rfl) (fun _ _ _ h => h) (Or.inl ⟨by rfl, ?_⟩) hHeld ?_
    · intro v hSv
      clear hHeld
      go_simp
    try simp only [Act.put, List.setIfInBounds_toArray, List.set_cons_zero, List.set_cons_succ]
    refine wpAnyH_take (i := 11) (v := .slice (some a) L C) (at_list rfl) (by kernel_rfl) (by kernel_rfl) (by kernel_rfl) (fun _ _ _ h => h) (Or.inl ⟨by rfl, ?_⟩) hHeld ?_
    · intro v hSv
      clear hHeld
      go_simp
    try simp only [Act.put, List.setIfInBounds_toArray, List.set_cons_zero, List.set_cons_succ]
    refine wpAnyH_take (i := 12) (v := .slice (some ⟨a.block, a.off + 8, none⟩) 8 (C - 8)) (at_list rfl) (by kernel_rfl) (by kernel_rfl) (by kernel_rfl) (fun _ _ _ h => h) (Or.inl ⟨by rfl, ?_⟩) hHeld ?_
    · intro v hSv
      clear hHeld
      clear hSv
      have hsl := (FF.out).s8 v
      go_simp
    try simp only [Act.put, List.setIfInBounds_toArray, List.set_cons_zero, List.set_cons_succ]
    refine wpAnyH_take (i := 14) (v := .slice (some a) L C) (at_list rfl) (by kernel_rfl) (by kernel_rfl) (by kernel_rfl) (fun _ _ _ h => h) (Or.inl ⟨by rfl, ?_⟩) hHeld ?_
    · intro v hSv
      clear hHeld
      go_simp
    try simp only [Act.put, List.setIfInBounds_toArray, List.set_cons_zero, List.set_cons_succ]
    refine wpAnyH_take (i := 16) (v := .slice (some a) L C) (at_list rfl) (by kernel_rfl) (by kernel_rfl) (by kernel_rfl) (fun _ _ _ h => h) (Or.inl ⟨by rfl, ?_⟩) hHeld ?_
    · intro v hSv
      clear hHeld
      go_simp
    try simp only [Act.put, List.setIfInBounds_toArray, List.set_cons_zero, List.set_cons_succ]
    refine wpAnyH_take (i := 17) (v := .pointer (some ⟨a.block, a.off + 33, none⟩)) (at_list rfl) (by kernel_rfl) (by kernel_rfl) (by kernel_rfl) (fun _ _ _ h => h) (Or.inl ⟨by rfl, ?_⟩) hHeld ?_
    · intro v hSv
      clear hHeld
      clear hSv
      go_simp
      intro h
      exfalso
      omega
    try simp only [Act.put, List.setIfInBounds_toArray, List.set_cons_zero, List.set_cons_succ]
    refine wpAnyH_take (i := 18) (v := .int .u8 z33) (at_list rfl) (by kernel_rfl) (by kernel_rfl) (by kernel_rfl) (fun _ _ _ h => h) (Or.inl ⟨by rfl, ?_⟩) hHeld ?_
    · intro v hSv
      clear hHeld
      have c33 := (FF.out).v33 v hSv.2.2
      clear hSv
      go_simp
    try simp only [Act.put, List.setIfInBounds_toArray, List.set_cons_zero, List.set_cons_succ]
    refine wpAnyH_take (i := 19) (v := .int .i64 z33) (at_list rfl) (by kernel_rfl) (by kernel_rfl) (by kernel_rfl) (fun _ _ _ h => h) (Or.inl ⟨by rfl, ?_⟩) hHeld ?_
    · intro v hSv
      clear hHeld
      clear hSv
      go_simp
      rw [IntKind.wrap_i64]
      omega
    try simp only [Act.put, List.setIfInBounds_toArray, List.set_cons_zero, List.set_cons_succ]
    refine wpAnyH_ready (rs := [10, 21]) (by kernel_rfl) (by simp) ?_
    refine AllReadyH.cons (at_list rfl) (fun K hK => ?_) (AllReadyH.cons (at_list rfl) (fun K hK => ?_) (AllReadyH.nil))
    · go_simp
      refine ((FF.out).cv _ hHeld.2.2).mono ?_
      rintro e y1 ⟨rfl, hy1⟩
      go_wp2_with fail
      refine hK.out _ _ ?_ (fun hHeld2 => ?_)
      · exact ⟨bstep hHeld.1 hy1, hHeld.2.1.keptB hy1, hHeld.2.2.keptB hy1⟩
      clear hK K hHeld
      have hHeld := hHeld2
      clear hHeld2 hy1
      try simp only [Act.put, List.setIfInBounds_toArray, List.set_cons_zero, List.set_cons_succ]
      refine wpAnyH_ready (rs := [13, 21]) (by kernel_rfl) (by simp) ?_
      refine AllReadyH.cons (at_list rfl) (fun K hK => ?_) (AllReadyH.cons (at_list rfl) (fun K hK => ?_) (AllReadyH.nil))
      · go_simp
        refine ((FF.out).cs _ hHeld.2.2).mono ?_
        rintro e y2 ⟨rfl, hy2⟩
        go_wp2_with fail
        refine hK.out _ _ ?_ (fun hHeld2 => ?_)
        · exact ⟨bstep hHeld.1 hy2, hHeld.2.1.keptB hy2, hHeld.2.2.keptB hy2⟩
        clear hK K hHeld
        have hHeld := hHeld2
        clear hHeld2 hy2
        try simp only [Act.put, List.setIfInBounds_toArray, List.set_cons_zero, List.set_cons_succ]
        refine wpAnyH_ready (rs := [15, 21]) (by kernel_rfl) (by simp) ?_
        refine AllReadyH.cons (at_list rfl) (fun K hK => ?_) (AllReadyH.cons (at_list rfl) (fun K hK => ?_) (AllReadyH.nil))
        · go_simp
          refine ((FF.out).cw _ hHeld.2.2).mono ?_
          rintro e y3 ⟨rfl, hy3⟩
          go_wp2_with fail
          refine hK.out _ _ ?_ (fun hHeld2 => ?_)
          · exact ⟨bstep hHeld.1 hy3, hHeld.2.1.keptB hy3, hHeld.2.2.keptB hy3⟩
          clear hK K hHeld
          have hHeld := hHeld2
          clear hHeld2 hy3
          try simp only [Act.put, List.setIfInBounds_toArray, List.set_cons_zero, List.set_cons_succ]
          refine wpAnyH_take (i := 20) (v := .agg (hdA ⟨G.t, G.d, G.f, G.c, zeroP, G.s, z33⟩)) (at_list rfl) (by kernel_rfl) (by kernel_rfl) (by kernel_rfl) (fun _ _ _ h => h) (yields_buildH (by rfl) 32 _ rfl (hdA ⟨G.t, G.d, G.f, G.c, zeroP, G.s, z33⟩) (by kernel_rfl)) hHeld ?_
          try simp only [Act.put, List.setIfInBounds_toArray, List.set_cons_zero, List.set_cons_succ]
          refine wpAnyH_ready (rs := [21]) (by kernel_rfl) (by simp) ?_
          refine AllReadyH.cons (at_list rfl) (fun K hK => ?_) (AllReadyH.nil)
          refine step_alloc (by rfl) 32 rfl (hdA zeroH) (by kernel_rfl) ?_
          intro g4 y4 hl4 n4 hy4
          have K4 := Lib.hid n4
          have L4 := Lib.hid (show w.heap.size ≤ g4 from Nat.le_trans hHeld.1.size hl4)
          have N24 := Lib.hid (show gK2 ≠ g4 by have := hHeld.2.1.inside; omega)
          have NA4 := Lib.hid (show a.block ≠ g4 by have := hHeld.2.2.inside (by rw [(FF.out).len]; omega); omega)
          refine hK.out _ _ ?_ (fun hHeld2 => ?_)
          · exact ⟨bstep hHeld.1 hy4, hHeld.2.1.keptB hy4, hHeld.2.2.keptB hy4⟩
          clear hK K hHeld
          have hHeld := hHeld2
          clear hHeld2
          try simp only [Act.put]
          try simp only [List.setIfInBounds_toArray, List.set_cons_zero, List.set_cons_succ]
          clear hl4 n4 hy4
          refine wpAnyH_ready (rs := [22]) (by kernel_rfl) (by simp) ?_
          refine AllReadyH.cons (at_list rfl) (fun K hK => ?_) (AllReadyH.nil)
          refine step_store (by rfl) 32 _ _ rfl g4 0 (hdA ⟨G.t, G.d, G.f, G.c, zeroP, G.s, z33⟩).toList rfl rfl K4.out (by kernel_rfl) (by kernel_rfl) (of_decide_eq_true (by kernel_rfl)) (hdA ⟨G.t, G.d, G.f, G.c, zeroP, G.s, z33⟩) (by kernel_rfl) ?_
          intro y5 n4 hy5
          replace K4 := Lib.hid n4
          refine hK.out _ _ ?_ (fun hHeld2 => ?_)
          · exact ⟨btouch hHeld.1 hy5 L4.out, hHeld.2.1.touch hy5 N24.out, hHeld.2.2.touch hy5 NA4.out⟩
          clear hK K hHeld
          have hHeld := hHeld2
          clear hHeld2
          try simp only [Act.put]
          clear n4 hy5
          refine wpAnyH_done (by kernel_rfl) ?_ _
          refine NoPanic.normal ?_
          go_wp2_with fail
          go_meet
          exact ⟨g4, rfl, rfl, rfl, rfl, rfl, rfl, rfl, rfl, rfl, rfl, rfl, rfl, rfl, rfl, rfl, rfl, rfl, rfl, rfl, rfl, rfl, rfl, hHeld.1, hHeld.2.2, hHeld.2.1, K4.out, N24.out, L4.out, NA4.out⟩
        · refine step_alloc (by rfl) 32 rfl (hdA zeroH) (by kernel_rfl) ?_
          intro g4 y6 hl4 n4 hy6
          have K4 := Lib.hid n4
          have L4 := Lib.hid (show w.heap.size ≤ g4 from Nat.le_trans hHeld.1.size hl4)
          have N24 := Lib.hid (show gK2 ≠ g4 by have := hHeld.2.1.inside; omega)
          have NA4 := Lib.hid (show a.block ≠ g4 by have := hHeld.2.2.inside (by rw [(FF.out).len]; omega); omega)
          refine hK.out _ _ ?_ (fun hHeld2 => ?_)
          · exact ⟨bstep hHeld.1 hy6, hHeld.2.1.keptB hy6, hHeld.2.2.keptB hy6⟩
          clear hK K hHeld
          have hHeld := hHeld2
          clear hHeld2
          try simp only [Act.put]
          try simp only [List.setIfInBounds_toArray, List.set_cons_zero, List.set_cons_succ]
          clear hl4 n4 hy6
          refine wpAnyH_ready (rs := [15]) (by kernel_rfl) (by simp) ?_
          refine AllReadyH.cons (at_list rfl) (fun K hK => ?_) (AllReadyH.nil)
          go_simp
          refine ((FF.out).cw _ hHeld.2.2).mono ?_
          rintro e y7 ⟨rfl, hy7⟩
          replace K4 := Lib.hid ((K4.out).keptB hy7)
          go_wp2_with fail
          refine hK.out _ _ ?_ (fun hHeld2 => ?_)
          · exact ⟨bstep hHeld.1 hy7, hHeld.2.1.keptB hy7, hHeld.2.2.keptB hy7⟩
          clear hK K hHeld
          have hHeld := hHeld2
          clear hHeld2 hy7
          try simp only [Act.put, List.setIfInBounds_toArray, List.set_cons_zero, List.set_cons_succ]
          refine wpAnyH_take (i := 20) (v := .agg (hdA ⟨G.t, G.d, G.f, G.c, zeroP, G.s, z33⟩)) (at_list rfl) (by kernel_rfl) (by kernel_rfl) (by kernel_rfl) (fun _ _ _ h => h) (yields_buildH (by rfl) 32 _ rfl (hdA ⟨G.t, G.d, G.f, G.c, zeroP, G.s, z33⟩) (by kernel_rfl)) hHeld ?_
          try simp only [Act.put, List.setIfInBounds_toArray, List.set_cons_zero, List.set_cons_succ]
          refine wpAnyH_ready (rs := [22]) (by kernel_rfl) (by simp) ?_
          refine AllReadyH.cons (at_list rfl) (fun K hK => ?_) (AllReadyH.nil)
          refine step_store (by rfl) 32 _ _ rfl g4 0 (hdA ⟨G.t, G.d, G.f, G.c, zeroP, G.s, z33⟩).toList rfl rfl K4.out (by kernel_rfl) (by kernel_rfl) (of_decide_eq_true (by kernel_rfl)) (hdA ⟨G.t, G.d, G.f, G.c, zeroP, G.s, z33⟩) (by kernel_rfl) ?_
          intro y8 n4 hy8
          replace K4 := Lib.hid n4
          refine hK.out _ _ ?_ (fun hHeld2 => ?_)
          · exact ⟨btouch hHeld.1 hy8 L4.out, hHeld.2.1.touch hy8 N24.out, hHeld.2.2.touch hy8 NA4.out⟩
          clear hK K hHeld
          have hHeld := hHeld2
          clear hHeld2
          try simp only [Act.put]
          clear n4 hy8
          refine wpAnyH_done (by kernel_rfl) ?_ _
          refine NoPanic.normal ?_
          go_wp2_with fail
          go_meet
          exact ⟨g4, rfl, rfl, rfl, rfl, rfl, rfl, rfl, rfl, rfl, rfl, rfl, rfl, rfl, rfl, rfl, rfl, rfl, rfl, rfl, rfl, rfl, rfl, hHeld.1, hHeld.2.2, hHeld.2.1, K4.out, N24.out, L4.out, NA4.out⟩
      · refine step_alloc (by rfl) 32 rfl (hdA zeroH) (by kernel_rfl) ?_
        intro g4 y9 hl4 n4 hy9
        have K4 := Lib.hid n4
        have L4 := Lib.hid (show w.heap.size ≤ g4 from Nat.le_trans hHeld.1.size hl4)
        have N24 := Lib.hid (show gK2 ≠ g4 by have := hHeld.2.1.inside; omega)
        have NA4 := Lib.hid (show a.block ≠ g4 by have := hHeld.2.2.inside (by rw [(FF.out).len]; omega); omega)
        refine hK.out _ _ ?_ (fun hHeld2 => ?_)
        · exact ⟨bstep hHeld.1 hy9, hHeld.2.1.keptB hy9, hHeld.2.2.keptB hy9⟩
        clear hK K hHeld
        have hHeld := hHeld2
        clear hHeld2
        try simp only [Act.put]
        try simp only [List.setIfInBounds_toArray, List.set_cons_zero, List.set_cons_succ]
        clear hl4 n4 hy9
        refine wpAnyH_ready (rs := [13]) (by kernel_rfl) (by simp) ?_
        refine AllReadyH.cons (at_list rfl) (fun K hK => ?_) (AllReadyH.nil)
        go_simp
        refine ((FF.out).cs _ hHeld.2.2).mono ?_
        rintro e y10 ⟨rfl, hy10⟩
        replace K4 := Lib.hid ((K4.out).keptB hy10)
        go_wp2_with fail
        refine hK.out _ _ ?_ (fun hHeld2 => ?_)
        · exact ⟨bstep hHeld.1 hy10, hHeld.2.1.keptB hy10, hHeld.2.2.keptB hy10⟩
        clear hK K hHeld
        have hHeld := hHeld2
        clear hHeld2 hy10
        try simp only [Act.put, List.setIfInBounds_toArray, List.set_cons_zero, List.set_cons_succ]
        refine wpAnyH_ready (rs := [15]) (by kernel_rfl) (by simp) ?_
        refine AllReadyH.cons (at_list rfl) (fun K hK => ?_) (AllReadyH.nil)
        go_simp
        refine ((FF.out).cw _ hHeld.2.2).mono ?_
        rintro e y11 ⟨rfl, hy11⟩
        replace K4 := Lib.hid ((K4.out).keptB hy11)
        go_wp2_with fail
        refine hK.out _ _ ?_ (fun hHeld2 => ?_)
        · exact ⟨bstep hHeld.1 hy11, hHeld.2.1.keptB hy11, hHeld.2.2.keptB hy11⟩
        clear hK K hHeld
        have hHeld := hHeld2
        clear hHeld2 hy11
        try simp only [Act.put, List.setIfInBounds_toArray, List.set_cons_zero, List.set_cons_succ]
        refine wpAnyH_take (i := 20) (v := .agg (hdA ⟨G.t, G.d, G.f, G.c, zeroP, G.s, z33⟩)) (at_list rfl) (by kernel_rfl) (by kernel_rfl) (by kernel_rfl) (fun _ _ _ h => h) (yields_buildH (by rfl) 32 _ rfl (hdA ⟨G.t, G.d, G.f, G.c, zeroP, G.s, z33⟩) (by kernel_rfl)) hHeld ?_
        try simp only [Act.put, List.setIfInBounds_toArray, List.set_cons_zero, List.set_cons_succ]
        refine wpAnyH_ready (rs := [22]) (by kernel_rfl) (by simp) ?_
        refine AllReadyH.cons (at_list rfl) (fun K hK => ?_) (AllReadyH.nil)
        refine step_store (by rfl) 32 _ _ rfl g4 0 (hdA ⟨G.t, G.d, G.f, G.c, zeroP, G.s, z33⟩).toList rfl rfl K4.out (by kernel_rfl) (by kernel_rfl) (of_decide_eq_true (by kernel_rfl)) (hdA ⟨G.t, G.d, G.f, G.c, zeroP, G.s, z33⟩) (by kernel_rfl) ?_
        intro y12 n4 hy12
        replace K4 := Lib.hid n4
        refine hK.out _ _ ?_ (fun hHeld2 => ?_)
        · exact ⟨btouch hHeld.1 hy12 L4.out, hHeld.2.1.touch hy12 N24.out, hHeld.2.2.touch hy12 NA4.out⟩
        clear hK K hHeld
        have hHeld := hHeld2
        clear hHeld2
        try simp only [Act.put]
        clear n4 hy12
        refine wpAnyH_done (by kernel_rfl) ?_ _
        refine NoPanic.normal ?_
        go_wp2_with fail
        go_meet
        exact ⟨g4, rfl, rfl, rfl, rfl, rfl, rfl, rfl, rfl, rfl, rfl, rfl, rfl, rfl, rfl, rfl, rfl, rfl, rfl, rfl, rfl, rfl, rfl, hHeld.1, hHeld.2.2, hHeld.2.1, K4.out, N24.out, L4.out, NA4.out⟩
    · refine step_alloc (by rfl) 32 rfl (hdA zeroH) (by kernel_rfl) ?_
      intro g4 y13 hl4 n4 hy13
      have K4 := Lib.hid n4
      have L4 := Lib.hid (show w.heap.size ≤ g4 from Nat.le_trans hHeld.1.size hl4)
      have N24 := Lib.hid (show gK2 ≠ g4 by have := hHeld.2.1.inside; omega)
      have NA4 := Lib.hid (show a.block ≠ g4 by have := hHeld.2.2.inside (by rw [(FF.out).len]; omega); omega)
      refine hK.out _ _ ?_ (fun hHeld2 => ?_)
      · exact ⟨bstep hHeld.1 hy13, hHeld.2.1.keptB hy13, hHeld.2.2.keptB hy13⟩
      clear hK K hHeld
      have hHeld := hHeld2
      clear hHeld2
      try simp only [Act.put]
      try simp only [List.setIfInBounds_toArray, List.set_cons_zero, List.set_cons_succ]
      clear hl4 n4 hy13
      refine wpAnyH_ready (rs := [10]) (by kernel_rfl) (by simp) ?_
      refine AllReadyH.cons (at_list rfl) (fun K hK => ?_) (AllReadyH.nil)
      go_simp
      refine ((FF.out).cv _ hHeld.2.2).mono ?_
      rintro e y14 ⟨rfl, hy14⟩
      replace K4 := Lib.hid ((K4.out).keptB hy14)
      go_wp2_with fail
      refine hK.out _ _ ?_ (fun hHeld2 => ?_)
      · exact ⟨bstep hHeld.1 hy14, hHeld.2.1.keptB hy14, hHeld.2.2.keptB hy14⟩
      clear hK K hHeld
      have hHeld := hHeld2
      clear hHeld2 hy14
      try simp only [Act.put, List.setIfInBounds_toArray, List.set_cons_zero, List.set_cons_succ]
      refine wpAnyH_ready (rs := [13]) (by kernel_rfl) (by simp) ?_
      refine AllReadyH.cons (at_list rfl) (fun K hK => ?_) (AllReadyH.nil)
      go_simp
      refine ((FF.out).cs _ hHeld.2.2).mono ?_
      rintro e y15 ⟨rfl, hy15⟩
      replace K4 := Lib.hid ((K4.out).keptB hy15)
      go_wp2_with fail
      refine hK.out _ _ ?_ (fun hHeld2 => ?_)
      · exact ⟨bstep hHeld.1 hy15, hHeld.2.1.keptB hy15, hHeld.2.2.keptB hy15⟩
      clear hK K hHeld
      have hHeld := hHeld2
      clear hHeld2 hy15
      try simp only [Act.put, List.setIfInBounds_toArray, List.set_cons_zero, List.set_cons_succ]
      refine wpAnyH_ready (rs := [15]) (by kernel_rfl) (by simp) ?_
      refine AllReadyH.cons (at_list rfl) (fun K hK => ?_) (AllReadyH.nil)
      go_simp
      refine ((FF.out).cw _ hHeld.2.2).mono ?_
      rintro e y16 ⟨rfl, hy16⟩
      replace K4 := Lib.hid ((K4.out).keptB hy16)
      go_wp2_with fail
      refine hK.out _ _ ?_ (fun hHeld2 => ?_)
      · exact ⟨bstep hHeld.1 hy16, hHeld.2.1.keptB hy16, hHeld.2.2.keptB hy16⟩
      clear hK K hHeld
      have hHeld := hHeld2
      clear hHeld2 hy16
      try simp only [Act.put, List.setIfInBounds_toArray, List.set_cons_zero, List.set_cons_succ]
      refine wpAnyH_take (i := 20) (v := .agg (hdA ⟨G.t, G.d, G.f, G.c, zeroP, G.s, z33⟩)) (at_list rfl) (by kernel_rfl) (by kernel_rfl) (by kernel_rfl) (fun _ _ _ h => h) (yields_buildH (by rfl) 32 _ rfl (hdA ⟨G.t, G.d, G.f, G.c, zeroP, G.s, z33⟩) (by kernel_rfl)) hHeld ?_
      try simp only [Act.put, List.setIfInBounds_toArray, List.set_cons_zero, List.set_cons_succ]
      refine wpAnyH_ready (rs := [22]) (by kernel_rfl) (by simp) ?_
      refine AllReadyH.cons (at_list rfl) (fun K hK => ?_) (AllReadyH.nil)
      refine step_store (by rfl) 32 _ _ rfl g4 0 (hdA ⟨G.t, G.d, G.f, G.c, zeroP, G.s, z33⟩).toList rfl rfl K4.out (by kernel_rfl) (by kernel_rfl) (of_decide_eq_true (by kernel_rfl)) (hdA ⟨G.t, G.d, G.f, G.c, zeroP, G.s, z33⟩) (by kernel_rfl) ?_
      intro y17 n4 hy17
      replace K4 := Lib.hid n4
      refine hK.out _ _ ?_ (fun hHeld2 => ?_)
      · exact ⟨btouch hHeld.1 hy17 L4.out, hHeld.2.1.touch hy17 N24.out, hHeld.2.2.touch hy17 NA4.out⟩
      clear hK K hHeld
      have hHeld := hHeld2
      clear hHeld2
      try simp only [Act.put]
      clear n4 hy17
      refine wpAnyH_done (by kernel_rfl) ?_ _
      refine NoPanic.normal ?_
      go_wp2_with fail
      go_meet
      exact ⟨g4, rfl, rfl, rfl, rfl, rfl, rfl, rfl, rfl, rfl, rfl, rfl, rfl, rfl, rfl, rfl, rfl, rfl, rfl, rfl, rfl, rfl, rfl, hHeld.1, hHeld.2.2, hHeld.2.1, K4.out, N24.out, L4.out, NA4.out⟩
  case rest =>
    obtain ⟨gK4, rfl, rfl, rfl, rfl, rfl, rfl, rfl, rfl, rfl, rfl, rfl, rfl, rfl, rfl, rfl, rfl, rfl, rfl, rfl, rfl, rfl, rfl, hb, hba, hr, h4, hne, hle, hna⟩ := hcut
    have HB := Lib.hid hb
    have BA := Lib.hid hba
    have K2 := Lib.hid hr
    have K4 := Lib.hid h4
    have NK2K4 := Lib.hid hne
    have LK4 := Lib.hid hle
    have NA4 := Lib.hid hna
    clear hb hba hr h4 hne hle hna
    have y14 := (K4.out).reads (i := 14) (x := .int .i64 z33) rfl
    have eL := (FF.out).gl
    have eL2 : Hid (z33 - 256 = G.l) := by rw [Hid, eL]; unfold sg1; rw [if_pos hh]
    have dh : decide (127 < z33) = true := decide_eq_true hh
    clear eL
    go_upto_region 8 with (refine big_set rfl 3 _ _ rfl gK4 14 (.int .i64 (z33 - 256)) rfl rfl K4.out (by kernel_rfl) rfl rfl (of_decide_eq_true (by kernel_rfl)) (hdA ⟨G.t, G.d, G.f, G.c, zeroP, G.s, z33 - 256⟩) (by kernel_rfl) ?_; intro vK41 nK4 htK4; replace K4 := Lib.hid nK4; replace K2 := Lib.hid ((K2.out).touch htK4 NK2K4.out); replace BA := Lib.hid ((BA.out).touch htK4 NA4.out); replace HB := Lib.hid (btouch HB.out htK4 LK4.out); clear nK4 htK4)
    rw [eL2.out] at K4
    clear eL2 dh hh
    clear y14
    have s20 := (FF.out).s20
    go_wp2_with fail
    clear s20
    refine ((FF.out).cg _ BA.out).mono ?_
    rintro e w6 ⟨rfl, h6⟩
    replace K2 := Lib.hid ((K2.out).keptB h6)
    replace K4 := Lib.hid ((K4.out).keptB h6)
    replace BA := Lib.hid ((BA.out).keptB h6)
    replace HB := Lib.hid (bstep HB.out h6)
    clear h6
    go_upto_region 9 with (refine big_store rfl 26 _ _ rfl gK4 4 [.int .u8 G.p.c.b0, .int .u8 G.p.c.b1, .int .u8 G.p.c.b2, .int .u8 G.p.c.b3, .int .u8 G.p.c.b4, .int .u8 G.p.c.b5, .int .u8 G.p.c.b6, .int .u8 G.p.c.b7, .int .i64 G.p.n] rfl rfl K4.out (by kernel_rfl) (by kernel_rfl) (of_decide_eq_true (by kernel_rfl)) (hdA G) (by kernel_rfl) ?_; intro vK42 nK4 htK4; replace K4 := Lib.hid nK4; replace K2 := Lib.hid ((K2.out).touch htK4 NK2K4.out); replace BA := Lib.hid ((BA.out).touch htK4 NA4.out); replace HB := Lib.hid (btouch HB.out htK4 LK4.out); clear nK4 htK4)
    have y0 := (K4.out).reads (i := 0) (x := .int .i64 G.t) rfl
    go_wp2_with fail
    refine ((FF.out).cl _).mono ?_
    rintro e w7 ⟨rfl, rfl⟩
    clear y0
    have d2 : (m == 0) = false := by simp [hm]
    go_upto_region 11 with fail
    refine wp_region_held_drew (S := fun v => Below w.heap.size w v ∧ Holds v gK2 32 (hdA zeroH) ∧ BytesAt v a zs ∧ Holds v gK4 32 (hdA G)) (by kernel_rfl) ?_ (fun hHeld => ?_)
    · exact ⟨bdrew HB.out, (K2.out).drew, (BA.out).drew, (K4.out).drew⟩
    clear HB K2 BA K4
    refine wpAnyH_take (i := 0) (v := .slice (some a) L C) (at_list rfl) (by kernel_rfl) (by kernel_rfl) (by kernel_rfl) (fun _ _ _ h => h) (Or.inl ⟨by rfl, ?_⟩) hHeld ?_
    · intro v hSv
      clear hHeld
      go_simp
    try simp only [Act.put, List.setIfInBounds_toArray, List.set_cons_zero, List.set_cons_succ]
    refine wpAnyH_take (i := 2) (v := .pointer (some ⟨gK4, 0, none⟩)) (at_list rfl) (by kernel_rfl) (by kernel_rfl) (by kernel_rfl) (fun _ _ _ h => h) (Or.inl ⟨by rfl, ?_⟩) hHeld ?_
    · intro v hSv
      clear hHeld
      go_simp
    try simp only [Act.put, List.setIfInBounds_toArray, List.set_cons_zero, List.set_cons_succ]
    refine wpAnyH_take (i := 3) (v := .int .i64 G.t) (at_list rfl) (by kernel_rfl) (by kernel_rfl) (by kernel_rfl) (fun _ _ _ h => h) (Or.inl ⟨by rfl, ?_⟩) hHeld ?_
    · intro v hSv
      clear hHeld
      have q_ := Holds.reads hSv.2.2.2 (i := 0) (x := .int .i64 G.t) rfl
      clear hSv
      go_simp
    try simp only [Act.put, List.setIfInBounds_toArray, List.set_cons_zero, List.set_cons_succ]
    refine wpAnyH_ready (rs := [1]) (by kernel_rfl) (by simp) ?_
    refine AllReadyH.cons (at_list rfl) (fun K hK => ?_) AllReadyH.nil
    go_simp
    refine ((FF.out).cx _ hHeld.2.2.1).mono ?_
    rintro e v1 ⟨rfl, hv1⟩
    go_wp2_with fail
    refine hK.out _ _ ?_ (fun hHeld2 => ?_)
    · exact ⟨bstep hHeld.1 hv1, hHeld.2.1.keptB hv1, hHeld.2.2.1.keptB hv1, hHeld.2.2.2.keptB hv1⟩
    clear hK K hHeld
    have hHeld := hHeld2
    clear hHeld2 hv1
    try simp only [Act.put, List.setIfInBounds_toArray, List.set_cons_zero, List.set_cons_succ]
    refine wpAnyH_ready (rs := [4]) (by kernel_rfl) (by simp) ?_
    refine AllReadyH.cons (at_list rfl) (fun K hK => ?_) AllReadyH.nil
    go_simp
    refine ((FF.out).cl _).mono ?_
    rintro e vp ⟨rfl, rfl⟩
    go_wp2_with fail
    refine hK.out _ _ hHeld (fun hHeld2 => ?_)
    clear hK K hHeld
    have hHeld := hHeld2
    clear hHeld2
    try simp only [Act.put, List.setIfInBounds_toArray, List.set_cons_zero, List.set_cons_succ]
    refine wpAnyH_take (i := 5) (v := .bool false) (at_list rfl) (by kernel_rfl) (by kernel_rfl) (by kernel_rfl) (fun _ _ _ h => h) (Or.inl ⟨by rfl, ?_⟩) hHeld ?_
    · intro v hSv
      clear hHeld
      clear hSv
      go_simp
    try simp only [Act.put, List.setIfInBounds_toArray, List.set_cons_zero, List.set_cons_succ]
    refine wpAnyH_take (i := 6) (v := .bool false) (at_list rfl) (by kernel_rfl) (by kernel_rfl) (by kernel_rfl) (fun _ _ _ h => h) (Or.inl ⟨by rfl, ?_⟩) hHeld ?_
    · intro v hSv
      clear hHeld
      go_simp
    try simp only [Act.put, List.setIfInBounds_toArray, List.set_cons_zero, List.set_cons_succ]
    refine wpAnyH_take (i := 7) (v := .slice (some a) L C) (at_list rfl) (by kernel_rfl) (by kernel_rfl) (by kernel_rfl) (fun _ _ _ h => h) (Or.inl ⟨by rfl, ?_⟩) hHeld ?_
    · intro v hSv
      clear hHeld
      go_simp
    try simp only [Act.put, List.setIfInBounds_toArray, List.set_cons_zero, List.set_cons_succ]
    refine wpAnyH_take (i := 8) (v := .int .i64 L) (at_list rfl) (by kernel_rfl) (by kernel_rfl) (by kernel_rfl) (fun _ _ _ h => h) (Or.inl ⟨by rfl, ?_⟩) hHeld ?_
    · intro v hSv
      clear hHeld
      go_simp
    try simp only [Act.put, List.setIfInBounds_toArray, List.set_cons_zero, List.set_cons_succ]
    refine wpAnyH_take (i := 9) (v := .pointer (some ⟨gK4, 0, none⟩)) (at_list rfl) (by kernel_rfl) (by kernel_rfl) (by kernel_rfl) (fun _ _ _ h => h) (Or.inl ⟨by rfl, ?_⟩) hHeld ?_
    · intro v hSv
      clear hHeld
      go_simp
    try simp only [Act.put, List.setIfInBounds_toArray, List.set_cons_zero, List.set_cons_succ]
    refine wpAnyH_take (i := 10) (v := .int .i64 G.t) (at_list rfl) (by kernel_rfl) (by kernel_rfl) (by kernel_rfl) (fun _ _ _ h => h) (Or.inl ⟨by rfl, ?_⟩) hHeld ?_
    · intro v hSv
      clear hHeld
      have q_ := Holds.reads hSv.2.2.2 (i := 0) (x := .int .i64 G.t) rfl
      clear hSv
      go_simp
    try simp only [Act.put, List.setIfInBounds_toArray, List.set_cons_zero, List.set_cons_succ]
    refine wpAnyH_ready (rs := [11]) (by kernel_rfl) (by simp) ?_
    refine AllReadyH.cons (at_list rfl) (fun K hK => ?_) AllReadyH.nil
    go_simp
    refine ((FF.out).cl _).mono ?_
    rintro e vp ⟨rfl, rfl⟩
    go_wp2_with fail
    refine hK.out _ _ hHeld (fun hHeld2 => ?_)
    clear hK K hHeld
    have hHeld := hHeld2
    clear hHeld2
    try simp only [Act.put, List.setIfInBounds_toArray, List.set_cons_zero, List.set_cons_succ]
    refine wpAnyH_take (i := 12) (v := .bool false) (at_list rfl) (by kernel_rfl) (by kernel_rfl) (by kernel_rfl) (fun _ _ _ h => h) (Or.inl ⟨by rfl, ?_⟩) hHeld ?_
    · intro v hSv
      clear hHeld
      clear hSv
      go_simp
    try simp only [Act.put, List.setIfInBounds_toArray, List.set_cons_zero, List.set_cons_succ]
    refine wpAnyH_take (i := 13) (v := .bool false) (at_list rfl) (by kernel_rfl) (by kernel_rfl) (by kernel_rfl) (fun _ _ _ h => h) (Or.inl ⟨by rfl, ?_⟩) hHeld ?_
    · intro v hSv
      clear hHeld
      go_simp
    try simp only [Act.put, List.setIfInBounds_toArray, List.set_cons_zero, List.set_cons_succ]
    refine wpAnyH_done (by kernel_rfl) ?_ _
    have HB := Lib.hid hHeld.1
    have K2 := Lib.hid hHeld.2.1
    have BA := Lib.hid hHeld.2.2.1
    have K4 := Lib.hid hHeld.2.2.2
    clear hHeld
    go_upto_region 13 with fail
    by_cases hq : 15 < z0
    · have r0 : decide (15 < z0) = true := by simp; omega
      clear hq
      have c0 := (FF.out).v0 _ BA.out
      have c5 := (FF.out).v5 _ BA.out
      have c16 := (FF.out).v16 _ BA.out
      have c17 := (FF.out).v17 _ BA.out
      have c18 := (FF.out).v18 _ BA.out
      have c19 := (FF.out).v19 _ BA.out
      have c32 := (FF.out).v32 _ BA.out
      go_upto_region 14 with fail
      clear c0 c5 c16 c17 c18 c19 c32
      go_wp2_with (first | (refine big_fill rfl 32 _ _ rfl gK2 (hdA zeroH) rfl rfl K2.out (by kernel_rfl) (by kernel_rfl) (by kernel_rfl) ?_; intro vK29 nK2 htK2; replace K2 := Lib.hid nK2; replace HB := Lib.hid (btouch HB.out htK2 LK2.out); clear nK2 htK2) | (refine big_build rfl 32 _ rfl (hdA zeroH) (by kernel_rfl) ?_))
      refine bodyPost_ret (results_two rfl _ _ gK2 _ (hdA zeroH) (.int .i64 54) _ rfl rfl K2.out Tryd.underlying32 rfl (by kernel_rfl)) rfl ⟨?_, HB.out⟩
      exact HX.out.symm
    have n0 := hq
    clear hq
    by_cases hq : z5 ≠ 0
    · have r0 : decide (15 < z0) = false := by simp; omega
      have r1 : (z5 != 0) = true := by simp; omega
      clear hq n0
      have c0 := (FF.out).v0 _ BA.out
      have c5 := (FF.out).v5 _ BA.out
      have c16 := (FF.out).v16 _ BA.out
      have c17 := (FF.out).v17 _ BA.out
      have c18 := (FF.out).v18 _ BA.out
      have c19 := (FF.out).v19 _ BA.out
      have c32 := (FF.out).v32 _ BA.out
      go_upto_region 14 with fail
      clear c0 c5 c16 c17 c18 c19 c32
      go_wp2_with (first | (refine big_fill rfl 32 _ _ rfl gK2 (hdA zeroH) rfl rfl K2.out (by kernel_rfl) (by kernel_rfl) (by kernel_rfl) ?_; intro vK29 nK2 htK2; replace K2 := Lib.hid nK2; replace HB := Lib.hid (btouch HB.out htK2 LK2.out); clear nK2 htK2) | (refine big_build rfl 32 _ rfl (hdA zeroH) (by kernel_rfl) ?_))
      refine bodyPost_ret (results_two rfl _ _ gK2 _ (hdA zeroH) (.int .i64 54) _ rfl rfl K2.out Tryd.underlying32 rfl (by kernel_rfl)) rfl ⟨?_, HB.out⟩
      exact HX.out.symm
    have n1 := hq
    clear hq
    by_cases hq : z16 ≠ 0
    · have r0 : decide (15 < z0) = false := by simp; omega
      have r1 : (z5 != 0) = false := by simp; omega
      have r2 : (z16 != 0) = true := by simp; omega
      clear hq n0 n1
      have c0 := (FF.out).v0 _ BA.out
      have c5 := (FF.out).v5 _ BA.out
      have c16 := (FF.out).v16 _ BA.out
      have c17 := (FF.out).v17 _ BA.out
      have c18 := (FF.out).v18 _ BA.out
      have c19 := (FF.out).v19 _ BA.out
      have c32 := (FF.out).v32 _ BA.out
      go_upto_region 14 with fail
      clear c0 c5 c16 c17 c18 c19 c32
      go_wp2_with (first | (refine big_fill rfl 32 _ _ rfl gK2 (hdA zeroH) rfl rfl K2.out (by kernel_rfl) (by kernel_rfl) (by kernel_rfl) ?_; intro vK29 nK2 htK2; replace K2 := Lib.hid nK2; replace HB := Lib.hid (btouch HB.out htK2 LK2.out); clear nK2 htK2) | (refine big_build rfl 32 _ rfl (hdA zeroH) (by kernel_rfl) ?_))
      refine bodyPost_ret (results_two rfl _ _ gK2 _ (hdA zeroH) (.int .i64 54) _ rfl rfl K2.out Tryd.underlying32 rfl (by kernel_rfl)) rfl ⟨?_, HB.out⟩
      exact HX.out.symm
    have n2 := hq
    clear hq
    by_cases hq : z17 ≠ 0
    · have r0 : decide (15 < z0) = false := by simp; omega
      have r1 : (z5 != 0) = false := by simp; omega
      have r2 : (z16 != 0) = false := by simp; omega
      have r3 : (z17 != 0) = true := by simp; omega
      clear hq n0 n1 n2
      have c0 := (FF.out).v0 _ BA.out
      have c5 := (FF.out).v5 _ BA.out
      have c16 := (FF.out).v16 _ BA.out
      have c17 := (FF.out).v17 _ BA.out
      have c18 := (FF.out).v18 _ BA.out
      have c19 := (FF.out).v19 _ BA.out
      have c32 := (FF.out).v32 _ BA.out
      go_upto_region 14 with fail
      clear c0 c5 c16 c17 c18 c19 c32
      go_wp2_with (first | (refine big_fill rfl 32 _ _ rfl gK2 (hdA zeroH) rfl rfl K2.out (by kernel_rfl) (by kernel_rfl) (by kernel_rfl) ?_; intro vK29 nK2 htK2; replace K2 := Lib.hid nK2; replace HB := Lib.hid (btouch HB.out htK2 LK2.out); clear nK2 htK2) | (refine big_build rfl 32 _ rfl (hdA zeroH) (by kernel_rfl) ?_))
      refine bodyPost_ret (results_two rfl _ _ gK2 _ (hdA zeroH) (.int .i64 54) _ rfl rfl K2.out Tryd.underlying32 rfl (by kernel_rfl)) rfl ⟨?_, HB.out⟩
      exact HX.out.symm
    have n3 := hq
    clear hq
    by_cases hq : z18 ≠ 0
    · have r0 : decide (15 < z0) = false := by simp; omega
      have r1 : (z5 != 0) = false := by simp; omega
      have r2 : (z16 != 0) = false := by simp; omega
      have r3 : (z17 != 0) = false := by simp; omega
      have r4 : (z18 != 0) = true := by simp; omega
      clear hq n0 n1 n2 n3
      have c0 := (FF.out).v0 _ BA.out
      have c5 := (FF.out).v5 _ BA.out
      have c16 := (FF.out).v16 _ BA.out
      have c17 := (FF.out).v17 _ BA.out
      have c18 := (FF.out).v18 _ BA.out
      have c19 := (FF.out).v19 _ BA.out
      have c32 := (FF.out).v32 _ BA.out
      go_upto_region 14 with fail
      clear c0 c5 c16 c17 c18 c19 c32
      go_wp2_with (first | (refine big_fill rfl 32 _ _ rfl gK2 (hdA zeroH) rfl rfl K2.out (by kernel_rfl) (by kernel_rfl) (by kernel_rfl) ?_; intro vK29 nK2 htK2; replace K2 := Lib.hid nK2; replace HB := Lib.hid (btouch HB.out htK2 LK2.out); clear nK2 htK2) | (refine big_build rfl 32 _ rfl (hdA zeroH) (by kernel_rfl) ?_))
      refine bodyPost_ret (results_two rfl _ _ gK2 _ (hdA zeroH) (.int .i64 54) _ rfl rfl K2.out Tryd.underlying32 rfl (by kernel_rfl)) rfl ⟨?_, HB.out⟩
      exact HX.out.symm
    have n4 := hq
    clear hq
    by_cases hq : z19 ≠ 0
    · have r0 : decide (15 < z0) = false := by simp; omega
      have r1 : (z5 != 0) = false := by simp; omega
      have r2 : (z16 != 0) = false := by simp; omega
      have r3 : (z17 != 0) = false := by simp; omega
      have r4 : (z18 != 0) = false := by simp; omega
      have r5 : (z19 != 0) = true := by simp; omega
      clear hq n0 n1 n2 n3 n4
      have c0 := (FF.out).v0 _ BA.out
      have c5 := (FF.out).v5 _ BA.out
      have c16 := (FF.out).v16 _ BA.out
      have c17 := (FF.out).v17 _ BA.out
      have c18 := (FF.out).v18 _ BA.out
      have c19 := (FF.out).v19 _ BA.out
      have c32 := (FF.out).v32 _ BA.out
      go_upto_region 14 with fail
      clear c0 c5 c16 c17 c18 c19 c32
      go_wp2_with (first | (refine big_fill rfl 32 _ _ rfl gK2 (hdA zeroH) rfl rfl K2.out (by kernel_rfl) (by kernel_rfl) (by kernel_rfl) ?_; intro vK29 nK2 htK2; replace K2 := Lib.hid nK2; replace HB := Lib.hid (btouch HB.out htK2 LK2.out); clear nK2 htK2) | (refine big_build rfl 32 _ rfl (hdA zeroH) (by kernel_rfl) ?_))
      refine bodyPost_ret (results_two rfl _ _ gK2 _ (hdA zeroH) (.int .i64 54) _ rfl rfl K2.out Tryd.underlying32 rfl (by kernel_rfl)) rfl ⟨?_, HB.out⟩
      exact HX.out.symm
    have n5 := hq
    clear hq
    by_cases hq : z32 ≠ 0
    · have r0 : decide (15 < z0) = false := by simp; omega
      have r1 : (z5 != 0) = false := by simp; omega
      have r2 : (z16 != 0) = false := by simp; omega
      have r3 : (z17 != 0) = false := by simp; omega
      have r4 : (z18 != 0) = false := by simp; omega
      have r5 : (z19 != 0) = false := by simp; omega
      have r6 : (z32 != 0) = true := by simp; omega
      clear hq n0 n1 n2 n3 n4 n5
      have c0 := (FF.out).v0 _ BA.out
      have c5 := (FF.out).v5 _ BA.out
      have c16 := (FF.out).v16 _ BA.out
      have c17 := (FF.out).v17 _ BA.out
      have c18 := (FF.out).v18 _ BA.out
      have c19 := (FF.out).v19 _ BA.out
      have c32 := (FF.out).v32 _ BA.out
      go_upto_region 14 with fail
      clear c0 c5 c16 c17 c18 c19 c32
      go_wp2_with (first | (refine big_fill rfl 32 _ _ rfl gK2 (hdA zeroH) rfl rfl K2.out (by kernel_rfl) (by kernel_rfl) (by kernel_rfl) ?_; intro vK29 nK2 htK2; replace K2 := Lib.hid nK2; replace HB := Lib.hid (btouch HB.out htK2 LK2.out); clear nK2 htK2) | (refine big_build rfl 32 _ rfl (hdA zeroH) (by kernel_rfl) ?_))
      refine bodyPost_ret (results_two rfl _ _ gK2 _ (hdA zeroH) (.int .i64 54) _ rfl rfl K2.out Tryd.underlying32 rfl (by kernel_rfl)) rfl ⟨?_, HB.out⟩
      exact HX.out.symm
    have n6 := hq
    clear hq
    exfalso
    omega
set_option maxHeartbeats 4000000 in
theorem rd_53l_l (a : Addr) (L C : Nat) (zs : List Int) (G : Hd) (m x : Int) (z0 z1 z4 z5 z16 z17 z18 z19 z32 z33 : Int) (w : World) (E : Value) (hE : E = .tuple #[.agg (hdA zeroH), .int .i64 53]) (F : RDF a L C zs G m x z0 z1 z4 z5 z16 z17 z18 z19 z32 z33) (hc : BytesAt w a zs) (h2 : z1 = 2) (hh : ¬ 127 < z33) (hm : m ≠ 0) (hx : x = m) (hl : (L : Int) ≠ m) :
    Calls Tryd.prog 7 #[.slice (some a) L C] w fun e w' => e = .returned E ∧ Below w.heap.size w w' := by
  have HB := Lib.hid (Below.refl w.heap.size w)
  have HX := Lib.hid (congrArg Ending.returned hE)
  clear hE
  have d1 : (z1 != 2) = false := by simp [h2]
  clear h2
  have dx : (x != m) = false := by simp [hx]
  have dL : ((L : Int) != m) = true := by simp [hl]
  clear hx hl
  have BA := Lib.hid hc
  have FF := Lib.hid F
  have k1 := F.l34
  have k2 := F.lc
  have k3 := F.cm
  have k4 := F.b0
  have k5 := F.b4
  have k6 := F.b33
  unfold maxLen at k3
  have hLs : decide ((L : Int) < 34) = false := decide_eq_false (by omega)
  clear F hc
  go_enter Tryd.func7, Tryd.ntmps7
  go_upto_region 5 with (refine big_alloc rfl 32 rfl (hdA zeroH) (by kernel_rfl) ?_; intro gK2 wK2 hlK2 nK2 hbK2; have K2 := Lib.hid nK2; have LK2 := Lib.hid (Nat.le_trans (HB.out).size hlK2); replace BA := Lib.hid ((BA.out).keptB hbK2); replace HB := Lib.hid (bstep HB.out hbK2); clear hlK2 nK2 hbK2; have e1 := (FF.out).v1 _ BA.out)
  clear e1
  go_cut [4, 14, 15, 16, 17, 18, 19, 20, 21, 22, 23, 24, 25, 26, 27, 28, 29, 30, 31, 32, 33, 34] (fun s4 s14 s15 s16 s17 s18 s19 s20 s21 s22 s23 s24 s25 s26 s27 s28 s29 s30 s31 s32 s33 s34 wx => RDCut a L C zs G z0 z4 z33 w gK2 s4 s14 s15 s16 s17 s18 s19 s20 s21 s22 s23 s24 s25 s26 s27 s28 s29 s30 s31 s32 s33 s34 wx)
  case first =>
    refine wp_region_noPanic ?_
    refine wp_region_held_drew (S := fun v => Below w.heap.size w v ∧ Holds v gK2 32 (hdA zeroH) ∧ BytesAt v a zs) (by kernel_rfl) ?_ (fun hHeld => ?_)
    · exact ⟨bdrew HB.out, (K2.out).drew, (BA.out).drew⟩
    clear HB K2 BA
    refine wpAnyH_take (i := 0) (v := .slice (some a) L C) (at_list rfl) (by kernel_rfl) (by kernel_rfl) (by kernel_rfl) (fun _ _ _ h => h) (Or.inl ⟨by rfl, ?_⟩) hHeld ?_
    · intro v hSv
      clear hHeld
      go_simp
    try simp only [Act.put, List.setIfInBounds_toArray, List.set_cons_zero, List.set_cons_succ]
    refine wpAnyH_take (i := 1) (v := .pointer (some a)) (at_list rfl) (by kernel_rfl) (by kernel_rfl) (by kernel_rfl) (fun _ _ _ h => h) (Or.inl ⟨by rfl, ?_⟩) hHeld ?_
    · intro v hSv
      clear hHeld
      clear hSv
      go_simp
      intro h
      exfalso
      omega
    try simp only [Act.put, List.setIfInBounds_toArray, List.set_cons_zero, List.set_cons_succ]
    refine wpAnyH_take (i := 2) (v := .int .u8 z0) (at_list rfl) (by kernel_rfl) (by kernel_rfl) (by kernel_rfl) (fun _ _ _ h => h) (Or.inl ⟨by rfl, ?_⟩) hHeld ?_
    · intro v hSv
      clear hHeld
      have c0 := (FF.out).v0 v hSv.2.2
      clear hSv
      go_simp
    try simp only [Act.put, List.setIfInBounds_toArray, List.set_cons_zero, List.set_cons_succ]
    refine wpAnyH_take (i := 3) (v := .int .i64 z0) (at_list rfl) (by kernel_rfl) (by kernel_rfl) (by kernel_rfl) (fun _ _ _ h => h) (Or.inl ⟨by rfl, ?_⟩) hHeld ?_
    · intro v hSv
      clear hHeld
      clear hSv
      go_simp
      rw [IntKind.wrap_i64]
      omega
    try simp only [Act.put, List.setIfInBounds_toArray, List.set_cons_zero, List.set_cons_succ]
    refine wpAnyH_take (i := 4) (v := .int .i64 G.t) (at_list rfl) (by kernel_rfl) (by kernel_rfl) (by kernel_rfl) (fun _ _ _ h => h) (Or.inl ⟨by rfl, ?_⟩) hHeld ?_
    · intro v hSv
      clear hHeld
      clear hSv
      have hgt := (FF.out).gt
      go_simp
      rw [Int.tmod_eq_emod_of_nonneg (by omega)]
    try simp only [Act.put, List.setIfInBounds_toArray, List.set_cons_zero, List.set_cons_succ]
    refine wpAnyH_take (i := 5) (v := .slice (some a) L C) (at_list rfl) (by kernel_rfl) (by kernel_rfl) (by kernel_rfl) (fun _ _ _ h => h) (Or.inl ⟨by rfl, ?_⟩) hHeld ?_
    · intro v hSv
      clear hHeld
      go_simp
    try simp only [Act.put, List.setIfInBounds_toArray, List.set_cons_zero, List.set_cons_succ]
    refine wpAnyH_take (i := 6) (v := .pointer (some ⟨a.block, a.off + 4, none⟩)) (at_list rfl) (by kernel_rfl) (by kernel_rfl) (by kernel_rfl) (fun _ _ _ h => h) (Or.inl ⟨by rfl, ?_⟩) hHeld ?_
    · intro v hSv
      clear hHeld
      clear hSv
      go_simp
      intro h
      exfalso
      omega
    try simp only [Act.put, List.setIfInBounds_toArray, List.set_cons_zero, List.set_cons_succ]
    refine wpAnyH_take (i := 7) (v := .int .u8 z4) (at_list rfl) (by kernel_rfl) (by kernel_rfl) (by kernel_rfl) (fun _ _ _ h => h) (Or.inl ⟨by rfl, ?_⟩) hHeld ?_
    · intro v hSv
      clear hHeld
      have c4 := (FF.out).v4 v hSv.2.2
      clear hSv
      go_simp
    try simp only [Act.put, List.setIfInBounds_toArray, List.set_cons_zero, List.set_cons_succ]
    refine wpAnyH_take (i := 8) (v := .int .i64 G.d) (at_list rfl) (by kernel_rfl) (by kernel_rfl) (by kernel_rfl) (fun _ _ _ h => h) (Or.inl ⟨by rfl, ?_⟩) hHeld ?_
    · intro v hSv
      clear hHeld
      clear hSv
      have hgd := (FF.out).gd
      go_simp
      rw [IntKind.wrap_i64]
      omega
    try simp only [Act.put, List.setIfInBounds_toArray, List.set_cons_zero, List.set_cons_succ]
    refine wpAnyH_take (i := 9) (v := .slice (some a) L C) (at_list rfl) (by kernel_rfl) (by kernel_rfl) (by kernel_rfl) (fun _ _ _ h => h) (Or.inl ⟨by rfl, ?_⟩) hHeld ?_
    · intro v hSv
      clear hHeld
      go_simp
    try simp only [Act.put, List.setIfInBounds_toArray, List.set_cons_zero, List.set_cons_succ]
    refine wpAnyH_take (i := 11) (v := .slice (some a) L C) (at_list rfl) (by kernel_rfl) (by kernel_rfl) (by kernel_rfl) (fun _ _ _ h => h) (Or.inl ⟨by rfl, ?_⟩) hHeld ?_
    · intro v hSv
      clear hHeld
      go_simp
    try simp only [Act.put, List.setIfInBounds_toArray, List.set_cons_zero, List.set_cons_succ]
    refine wpAnyH_take (i := 12) (v := .slice (some ⟨a.block, a.off + 8, none⟩) 8 (C - 8)) (at_list rfl) (by kernel_rfl) (by kernel_rfl) (by kernel_rfl) (fun _ _ _ h => h) (Or.inl ⟨by rfl, ?_⟩) hHeld ?_
    · intro v hSv
      clear hHeld
      clear hSv
      have hsl := (FF.out).s8 v
      go_simp
    try simp only [Act.put, List.setIfInBounds_toArray, List.set_cons_zero, List.set_cons_succ]
    refine wpAnyH_take (i := 14) (v := .slice (some a) L C) (at_list rfl) (by kernel_rfl) (by kernel_rfl) (by kernel_rfl) (fun _ _ _ h => h) (Or.inl ⟨by rfl, ?_⟩) hHeld ?_
    · intro v hSv
      clear hHeld
      go_simp
    try simp only [Act.put, List.setIfInBounds_toArray, List.set_cons_zero, List.set_cons_succ]
    refine wpAnyH_take (i := 16) (v := .slice (some a) L C) (at_list rfl) (by kernel_rfl) (by kernel_rfl) (by kernel_rfl) (fun _ _ _ h => h) (Or.inl ⟨by rfl, ?_⟩) hHeld ?_
    · intro v hSv
      clear hHeld
      go_simp
    try simp only [Act.put, List.setIfInBounds_toArray, List.set_cons_zero, List.set_cons_succ]
    refine wpAnyH_take (i := 17) (v := .pointer (some ⟨a.block, a.off + 33, none⟩)) (at_list rfl) (by kernel_rfl) (by kernel_rfl) (by kernel_rfl) (fun _ _ _ h => h) (Or.inl ⟨by rfl, ?_⟩) hHeld ?_
    · intro v hSv
      clear hHeld
      clear hSv
      go_simp
      intro h
      exfalso
      omega
    try simp only [Act.put, List.setIfInBounds_toArray, List.set_cons_zero, List.set_cons_succ]
    refine wpAnyH_take (i := 18) (v := .int .u8 z33) (at_list rfl) (by kernel_rfl) (by kernel_rfl) (by kernel_rfl) (fun _ _ _ h => h) (Or.inl ⟨by rfl, ?_⟩) hHeld ?_
    · intro v hSv
      clear hHeld
      have c33 := (FF.out).v33 v hSv.2.2
      clear hSv
      go_simp
    try simp only [Act.put, List.setIfInBounds_toArray, List.set_cons_zero, List.set_cons_succ]
    refine wpAnyH_take (i := 19) (v := .int .i64 z33) (at_list rfl) (by kernel_rfl) (by kernel_rfl) (by kernel_rfl) (fun _ _ _ h => h) (Or.inl ⟨by rfl, ?_⟩) hHeld ?_
    · intro v hSv
      clear hHeld
      clear hSv
      go_simp
      rw [IntKind.wrap_i64]
      omega
    try simp only [Act.put, List.setIfInBounds_toArray, List.set_cons_zero, List.set_cons_succ]
    refine wpAnyH_ready (rs := [10, 21]) (by kernel_rfl) (by simp) ?_
    refine AllReadyH.cons (at_list rfl) (fun K hK => ?_) (AllReadyH.cons (at_list rfl) (fun K hK => ?_) (AllReadyH.nil))
    · go_simp
      refine ((FF.out).cv _ hHeld.2.2).mono ?_
      rintro e y1 ⟨rfl, hy1⟩
      go_wp2_with fail
      refine hK.out _ _ ?_ (fun hHeld2 => ?_)
      · exact ⟨bstep hHeld.1 hy1, hHeld.2.1.keptB hy1, hHeld.2.2.keptB hy1⟩
      clear hK K hHeld
      have hHeld := hHeld2
      clear hHeld2 hy1
      try simp only [Act.put, List.setIfInBounds_toArray, List.set_cons_zero, List.set_cons_succ]
      refine wpAnyH_ready (rs := [13, 21]) (by kernel_rfl) (by simp) ?_
      refine AllReadyH.cons (at_list rfl) (fun K hK => ?_) (AllReadyH.cons (at_list rfl) (fun K hK => ?_) (AllReadyH.nil))
      · go_simp
        refine ((FF.out).cs _ hHeld.2.2).mono ?_
        rintro e y2 ⟨rfl, hy2⟩
        go_wp2_with fail
        refine hK.out _ _ ?_ (fun hHeld2 => ?_)
        · exact ⟨bstep hHeld.1 hy2, hHeld.2.1.keptB hy2, hHeld.2.2.keptB hy2⟩
        clear hK K hHeld
        have hHeld := hHeld2
        clear hHeld2 hy2
        try simp only [Act.put, List.setIfInBounds_toArray, List.set_cons_zero, List.set_cons_succ]
        refine wpAnyH_ready (rs := [15, 21]) (by kernel_rfl) (by simp) ?_
        refine AllReadyH.cons (at_list rfl) (fun K hK => ?_) (AllReadyH.cons (at_list rfl) (fun K hK => ?_) (AllReadyH.nil))
        · go_simp
          refine ((FF.out).cw _ hHeld.2.2).mono ?_
          rintro e y3 ⟨rfl, hy3⟩
          go_wp2_with fail
          refine hK.out _ _ ?_ (fun hHeld2 => ?_)
          · exact ⟨bstep hHeld.1 hy3, hHeld.2.1.keptB hy3, hHeld.2.2.keptB hy3⟩
          clear hK K hHeld
          have hHeld := hHeld2
          clear hHeld2 hy3
          try simp only [Act.put, List.setIfInBounds_toArray, List.set_cons_zero, List.set_cons_succ]
          refine wpAnyH_take (i := 20) (v := .agg (hdA ⟨G.t, G.d, G.f, G.c, zeroP, G.s, z33⟩)) (at_list rfl) (by kernel_rfl) (by kernel_rfl) (by kernel_rfl) (fun _ _ _ h => h) (yields_buildH (by rfl) 32 _ rfl (hdA ⟨G.t, G.d, G.f, G.c, zeroP, G.s, z33⟩) (by kernel_rfl)) hHeld ?_
          try simp only [Act.put, List.setIfInBounds_toArray, List.set_cons_zero, List.set_cons_succ]
          refine wpAnyH_ready (rs := [21]) (by kernel_rfl) (by simp) ?_
          refine AllReadyH.cons (at_list rfl) (fun K hK => ?_) (AllReadyH.nil)
          refine step_alloc (by rfl) 32 rfl (hdA zeroH) (by kernel_rfl) ?_
          intro g4 y4 hl4 n4 hy4
          have K4 := Lib.hid n4
          have L4 := Lib.hid (show w.heap.size ≤ g4 from Nat.le_trans hHeld.1.size hl4)
          have N24 := Lib.hid (show gK2 ≠ g4 by have := hHeld.2.1.inside; omega)
          have NA4 := Lib.hid (show a.block ≠ g4 by have := hHeld.2.2.inside (by rw [(FF.out).len]; omega); omega)
          refine hK.out _ _ ?_ (fun hHeld2 => ?_)
          · exact ⟨bstep hHeld.1 hy4, hHeld.2.1.keptB hy4, hHeld.2.2.keptB hy4⟩
          clear hK K hHeld
          have hHeld := hHeld2
          clear hHeld2
          try simp only [Act.put]
          try simp only [List.setIfInBounds_toArray, List.set_cons_zero, List.set_cons_succ]
          clear hl4 n4 hy4
          refine wpAnyH_ready (rs := [22]) (by kernel_rfl) (by simp) ?_
          refine AllReadyH.cons (at_list rfl) (fun K hK => ?_) (AllReadyH.nil)
          refine step_store (by rfl) 32 _ _ rfl g4 0 (hdA ⟨G.t, G.d, G.f, G.c, zeroP, G.s, z33⟩).toList rfl rfl K4.out (by kernel_rfl) (by kernel_rfl) (of_decide_eq_true (by kernel_rfl)) (hdA ⟨G.t, G.d, G.f, G.c, zeroP, G.s, z33⟩) (by kernel_rfl) ?_
          intro y5 n4 hy5
          replace K4 := Lib.hid n4
          refine hK.out _ _ ?_ (fun hHeld2 => ?_)
          · exact ⟨btouch hHeld.1 hy5 L4.out, hHeld.2.1.touch hy5 N24.out, hHeld.2.2.touch hy5 NA4.out⟩
          clear hK K hHeld
          have hHeld := hHeld2
          clear hHeld2
          try simp only [Act.put]
          clear n4 hy5
          refine wpAnyH_done (by kernel_rfl) ?_ _
          refine NoPanic.normal ?_
          go_wp2_with fail
          go_meet
          exact ⟨g4, rfl, rfl, rfl, rfl, rfl, rfl, rfl, rfl, rfl, rfl, rfl, rfl, rfl, rfl, rfl, rfl, rfl, rfl, rfl, rfl, rfl, rfl, hHeld.1, hHeld.2.2, hHeld.2.1, K4.out, N24.out, L4.out, NA4.out⟩
        · refine step_alloc (by rfl) 32 rfl (hdA zeroH) (by kernel_rfl) ?_
          intro g4 y6 hl4 n4 hy6
          have K4 := Lib.hid n4
          have L4 := Lib.hid (show w.heap.size ≤ g4 from Nat.le_trans hHeld.1.size hl4)
          have N24 := Lib.hid (show gK2 ≠ g4 by have := hHeld.2.1.inside; omega)
          have NA4 := Lib.hid (show a.block ≠ g4 by have := hHeld.2.2.inside (by rw [(FF.out).len]; omega); omega)
          refine hK.out _ _ ?_ (fun hHeld2 => ?_)
          · exact ⟨bstep hHeld.1 hy6, hHeld.2.1.keptB hy6, hHeld.2.2.keptB hy6⟩
          clear hK K hHeld
          have hHeld := hHeld2
          clear hHeld2
          try simp only [Act.put]
          try simp only [List.setIfInBounds_toArray, List.set_cons_zero, List.set_cons_succ]
          clear hl4 n4 hy6
          refine wpAnyH_ready (rs := [15]) (by kernel_rfl) (by simp) ?_
          refine AllReadyH.cons (at_list rfl) (fun K hK => ?_) (AllReadyH.nil)
          go_simp
          refine ((FF.out).cw _ hHeld.2.2).mono ?_
          rintro e y7 ⟨rfl, hy7⟩
          replace K4 := Lib.hid ((K4.out).keptB hy7)
          go_wp2_with fail
          refine hK.out _ _ ?_ (fun hHeld2 => ?_)
          · exact ⟨bstep hHeld.1 hy7, hHeld.2.1.keptB hy7, hHeld.2.2.keptB hy7⟩
          clear hK K hHeld
          have hHeld := hHeld2
          clear hHeld2 hy7
          try simp only [Act.put, List.setIfInBounds_toArray, List.set_cons_zero, List.set_cons_succ]
          refine wpAnyH_take (i := 20) (v := .agg (hdA ⟨G.t, G.d, G.f, G.c, zeroP, G.s, z33⟩)) (at_list rfl) (by kernel_rfl) (by kernel_rfl) (by kernel_rfl) (fun _ _ _ h => h) (yields_buildH (by rfl) 32 _ rfl (hdA ⟨G.t, G.d, G.f, G.c, zeroP, G.s, z33⟩) (by kernel_rfl)) hHeld ?_
          try simp only [Act.put, List.setIfInBounds_toArray, List.set_cons_zero, List.set_cons_succ]
          refine wpAnyH_ready (rs := [22]) (by kernel_rfl) (by simp) ?_
          refine AllReadyH.cons (at_list rfl) (fun K hK => ?_) (AllReadyH.nil)
          refine step_store (by rfl) 32 _ _ rfl g4 0 (hdA ⟨G.t, G.d, G.f, G.c, zeroP, G.s, z33⟩).toList rfl rfl K4.out (by kernel_rfl) (by kernel_rfl) (of_decide_eq_true (by kernel_rfl)) (hdA ⟨G.t, G.d, G.f, G.c, zeroP, G.s, z33⟩) (by kernel_rfl) ?_
          intro y8 n4 hy8
          replace K4 := Lib.hid n4
          refine hK.out _ _ ?_ (fun hHeld2 => ?_)
          · exact ⟨btouch hHeld.1 hy8 L4.out, hHeld.2.1.touch hy8 N24.out, hHeld.2.2.touch hy8 NA4.out⟩
          clear hK K hHeld
          have hHeld := hHeld2
          clear hHeld2
          try simp only [Act.put]
          clear n4 hy8
          refine wpAnyH_done (by kernel_rfl) ?_ _
          refine NoPanic.normal ?_
          go_wp2_with fail
          go_meet
          exact ⟨g4, rfl, rfl, rfl, rfl, rfl, rfl, rfl, rfl, rfl, rfl, rfl, rfl, rfl, rfl, rfl, rfl, rfl, rfl, rfl, rfl, rfl, rfl, hHeld.1, hHeld.2.2, hHeld.2.1, K4.out, N24.out, L4.out, NA4.out⟩
      · refine step_alloc (by rfl) 32 rfl (hdA zeroH) (by kernel_rfl) ?_
        intro g4 y9 hl4 n4 hy9
        have K4 := Lib.hid n4
        have L4 := Lib.hid (show w.heap.size ≤ g4 from Nat.le_trans hHeld.1.size hl4)
        have N24 := Lib.hid (show gK2 ≠ g4 by have := hHeld.2.1.inside; omega)
        have NA4 := Lib.hid (show a.block ≠ g4 by have := hHeld.2.2.inside (by rw [(FF.out).len]; omega); omega)
        refine hK.out _ _ ?_ (fun hHeld2 => ?_)
        · exact ⟨bstep hHeld.1 hy9, hHeld.2.1.keptB hy9, hHeld.2.2.keptB hy9⟩
        clear hK K hHeld
        have hHeld := hHeld2
        clear hHeld2
        try simp only [Act.put]
        try simp only [List.setIfInBounds_toArray, List.set_cons_zero, List.set_cons_succ]
        clear hl4 n4 hy9
        refine wpAnyH_ready (rs := [13]) (by kernel_rfl) (by simp) ?_
        refine AllReadyH.cons (at_list rfl) (fun K hK => ?_) (AllReadyH.nil)
        go_simp
        refine ((FF.out).cs _ hHeld.2.2).mono ?_
        rintro e y10 ⟨rfl, hy10⟩
        replace K4 := Lib.hid ((K4.out).keptB hy10)
        go_wp2_with fail
        refine hK.out _ _ ?_ (fun hHeld2 => ?_)
        · exact ⟨bstep hHeld.1 hy10, hHeld.2.1.keptB hy10, hHeld.2.2.keptB hy10⟩
        clear hK K hHeld
        have hHeld := hHeld2
        clear hHeld2 hy10
        try simp only [Act.put, List.setIfInBounds_toArray, List.set_cons_zero, List.set_cons_succ]
        refine wpAnyH_ready (rs := [15]) (by kernel_rfl) (by simp) ?_
        refine AllReadyH.cons (at_list rfl) (fun K hK => ?_) (AllReadyH.nil)
        go_simp
        refine ((FF.out).cw _ hHeld.2.2).mono ?_
        rintro e y11 ⟨rfl, hy11⟩
        replace K4 := Lib.hid ((K4.out).keptB hy11)
        go_wp2_with fail
        refine hK.out _ _ ?_ (fun hHeld2 => ?_)
        · exact ⟨bstep hHeld.1 hy11, hHeld.2.1.keptB hy11, hHeld.2.2.keptB hy11⟩
        clear hK K hHeld
        have hHeld := hHeld2
        clear hHeld2 hy11
        try simp only [Act.put, List.setIfInBounds_toArray, List.set_cons_zero, List.set_cons_succ]
        refine wpAnyH_take (i := 20) (v := .agg (hdA ⟨G.t, G.d, G.f, G.c, zeroP, G.s, z33⟩)) (at_list rfl) (by kernel_rfl) (by kernel_rfl) (by kernel_rfl) (fun _ _ _ h => h) (yields_buildH (by rfl) 32 _ rfl (hdA ⟨G.t, G.d, G.f, G.c, zeroP, G.s, z33⟩) (by kernel_rfl)) hHeld ?_
        try simp only [Act.put, List.setIfInBounds_toArray, List.set_cons_zero, List.set_cons_succ]
        refine wpAnyH_ready (rs := [22]) (by kernel_rfl) (by simp) ?_
        refine AllReadyH.cons (at_list rfl) (fun K hK => ?_) (AllReadyH.nil)
        refine step_store (by rfl) 32 _ _ rfl g4 0 (hdA ⟨G.t, G.d, G.f, G.c, zeroP, G.s, z33⟩).toList rfl rfl K4.out (by kernel_rfl) (by kernel_rfl) (of_decide_eq_true (by kernel_rfl)) (hdA ⟨G.t, G.d, G.f, G.c, zeroP, G.s, z33⟩) (by kernel_rfl) ?_
        intro y12 n4 hy12
        replace K4 := Lib.hid n4
        refine hK.out _ _ ?_ (fun hHeld2 => ?_)
        · exact ⟨btouch hHeld.1 hy12 L4.out, hHeld.2.1.touch hy12 N24.out, hHeld.2.2.touch hy12 NA4.out⟩
        clear hK K hHeld
        have hHeld := hHeld2
        clear hHeld2
        try simp only [Act.put]
        clear n4 hy12
        refine wpAnyH_done (by kernel_rfl) ?_ _
        refine NoPanic.normal ?_
        go_wp2_with fail
        go_meet
        exact ⟨g4, rfl, rfl, rfl, rfl, rfl, rfl, rfl, rfl, rfl, rfl, rfl, rfl, rfl, rfl, rfl, rfl, rfl, rfl, rfl, rfl, rfl, rfl, hHeld.1, hHeld.2.2, hHeld.2.1, K4.out, N24.out, L4.out, NA4.out⟩
    · refine step_alloc (by rfl) 32 rfl (hdA zeroH) (by kernel_rfl) ?_
      intro g4 y13 hl4 n4 hy13
      have K4 := Lib.hid n4
      have L4 := Lib.hid (show w.heap.size ≤ g4 from Nat.le_trans hHeld.1.size hl4)
      have N24 := Lib.hid (show gK2 ≠ g4 by have := hHeld.2.1.inside; omega)
      have NA4 := Lib.hid (show a.block ≠ g4 by have := hHeld.2.2.inside (by rw [(FF.out).len]; omega); omega)
      refine hK.out _ _ ?_ (fun hHeld2 => ?_)
      · exact ⟨bstep hHeld.1 hy13, hHeld.2.1.keptB hy13, hHeld.2.2.keptB hy13⟩
      clear hK K hHeld
      have hHeld := hHeld2
      clear hHeld2
      try simp only [Act.put]
      try simp only [List.setIfInBounds_toArray, List.set_cons_zero, List.set_cons_succ]
      clear hl4 n4 hy13
      refine wpAnyH_ready (rs := [10]) (by kernel_rfl) (by simp) ?_
      refine AllReadyH.cons (at_list rfl) (fun K hK => ?_) (AllReadyH.nil)
      go_simp
      refine ((FF.out).cv _ hHeld.2.2).mono ?_
      rintro e y14 ⟨rfl, hy14⟩
      replace K4 := Lib.hid ((K4.out).keptB hy14)
      go_wp2_with fail
      refine hK.out _ _ ?_ (fun hHeld2 => ?_)
      · exact ⟨bstep hHeld.1 hy14, hHeld.2.1.keptB hy14, hHeld.2.2.keptB hy14⟩
      clear hK K hHeld
      have hHeld := hHeld2
      clear hHeld2 hy14
      try simp only [Act.put, List.setIfInBounds_toArray, List.set_cons_zero, List.set_cons_succ]
      refine wpAnyH_ready (rs := [13]) (by kernel_rfl) (by simp) ?_
      refine AllReadyH.cons (at_list rfl) (fun K hK => ?_) (AllReadyH.nil)
      go_simp
      refine ((FF.out).cs _ hHeld.2.2).mono ?_
      rintro e y15 ⟨rfl, hy15⟩
      replace K4 := Lib.hid ((K4.out).keptB hy15)
      go_wp2_with fail
      refine hK.out _ _ ?_ (fun hHeld2 => ?_)
      · exact ⟨bstep hHeld.1 hy15, hHeld.2.1.keptB hy15, hHeld.2.2.keptB hy15⟩
      clear hK K hHeld
      have hHeld := hHeld2
      clear hHeld2 hy15
      try simp only [Act.put, List.setIfInBounds_toArray, List.set_cons_zero, List.set_cons_succ]
      refine wpAnyH_ready (rs := [15]) (by kernel_rfl) (by simp) ?_
      refine AllReadyH.cons (at_list rfl) (fun K hK => ?_) (AllReadyH.nil)
      go_simp
      refine ((FF.out).cw _ hHeld.2.2).mono ?_
      rintro e y16 ⟨rfl, hy16⟩
      replace K4 := Lib.hid ((K4.out).keptB hy16)
      go_wp2_with fail
      refine hK.out _ _ ?_ (fun hHeld2 => ?_)
      · exact ⟨bstep hHeld.1 hy16, hHeld.2.1.keptB hy16, hHeld.2.2.keptB hy16⟩
      clear hK K hHeld
      have hHeld := hHeld2
      clear hHeld2 hy16
      try simp only [Act.put, List.setIfInBounds_toArray, List.set_cons_zero, List.set_cons_succ]
      refine wpAnyH_take (i := 20) (v := .agg (hdA ⟨G.t, G.d, G.f, G.c, zeroP, G.s, z33⟩)) (at_list rfl) (by kernel_rfl) (by kernel_rfl) (by kernel_rfl) (fun _ _ _ h => h) (yields_buildH (by rfl) 32 _ rfl (hdA ⟨G.t, G.d, G.f, G.c, zeroP, G.s, z33⟩) (by kernel_rfl)) hHeld ?_
      try simp only [Act.put, List.setIfInBounds_toArray, List.set_cons_zero, List.set_cons_succ]
      refine wpAnyH_ready (rs := [22]) (by kernel_rfl) (by simp) ?_
      refine AllReadyH.cons (at_list rfl) (fun K hK => ?_) (AllReadyH.nil)
      refine step_store (by rfl) 32 _ _ rfl g4 0 (hdA ⟨G.t, G.d, G.f, G.c, zeroP, G.s, z33⟩).toList rfl rfl K4.out (by kernel_rfl) (by kernel_rfl) (of_decide_eq_true (by kernel_rfl)) (hdA ⟨G.t, G.d, G.f, G.c, zeroP, G.s, z33⟩) (by kernel_rfl) ?_
      intro y17 n4 hy17
      replace K4 := Lib.hid n4
      refine hK.out _ _ ?_ (fun hHeld2 => ?_)
      · exact ⟨btouch hHeld.1 hy17 L4.out, hHeld.2.1.touch hy17 N24.out, hHeld.2.2.touch hy17 NA4.out⟩
      clear hK K hHeld
      have hHeld := hHeld2
      clear hHeld2
      try simp only [Act.put]
      clear n4 hy17
      refine wpAnyH_done (by kernel_rfl) ?_ _
      refine NoPanic.normal ?_
      go_wp2_with fail
      go_meet
      exact ⟨g4, rfl, rfl, rfl, rfl, rfl, rfl, rfl, rfl, rfl, rfl, rfl, rfl, rfl, rfl, rfl, rfl, rfl, rfl, rfl, rfl, rfl, rfl, hHeld.1, hHeld.2.2, hHeld.2.1, K4.out, N24.out, L4.out, NA4.out⟩
  case rest =>
    obtain ⟨gK4, rfl, rfl, rfl, rfl, rfl, rfl, rfl, rfl, rfl, rfl, rfl, rfl, rfl, rfl, rfl, rfl, rfl, rfl, rfl, rfl, rfl, rfl, hb, hba, hr, h4, hne, hle, hna⟩ := hcut
    have HB := Lib.hid hb
    have BA := Lib.hid hba
    have K2 := Lib.hid hr
    have K4 := Lib.hid h4
    have NK2K4 := Lib.hid hne
    have LK4 := Lib.hid hle
    have NA4 := Lib.hid hna
    clear hb hba hr h4 hne hle hna
    have y14 := (K4.out).reads (i := 14) (x := .int .i64 z33) rfl
    have eL := (FF.out).gl
    have eL2 : Hid (z33 = G.l) := by rw [Hid, eL]; unfold sg1; rw [if_neg hh]
    have dh : decide (127 < z33) = false := decide_eq_false hh
    clear eL
    go_upto_region 8 with fail
    rw [eL2.out] at K4
    clear eL2 dh hh
    clear y14
    have s20 := (FF.out).s20
    go_wp2_with fail
    clear s20
    refine ((FF.out).cg _ BA.out).mono ?_
    rintro e w6 ⟨rfl, h6⟩
    replace K2 := Lib.hid ((K2.out).keptB h6)
    replace K4 := Lib.hid ((K4.out).keptB h6)
    replace BA := Lib.hid ((BA.out).keptB h6)
    replace HB := Lib.hid (bstep HB.out h6)
    clear h6
    go_upto_region 9 with (refine big_store rfl 26 _ _ rfl gK4 4 [.int .u8 G.p.c.b0, .int .u8 G.p.c.b1, .int .u8 G.p.c.b2, .int .u8 G.p.c.b3, .int .u8 G.p.c.b4, .int .u8 G.p.c.b5, .int .u8 G.p.c.b6, .int .u8 G.p.c.b7, .int .i64 G.p.n] rfl rfl K4.out (by kernel_rfl) (by kernel_rfl) (of_decide_eq_true (by kernel_rfl)) (hdA G) (by kernel_rfl) ?_; intro vK42 nK4 htK4; replace K4 := Lib.hid nK4; replace K2 := Lib.hid ((K2.out).touch htK4 NK2K4.out); replace BA := Lib.hid ((BA.out).touch htK4 NA4.out); replace HB := Lib.hid (btouch HB.out htK4 LK4.out); clear nK4 htK4)
    have y0 := (K4.out).reads (i := 0) (x := .int .i64 G.t) rfl
    go_wp2_with fail
    refine ((FF.out).cl _).mono ?_
    rintro e w7 ⟨rfl, rfl⟩
    clear y0
    have d2 : (m == 0) = false := by simp [hm]
    go_upto_region 11 with fail
    refine wp_region_held_drew (S := fun v => Below w.heap.size w v ∧ Holds v gK2 32 (hdA zeroH) ∧ BytesAt v a zs ∧ Holds v gK4 32 (hdA G)) (by kernel_rfl) ?_ (fun hHeld => ?_)
    · exact ⟨bdrew HB.out, (K2.out).drew, (BA.out).drew, (K4.out).drew⟩
    clear HB K2 BA K4
    refine wpAnyH_take (i := 0) (v := .slice (some a) L C) (at_list rfl) (by kernel_rfl) (by kernel_rfl) (by kernel_rfl) (fun _ _ _ h => h) (Or.inl ⟨by rfl, ?_⟩) hHeld ?_
    · intro v hSv
      clear hHeld
      go_simp
    try simp only [Act.put, List.setIfInBounds_toArray, List.set_cons_zero, List.set_cons_succ]
    refine wpAnyH_take (i := 2) (v := .pointer (some ⟨gK4, 0, none⟩)) (at_list rfl) (by kernel_rfl) (by kernel_rfl) (by kernel_rfl) (fun _ _ _ h => h) (Or.inl ⟨by rfl, ?_⟩) hHeld ?_
    · intro v hSv
      clear hHeld
      go_simp
    try simp only [Act.put, List.setIfInBounds_toArray, List.set_cons_zero, List.set_cons_succ]
    refine wpAnyH_take (i := 3) (v := .int .i64 G.t) (at_list rfl) (by kernel_rfl) (by kernel_rfl) (by kernel_rfl) (fun _ _ _ h => h) (Or.inl ⟨by rfl, ?_⟩) hHeld ?_
    · intro v hSv
      clear hHeld
      have q_ := Holds.reads hSv.2.2.2 (i := 0) (x := .int .i64 G.t) rfl
      clear hSv
      go_simp
    try simp only [Act.put, List.setIfInBounds_toArray, List.set_cons_zero, List.set_cons_succ]
    refine wpAnyH_ready (rs := [1]) (by kernel_rfl) (by simp) ?_
    refine AllReadyH.cons (at_list rfl) (fun K hK => ?_) AllReadyH.nil
    go_simp
    refine ((FF.out).cx _ hHeld.2.2.1).mono ?_
    rintro e v1 ⟨rfl, hv1⟩
    go_wp2_with fail
    refine hK.out _ _ ?_ (fun hHeld2 => ?_)
    · exact ⟨bstep hHeld.1 hv1, hHeld.2.1.keptB hv1, hHeld.2.2.1.keptB hv1, hHeld.2.2.2.keptB hv1⟩
    clear hK K hHeld
    have hHeld := hHeld2
    clear hHeld2 hv1
    try simp only [Act.put, List.setIfInBounds_toArray, List.set_cons_zero, List.set_cons_succ]
    refine wpAnyH_ready (rs := [4]) (by kernel_rfl) (by simp) ?_
    refine AllReadyH.cons (at_list rfl) (fun K hK => ?_) AllReadyH.nil
    go_simp
    refine ((FF.out).cl _).mono ?_
    rintro e vp ⟨rfl, rfl⟩
    go_wp2_with fail
    refine hK.out _ _ hHeld (fun hHeld2 => ?_)
    clear hK K hHeld
    have hHeld := hHeld2
    clear hHeld2
    try simp only [Act.put, List.setIfInBounds_toArray, List.set_cons_zero, List.set_cons_succ]
    refine wpAnyH_take (i := 5) (v := .bool false) (at_list rfl) (by kernel_rfl) (by kernel_rfl) (by kernel_rfl) (fun _ _ _ h => h) (Or.inl ⟨by rfl, ?_⟩) hHeld ?_
    · intro v hSv
      clear hHeld
      clear hSv
      go_simp
    try simp only [Act.put, List.setIfInBounds_toArray, List.set_cons_zero, List.set_cons_succ]
    refine wpAnyH_take (i := 6) (v := .bool false) (at_list rfl) (by kernel_rfl) (by kernel_rfl) (by kernel_rfl) (fun _ _ _ h => h) (Or.inl ⟨by rfl, ?_⟩) hHeld ?_
    · intro v hSv
      clear hHeld
      go_simp
    try simp only [Act.put, List.setIfInBounds_toArray, List.set_cons_zero, List.set_cons_succ]
    refine wpAnyH_take (i := 7) (v := .slice (some a) L C) (at_list rfl) (by kernel_rfl) (by kernel_rfl) (by kernel_rfl) (fun _ _ _ h => h) (Or.inl ⟨by rfl, ?_⟩) hHeld ?_
    · intro v hSv
      clear hHeld
      go_simp
    try simp only [Act.put, List.setIfInBounds_toArray, List.set_cons_zero, List.set_cons_succ]
    refine wpAnyH_take (i := 8) (v := .int .i64 L) (at_list rfl) (by kernel_rfl) (by kernel_rfl) (by kernel_rfl) (fun _ _ _ h => h) (Or.inl ⟨by rfl, ?_⟩) hHeld ?_
    · intro v hSv
      clear hHeld
      go_simp
    try simp only [Act.put, List.setIfInBounds_toArray, List.set_cons_zero, List.set_cons_succ]
    refine wpAnyH_take (i := 9) (v := .pointer (some ⟨gK4, 0, none⟩)) (at_list rfl) (by kernel_rfl) (by kernel_rfl) (by kernel_rfl) (fun _ _ _ h => h) (Or.inl ⟨by rfl, ?_⟩) hHeld ?_
    · intro v hSv
      clear hHeld
      go_simp
    try simp only [Act.put, List.setIfInBounds_toArray, List.set_cons_zero, List.set_cons_succ]
    refine wpAnyH_take (i := 10) (v := .int .i64 G.t) (at_list rfl) (by kernel_rfl) (by kernel_rfl) (by kernel_rfl) (fun _ _ _ h => h) (Or.inl ⟨by rfl, ?_⟩) hHeld ?_
    · intro v hSv
      clear hHeld
      have q_ := Holds.reads hSv.2.2.2 (i := 0) (x := .int .i64 G.t) rfl
      clear hSv
      go_simp
    try simp only [Act.put, List.setIfInBounds_toArray, List.set_cons_zero, List.set_cons_succ]
    refine wpAnyH_ready (rs := [11]) (by kernel_rfl) (by simp) ?_
    refine AllReadyH.cons (at_list rfl) (fun K hK => ?_) AllReadyH.nil
    go_simp
    refine ((FF.out).cl _).mono ?_
    rintro e vp ⟨rfl, rfl⟩
    go_wp2_with fail
    refine hK.out _ _ hHeld (fun hHeld2 => ?_)
    clear hK K hHeld
    have hHeld := hHeld2
    clear hHeld2
    try simp only [Act.put, List.setIfInBounds_toArray, List.set_cons_zero, List.set_cons_succ]
    refine wpAnyH_take (i := 12) (v := .bool true) (at_list rfl) (by kernel_rfl) (by kernel_rfl) (by kernel_rfl) (fun _ _ _ h => h) (Or.inl ⟨by rfl, ?_⟩) hHeld ?_
    · intro v hSv
      clear hHeld
      clear hSv
      go_simp
    try simp only [Act.put, List.setIfInBounds_toArray, List.set_cons_zero, List.set_cons_succ]
    refine wpAnyH_take (i := 13) (v := .bool true) (at_list rfl) (by kernel_rfl) (by kernel_rfl) (by kernel_rfl) (fun _ _ _ h => h) (Or.inl ⟨by rfl, ?_⟩) hHeld ?_
    · intro v hSv
      clear hHeld
      go_simp
    try simp only [Act.put, List.setIfInBounds_toArray, List.set_cons_zero, List.set_cons_succ]
    refine wpAnyH_done (by kernel_rfl) ?_ _
    have HB := Lib.hid hHeld.1
    have K2 := Lib.hid hHeld.2.1
    have BA := Lib.hid hHeld.2.2.1
    have K4 := Lib.hid hHeld.2.2.2
    clear hHeld
    go_wp2_with (first | (refine big_fill rfl 32 _ _ rfl gK2 (hdA zeroH) rfl rfl K2.out (by kernel_rfl) (by kernel_rfl) (by kernel_rfl) ?_; intro vK29 nK2 htK2; replace K2 := Lib.hid nK2; replace HB := Lib.hid (btouch HB.out htK2 LK2.out); clear nK2 htK2) | (refine big_build rfl 32 _ rfl (hdA zeroH) (by kernel_rfl) ?_))
    refine bodyPost_ret (results_two rfl _ _ gK2 _ (hdA zeroH) (.int .i64 53) _ rfl rfl K2.out Tryd.underlying32 rfl (by kernel_rfl)) rfl ⟨?_, HB.out⟩
    exact HX.out.symm

end Go.Proofs.YtifhjmhekapaoaaDoor
