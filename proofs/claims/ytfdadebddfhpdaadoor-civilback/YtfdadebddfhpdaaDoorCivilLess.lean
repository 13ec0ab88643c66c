/- The walks over civil's parts and Less, and over the reference's Less. -/
import Derived.Test.YtfdadebddfhpdaaDoorCivilMath
import Derived.Test.YtfdadebddfhpdaaDoorBigCore
import Derived.Test.YtfdadebddfhpdaaDoorByHand
import Derived.Test.YtfdadebddfhpdaaDoorWideAll
import Derived.Deep.DeepCutAuto
import Derived.BigQuiet
namespace Go.Proofs.YtfdadebddfhpdaaDoor
set_option maxRecDepth 100000
open Go.RowKit
set_option linter.unusedVariables false
set_option linter.unusedSimpArgs false

/-- the parts of a label, one behind the other -/
def ptN (l : Lb) : Nat → Int
  | 0 => l.y
  | 1 => l.m
  | 2 => l.d
  | 3 => l.hh
  | 4 => l.mi
  | _ => l.se
theorem lb_cell {v : World} {g : Nat} {t : TypeId} {l : Lb} (h : Holds v g t (lbA l)) {k : Nat} (hk : k < 6) : v.cell? ⟨g, k, none⟩ = some (.int .i64 (ptN l k)) := by
  match k, hk with
  | 0, _ => exact h.reads rfl
  | 1, _ => exact h.reads rfl
  | 2, _ => exact h.reads rfl
  | 3, _ => exact h.reads rfl
  | 4, _ => exact h.reads rfl
  | 5, _ => exact h.reads rfl
theorem less_at {a b : Lb} {k : Nat} (hk : k < 6) (h : ∀ j, j < k → ptN a j = ptN b j) (hn : ptN a k ≠ ptN b k) : lessL a b = decide (ptN a k < ptN b k) := by
  unfold lessL
  have e0 : 0 < k → a.y = b.y := fun x => h 0 x
  have e1 : 1 < k → a.m = b.m := fun x => h 1 x
  have e2 : 2 < k → a.d = b.d := fun x => h 2 x
  have e3 : 3 < k → a.hh = b.hh := fun x => h 3 x
  have e4 : 4 < k → a.mi = b.mi := fun x => h 4 x
  match k, hk with
  | 0, _ => rw [if_pos (show a.y ≠ b.y from hn)]; rfl
  | 1, _ => rw [if_neg (by simp [e0]), if_pos (show a.m ≠ b.m from hn)]; rfl
  | 2, _ => rw [if_neg (by simp [e0]), if_neg (by simp [e1]), if_pos (show a.d ≠ b.d from hn)]; rfl
  | 3, _ => rw [if_neg (by simp [e0]), if_neg (by simp [e1]), if_neg (by simp [e2]), if_pos (show a.hh ≠ b.hh from hn)]; rfl
  | 4, _ => rw [if_neg (by simp [e0]), if_neg (by simp [e1]), if_neg (by simp [e2]), if_neg (by simp [e3]), if_pos (show a.mi ≠ b.mi from hn)]; rfl
  | 5, _ => rw [if_neg (by simp [e0]), if_neg (by simp [e1]), if_neg (by simp [e2]), if_neg (by simp [e3]), if_neg (by simp [e4])]; rfl
theorem less_end {a b : Lb} (h : ∀ j, j < 6 → ptN a j = ptN b j) : lessL a b = false := by
  unfold lessL
  have e0 : a.y = b.y := h 0 (by omega)
  have e1 : a.m = b.m := h 1 (by omega)
  have e2 : a.d = b.d := h 2 (by omega)
  have e3 : a.hh = b.hh := h 3 (by omega)
  have e4 : a.mi = b.mi := h 4 (by omega)
  have e5 : a.se = b.se := h 5 (by omega)
  rw [if_neg (by simp [e0]), if_neg (by simp [e1]), if_neg (by simp [e2]), if_neg (by simp [e3]), if_neg (by simp [e4]), e5]
  simp

set_option maxHeartbeats 4000000 in
theorem pparts15_any (l : Lb) (w : World) :
    Calls Tryd.prog 36 #[.agg (lbA l)] w fun e w' => e = .returned (.agg (lbA l)) ∧ Below w.heap.size w w' := by
  have HB := Lib.hid (Below.refl w.heap.size w)
  go_enter Tryd.func36, Tryd.ntmps36
  go_upto_region 1 with (first | (refine big_alloc rfl 53 rfl (#[.int .i64 0, .int .i64 0, .int .i64 0, .int .i64 0, .int .i64 0, .int .i64 0]) (by kernel_rfl) ?_; intro gK2 wK2 hlK2 nK2 hbK2; have K2 := Lib.hid nK2; have LK2 := Lib.hid (Nat.le_trans (HB.out).size hlK2); have OK1K2 := Lib.hid ((K1.out).off hlK2); replace K1 := Lib.hid ((K1.out).keptB hbK2); replace HB := Lib.hid (bstep HB.out hbK2); clear hlK2 nK2 hbK2; try simp only [Act.put, List.setIfInBounds_toArray, List.set_cons_zero, List.set_cons_succ]) | (refine big_box rfl 34 _ rfl (lbA l) rfl (by kernel_rfl) ?_; intro gK1 wK1 hlK1 nK1 hbK1; have K1 := Lib.hid nK1; have LK1 := Lib.hid (Nat.le_trans (HB.out).size hlK1); replace HB := Lib.hid (bstep HB.out hbK1); clear hlK1 nK1 hbK1; try simp only [Act.put, List.setIfInBounds_toArray, List.set_cons_zero, List.set_cons_succ]))
  have x0 := (K1.out).reads (i := 0) (x := .int .i64 l.y) rfl
  have x1 := (K1.out).reads (i := 1) (x := .int .i64 l.m) rfl
  have x2 := (K1.out).reads (i := 2) (x := .int .i64 l.d) rfl
  have x3 := (K1.out).reads (i := 3) (x := .int .i64 l.hh) rfl
  have x4 := (K1.out).reads (i := 4) (x := .int .i64 l.mi) rfl
  have x5 := (K1.out).reads (i := 5) (x := .int .i64 l.se) rfl
  go_wp2_with (first | (refine big_fill rfl 53 _ _ rfl gK2 (lbA l) rfl rfl K2.out (by kernel_rfl) (by kernel_rfl) (by kernel_rfl) ?_; intro vK21 nK2 htK2; replace K2 := Lib.hid nK2; replace K1 := Lib.hid ((K1.out).touch htK2 OK1K2.out); replace HB := Lib.hid (btouch HB.out htK2 LK2.out); clear nK2 htK2; try simp only [Act.put, List.setIfInBounds_toArray, List.set_cons_zero, List.set_cons_succ]) | (refine big_build rfl 53 _ rfl (lbA l) (by kernel_rfl) ?_; try simp only [Act.put, List.setIfInBounds_toArray, List.set_cons_zero, List.set_cons_succ]))
  refine bodyPost_ret (v := .agg (lbA l)) (results_cell_row rfl _ _ gK2 _ _ (0, 0) _ rfl K2.out Tryd.underlying53 rfl (by kernel_rfl)) rfl ?_
  exact ⟨rfl, HB.out⟩
set_option maxHeartbeats 4000000 in
theorem pless15_any (a b : Lb) (w : World) :
    Calls Tryd.prog 26 #[.agg (lbA a), .agg (lbA b)] w fun e w' => e = .returned (.bool (lessL a b)) ∧ Below w.heap.size w w' := by
  have HB := Lib.hid (Below.refl w.heap.size w)
  go_enter Tryd.func26, Tryd.ntmps26
  go_upto_region 1 with (first | (refine big_box rfl 34 _ rfl (lbA b) rfl (by kernel_rfl) ?_; intro gK3 wK3 hlK3 nK3 hbK3; have K3 := Lib.hid nK3; have LK3 := Lib.hid (Nat.le_trans (HB.out).size hlK3); have OK2K3 := Lib.hid ((K2.out).off hlK3); replace K2 := Lib.hid ((K2.out).keptB hbK3); replace HB := Lib.hid (bstep HB.out hbK3); clear hlK3 nK3 hbK3; try simp only [Act.put, List.setIfInBounds_toArray, List.set_cons_zero, List.set_cons_succ]) | (refine big_box rfl 34 _ rfl (lbA a) rfl (by kernel_rfl) ?_; intro gK2 wK2 hlK2 nK2 hbK2; have K2 := Lib.hid nK2; have LK2 := Lib.hid (Nat.le_trans (HB.out).size hlK2); replace HB := Lib.hid (bstep HB.out hbK2); clear hlK2 nK2 hbK2; try simp only [Act.put, List.setIfInBounds_toArray, List.set_cons_zero, List.set_cons_succ]))
  go_cut [5, 6] (fun pv pu wx => ∃ g g2, pv = .pointer (some ⟨g, 0, none⟩) ∧ pu = .pointer (some ⟨g2, 0, none⟩) ∧ w.heap.size ≤ g ∧ w.heap.size ≤ g2 ∧ g ≠ g2 ∧ Hid (Holds wx g 53 (lbA a)) ∧ Hid (Holds wx g2 53 (lbA b)) ∧ Hid (Below w.heap.size w wx))
  case first =>
    refine wp_region_held_drew (S := fun v => Below w.heap.size w v ∧ Holds v gK2 34 (lbA a) ∧ Holds v gK3 34 (lbA b) ∧ True) (by kernel_rfl) ?_ (fun hHeld => ?_)
    · exact ⟨bdrew HB.out, (K2.out).drew, (K3.out).drew, trivial⟩
    clear HB K2 K3
    refine wpAnyH_take (i := 0) (v := .agg (lbA a)) (at_list rfl) (by kernel_rfl) (by kernel_rfl) (by kernel_rfl) (fun _ _ _ h => h) (yields_whole (by rfl) 34 _ rfl gK2 rfl (fun v hv => hv.2.1) Tryd.underlying34 rfl (by kernel_rfl)) hHeld ?_
    try simp only [Act.put, List.setIfInBounds_toArray, List.set_cons_zero, List.set_cons_succ]
    refine wpAnyH_take (i := 2) (v := .agg (lbA b)) (at_list rfl) (by kernel_rfl) (by kernel_rfl) (by kernel_rfl) (fun _ _ _ h => h) (yields_whole (by rfl) 34 _ rfl gK3 rfl (fun v hv => hv.2.2.1) Tryd.underlying34 rfl (by kernel_rfl)) hHeld ?_
    try simp only [Act.put, List.setIfInBounds_toArray, List.set_cons_zero, List.set_cons_succ]
    refine wpAnyH_ready (rs := [1, 4, 5]) (by kernel_rfl) (by simp) ?_
    refine AllReadyH.cons (at_list rfl) (fun K hK => ?_) ?_
    · go_simp
      refine (pparts15_any a _).mono ?_
      rintro e v1 ⟨rfl, hv1⟩
      go_wp2_with fail
      refine hK.out _ _ ?_ (fun hHeld2 => ?_)
      · exact ⟨bstep hHeld.1 hv1, (hHeld.2.1).keptB hv1, (hHeld.2.2.1).keptB hv1, trivial⟩
      clear hK K hHeld
      have hHeld := hHeld2
      clear hHeld2 hv1
      try simp only [Act.put, List.setIfInBounds_toArray, List.set_cons_zero, List.set_cons_succ]
      refine wpAnyH_ready (rs := [3, 4, 5]) (by kernel_rfl) (by simp) ?_
      refine AllReadyH.cons (at_list rfl) (fun K hK => ?_) ?_
      · go_simp
        refine (pparts15_any b _).mono ?_
        rintro e v2 ⟨rfl, hv2⟩
        go_wp2_with fail
        refine hK.out _ _ ?_ (fun hHeld2 => ?_)
        · exact ⟨bstep hHeld.1 hv2, (hHeld.2.1).keptB hv2, (hHeld.2.2.1).keptB hv2, trivial⟩
        clear hK K hHeld
        have hHeld := hHeld2
        clear hHeld2 hv2
        try simp only [Act.put, List.setIfInBounds_toArray, List.set_cons_zero, List.set_cons_succ]
        refine wpAnyH_ready (rs := [4, 5]) (by kernel_rfl) (by simp) ?_
        refine AllReadyH.cons (at_list rfl) (fun K hK => ?_) ?_
        · refine step_alloc (by rfl) 53 rfl (#[.int .i64 0, .int .i64 0, .int .i64 0, .int .i64 0, .int .i64 0, .int .i64 0]) (by kernel_rfl) ?_
          intro gKA wKA hlKA nKA hbKA
          have KA := Lib.hid nKA
          have LKA := Lib.hid (Nat.le_trans (hHeld.1).size hlKA)
          have OK2KA := Lib.hid ((hHeld.2.1).off hlKA)
          have OK3KA := Lib.hid ((hHeld.2.2.1).off hlKA)
          refine hK.out _ _ ?_ (fun hHeld2 => ?_)
          · exact ⟨bstep hHeld.1 hbKA, (hHeld.2.1).keptB hbKA, (hHeld.2.2.1).keptB hbKA, trivial⟩
          clear hK K hHeld
          have hHeld := hHeld2
          clear hHeld2
          try simp only [Act.put]
          clear hlKA nKA hbKA
          try simp only [List.setIfInBounds_toArray, List.set_cons_zero, List.set_cons_succ]
          refine wpAnyH_ready (rs := [5]) (by kernel_rfl) (by simp) ?_
          refine AllReadyH.cons (at_list rfl) (fun K hK => ?_) ?_
          · refine step_alloc (by rfl) 53 rfl (#[.int .i64 0, .int .i64 0, .int .i64 0, .int .i64 0, .int .i64 0, .int .i64 0]) (by kernel_rfl) ?_
            intro gKB wKB hlKB nKB hbKB
            have KB := Lib.hid nKB
            have LKB := Lib.hid (Nat.le_trans (hHeld.1).size hlKB)
            have OK2KB := Lib.hid ((hHeld.2.1).off hlKB)
            have OK3KB := Lib.hid ((hHeld.2.2.1).off hlKB)
            have OKAKB := Lib.hid ((KA.out).off hlKB)
            replace KA := Lib.hid ((KA.out).keptB hbKB)
            refine hK.out _ _ ?_ (fun hHeld2 => ?_)
            · exact ⟨bstep hHeld.1 hbKB, (hHeld.2.1).keptB hbKB, (hHeld.2.2.1).keptB hbKB, trivial⟩
            clear hK K hHeld
            have hHeld := hHeld2
            clear hHeld2
            try simp only [Act.put]
            clear hlKB nKB hbKB
            try simp only [List.setIfInBounds_toArray, List.set_cons_zero, List.set_cons_succ]
            refine wpAnyH_ready (rs := [6]) (by kernel_rfl) (by simp) ?_
            refine AllReadyH.cons (at_list rfl) (fun K hK => ?_) AllReadyH.nil
            refine step_fill (by rfl) 53 _ _ rfl gKA (lbA a) rfl rfl KA.out (by kernel_rfl) (by kernel_rfl) (by kernel_rfl) ?_
            intro vKA0 nKA htKA
            replace KA := Lib.hid nKA
            replace KB := Lib.hid ((KB.out).touch htKA (Ne.symm OKAKB.out))
            refine hK.out _ _ ?_ (fun hHeld2 => ?_)
            · exact ⟨btouch hHeld.1 htKA LKA.out, (hHeld.2.1).touch htKA OK2KA.out, (hHeld.2.2.1).touch htKA OK3KA.out, trivial⟩
            clear hK K hHeld
            have hHeld := hHeld2
            clear hHeld2
            try simp only [Act.put]
            clear nKA htKA
            try simp only [List.setIfInBounds_toArray, List.set_cons_zero, List.set_cons_succ]
            refine wpAnyH_ready (rs := [7]) (by kernel_rfl) (by simp) ?_
            refine AllReadyH.cons (at_list rfl) (fun K hK => ?_) AllReadyH.nil
            refine step_fill (by rfl) 53 _ _ rfl gKB (lbA b) rfl rfl KB.out (by kernel_rfl) (by kernel_rfl) (by kernel_rfl) ?_
            intro vKB0 nKB htKB
            replace KB := Lib.hid nKB
            replace KA := Lib.hid ((KA.out).touch htKB OKAKB.out)
            refine hK.out _ _ ?_ (fun hHeld2 => ?_)
            · exact ⟨btouch hHeld.1 htKB LKB.out, (hHeld.2.1).touch htKB OK2KB.out, (hHeld.2.2.1).touch htKB OK3KB.out, trivial⟩
            clear hK K hHeld
            have hHeld := hHeld2
            clear hHeld2
            try simp only [Act.put]
            clear nKB htKB
            try simp only [List.setIfInBounds_toArray, List.set_cons_zero, List.set_cons_succ]
            refine wpAnyH_done (by kernel_rfl) ?_ _
            have HB := Lib.hid hHeld.1
            have K2 := Lib.hid hHeld.2.1
            have K3 := Lib.hid hHeld.2.2.1
            clear hHeld
            go_wp2_with fail
            go_meet
            exact ⟨_, _, rfl, rfl, LKA.out, LKB.out, OKAKB.out, KA, KB, HB⟩
          exact AllReadyH.nil
        refine AllReadyH.cons (at_list rfl) (fun K hK => ?_) ?_
        · refine step_alloc (by rfl) 53 rfl (#[.int .i64 0, .int .i64 0, .int .i64 0, .int .i64 0, .int .i64 0, .int .i64 0]) (by kernel_rfl) ?_
          intro gKB wKB hlKB nKB hbKB
          have KB := Lib.hid nKB
          have LKB := Lib.hid (Nat.le_trans (hHeld.1).size hlKB)
          have OK2KB := Lib.hid ((hHeld.2.1).off hlKB)
          have OK3KB := Lib.hid ((hHeld.2.2.1).off hlKB)
          refine hK.out _ _ ?_ (fun hHeld2 => ?_)
          · exact ⟨bstep hHeld.1 hbKB, (hHeld.2.1).keptB hbKB, (hHeld.2.2.1).keptB hbKB, trivial⟩
          clear hK K hHeld
          have hHeld := hHeld2
          clear hHeld2
          try simp only [Act.put]
          clear hlKB nKB hbKB
          try simp only [List.setIfInBounds_toArray, List.set_cons_zero, List.set_cons_succ]
          refine wpAnyH_ready (rs := [4]) (by kernel_rfl) (by simp) ?_
          refine AllReadyH.cons (at_list rfl) (fun K hK => ?_) ?_
          · refine step_alloc (by rfl) 53 rfl (#[.int .i64 0, .int .i64 0, .int .i64 0, .int .i64 0, .int .i64 0, .int .i64 0]) (by kernel_rfl) ?_
            intro gKA wKA hlKA nKA hbKA
            have KA := Lib.hid nKA
            have LKA := Lib.hid (Nat.le_trans (hHeld.1).size hlKA)
            have OK2KA := Lib.hid ((hHeld.2.1).off hlKA)
            have OK3KA := Lib.hid ((hHeld.2.2.1).off hlKA)
            have OKBKA := Lib.hid ((KB.out).off hlKA)
            replace KB := Lib.hid ((KB.out).keptB hbKA)
            refine hK.out _ _ ?_ (fun hHeld2 => ?_)
            · exact ⟨bstep hHeld.1 hbKA, (hHeld.2.1).keptB hbKA, (hHeld.2.2.1).keptB hbKA, trivial⟩
            clear hK K hHeld
            have hHeld := hHeld2
            clear hHeld2
            try simp only [Act.put]
            clear hlKA nKA hbKA
            try simp only [List.setIfInBounds_toArray, List.set_cons_zero, List.set_cons_succ]
            refine wpAnyH_ready (rs := [6]) (by kernel_rfl) (by simp) ?_
            refine AllReadyH.cons (at_list rfl) (fun K hK => ?_) AllReadyH.nil
            refine step_fill (by rfl) 53 _ _ rfl gKA (lbA a) rfl rfl KA.out (by kernel_rfl) (by kernel_rfl) (by kernel_rfl) ?_
            intro vKA0 nKA htKA
            replace KA := Lib.hid nKA
            replace KB := Lib.hid ((KB.out).touch htKA OKBKA.out)
            refine hK.out _ _ ?_ (fun hHeld2 => ?_)
            · exact ⟨btouch hHeld.1 htKA LKA.out, (hHeld.2.1).touch htKA OK2KA.out, (hHeld.2.2.1).touch htKA OK3KA.out, trivial⟩
            clear hK K hHeld
            have hHeld := hHeld2
            clear hHeld2
            try simp only [Act.put]
            clear nKA htKA
            try simp only [List.setIfInBounds_toArray, List.set_cons_zero, List.set_cons_succ]
            refine wpAnyH_ready (rs := [7]) (by kernel_rfl) (by simp) ?_
            refine AllReadyH.cons (at_list rfl) (fun K hK => ?_) AllReadyH.nil
            refine step_fill (by rfl) 53 _ _ rfl gKB (lbA b) rfl rfl KB.out (by kernel_rfl) (by kernel_rfl) (by kernel_rfl) ?_
            intro vKB0 nKB htKB
            replace KB := Lib.hid nKB
            replace KA := Lib.hid ((KA.out).touch htKB (Ne.symm OKBKA.out))
            refine hK.out _ _ ?_ (fun hHeld2 => ?_)
            · exact ⟨btouch hHeld.1 htKB LKB.out, (hHeld.2.1).touch htKB OK2KB.out, (hHeld.2.2.1).touch htKB OK3KB.out, trivial⟩
            clear hK K hHeld
            have hHeld := hHeld2
            clear hHeld2
            try simp only [Act.put]
            clear nKB htKB
            try simp only [List.setIfInBounds_toArray, List.set_cons_zero, List.set_cons_succ]
            refine wpAnyH_done (by kernel_rfl) ?_ _
            have HB := Lib.hid hHeld.1
            have K2 := Lib.hid hHeld.2.1
            have K3 := Lib.hid hHeld.2.2.1
            clear hHeld
            go_wp2_with fail
            go_meet
            exact ⟨_, _, rfl, rfl, LKA.out, LKB.out, (Ne.symm OKBKA.out), KA, KB, HB⟩
          exact AllReadyH.nil
        exact AllReadyH.nil
      refine AllReadyH.cons (at_list rfl) (fun K hK => ?_) ?_
      · refine step_alloc (by rfl) 53 rfl (#[.int .i64 0, .int .i64 0, .int .i64 0, .int .i64 0, .int .i64 0, .int .i64 0]) (by kernel_rfl) ?_
        intro gKA wKA hlKA nKA hbKA
        have KA := Lib.hid nKA
        have LKA := Lib.hid (Nat.le_trans (hHeld.1).size hlKA)
        have OK2KA := Lib.hid ((hHeld.2.1).off hlKA)
        have OK3KA := Lib.hid ((hHeld.2.2.1).off hlKA)
        refine hK.out _ _ ?_ (fun hHeld2 => ?_)
        · exact ⟨bstep hHeld.1 hbKA, (hHeld.2.1).keptB hbKA, (hHeld.2.2.1).keptB hbKA, trivial⟩
        clear hK K hHeld
        have hHeld := hHeld2
        clear hHeld2
        try simp only [Act.put]
        clear hlKA nKA hbKA
        try simp only [List.setIfInBounds_toArray, List.set_cons_zero, List.set_cons_succ]
        refine wpAnyH_ready (rs := [3, 5]) (by kernel_rfl) (by simp) ?_
        refine AllReadyH.cons (at_list rfl) (fun K hK => ?_) ?_
        · go_simp
          refine (pparts15_any b _).mono ?_
          rintro e v2 ⟨rfl, hv2⟩
          replace KA := Lib.hid ((KA.out).keptB hv2)
          go_wp2_with fail
          refine hK.out _ _ ?_ (fun hHeld2 => ?_)
          · exact ⟨bstep hHeld.1 hv2, (hHeld.2.1).keptB hv2, (hHeld.2.2.1).keptB hv2, trivial⟩
          clear hK K hHeld
          have hHeld := hHeld2
          clear hHeld2 hv2
          try simp only [Act.put, List.setIfInBounds_toArray, List.set_cons_zero, List.set_cons_succ]
          refine wpAnyH_ready (rs := [5]) (by kernel_rfl) (by simp) ?_
          refine AllReadyH.cons (at_list rfl) (fun K hK => ?_) ?_
          · refine step_alloc (by rfl) 53 rfl (#[.int .i64 0, .int .i64 0, .int .i64 0, .int .i64 0, .int .i64 0, .int .i64 0]) (by kernel_rfl) ?_
            intro gKB wKB hlKB nKB hbKB
            have KB := Lib.hid nKB
            have LKB := Lib.hid (Nat.le_trans (hHeld.1).size hlKB)
            have OK2KB := Lib.hid ((hHeld.2.1).off hlKB)
            have OK3KB := Lib.hid ((hHeld.2.2.1).off hlKB)
            have OKAKB := Lib.hid ((KA.out).off hlKB)
            replace KA := Lib.hid ((KA.out).keptB hbKB)
            refine hK.out _ _ ?_ (fun hHeld2 => ?_)
            · exact ⟨bstep hHeld.1 hbKB, (hHeld.2.1).keptB hbKB, (hHeld.2.2.1).keptB hbKB, trivial⟩
            clear hK K hHeld
            have hHeld := hHeld2
            clear hHeld2
            try simp only [Act.put]
            clear hlKB nKB hbKB
            try simp only [List.setIfInBounds_toArray, List.set_cons_zero, List.set_cons_succ]
            refine wpAnyH_ready (rs := [6]) (by kernel_rfl) (by simp) ?_
            refine AllReadyH.cons (at_list rfl) (fun K hK => ?_) AllReadyH.nil
            refine step_fill (by rfl) 53 _ _ rfl gKA (lbA a) rfl rfl KA.out (by kernel_rfl) (by kernel_rfl) (by kernel_rfl) ?_
            intro vKA0 nKA htKA
            replace KA := Lib.hid nKA
            replace KB := Lib.hid ((KB.out).touch htKA (Ne.symm OKAKB.out))
            refine hK.out _ _ ?_ (fun hHeld2 => ?_)
            · exact ⟨btouch hHeld.1 htKA LKA.out, (hHeld.2.1).touch htKA OK2KA.out, (hHeld.2.2.1).touch htKA OK3KA.out, trivial⟩
            clear hK K hHeld
            have hHeld := hHeld2
            clear hHeld2
            try simp only [Act.put]
            clear nKA htKA
            try simp only [List.setIfInBounds_toArray, List.set_cons_zero, List.set_cons_succ]
            refine wpAnyH_ready (rs := [7]) (by kernel_rfl) (by simp) ?_
            refine AllReadyH.cons (at_list rfl) (fun K hK => ?_) AllReadyH.nil
            refine step_fill (by rfl) 53 _ _ rfl gKB (lbA b) rfl rfl KB.out (by kernel_rfl) (by kernel_rfl) (by kernel_rfl) ?_
            intro vKB0 nKB htKB
            replace KB := Lib.hid nKB
            replace KA := Lib.hid ((KA.out).touch htKB OKAKB.out)
            refine hK.out _ _ ?_ (fun hHeld2 => ?_)
            · exact ⟨btouch hHeld.1 htKB LKB.out, (hHeld.2.1).touch htKB OK2KB.out, (hHeld.2.2.1).touch htKB OK3KB.out, trivial⟩
            clear hK K hHeld
            have hHeld := hHeld2
            clear hHeld2
            try simp only [Act.put]
            clear nKB htKB
            try simp only [List.setIfInBounds_toArray, List.set_cons_zero, List.set_cons_succ]
            refine wpAnyH_done (by kernel_rfl) ?_ _
            have HB := Lib.hid hHeld.1
            have K2 := Lib.hid hHeld.2.1
            have K3 := Lib.hid hHeld.2.2.1
            clear hHeld
            go_wp2_with fail
            go_meet
            exact ⟨_, _, rfl, rfl, LKA.out, LKB.out, OKAKB.out, KA, KB, HB⟩
          exact AllReadyH.nil
        refine AllReadyH.cons (at_list rfl) (fun K hK => ?_) ?_
        · refine step_alloc (by rfl) 53 rfl (#[.int .i64 0, .int .i64 0, .int .i64 0, .int .i64 0, .int .i64 0, .int .i64 0]) (by kernel_rfl) ?_
          intro gKB wKB hlKB nKB hbKB
          have KB := Lib.hid nKB
          have LKB := Lib.hid (Nat.le_trans (hHeld.1).size hlKB)
          have OK2KB := Lib.hid ((hHeld.2.1).off hlKB)
          have OK3KB := Lib.hid ((hHeld.2.2.1).off hlKB)
          have OKAKB := Lib.hid ((KA.out).off hlKB)
          replace KA := Lib.hid ((KA.out).keptB hbKB)
          refine hK.out _ _ ?_ (fun hHeld2 => ?_)
          · exact ⟨bstep hHeld.1 hbKB, (hHeld.2.1).keptB hbKB, (hHeld.2.2.1).keptB hbKB, trivial⟩
          clear hK K hHeld
          have hHeld := hHeld2
          clear hHeld2
          try simp only [Act.put]
          clear hlKB nKB hbKB
          try simp only [List.setIfInBounds_toArray, List.set_cons_zero, List.set_cons_succ]
          refine wpAnyH_ready (rs := [3]) (by kernel_rfl) (by simp) ?_
          refine AllReadyH.cons (at_list rfl) (fun K hK => ?_) ?_
          · go_simp
            refine (pparts15_any b _).mono ?_
            rintro e v2 ⟨rfl, hv2⟩
            replace KA := Lib.hid ((KA.out).keptB hv2)
            replace KB := Lib.hid ((KB.out).keptB hv2)
            go_wp2_with fail
            refine hK.out _ _ ?_ (fun hHeld2 => ?_)
            · exact ⟨bstep hHeld.1 hv2, (hHeld.2.1).keptB hv2, (hHeld.2.2.1).keptB hv2, trivial⟩
            clear hK K hHeld
            have hHeld := hHeld2
            clear hHeld2 hv2
            try simp only [Act.put, List.setIfInBounds_toArray, List.set_cons_zero, List.set_cons_succ]
            refine wpAnyH_ready (rs := [6]) (by kernel_rfl) (by simp) ?_
            refine AllReadyH.cons (at_list rfl) (fun K hK => ?_) AllReadyH.nil
            refine step_fill (by rfl) 53 _ _ rfl gKA (lbA a) rfl rfl KA.out (by kernel_rfl) (by kernel_rfl) (by kernel_rfl) ?_
            intro vKA0 nKA htKA
            replace KA := Lib.hid nKA
            replace KB := Lib.hid ((KB.out).touch htKA (Ne.symm OKAKB.out))
            refine hK.out _ _ ?_ (fun hHeld2 => ?_)
            · exact ⟨btouch hHeld.1 htKA LKA.out, (hHeld.2.1).touch htKA OK2KA.out, (hHeld.2.2.1).touch htKA OK3KA.out, trivial⟩
            clear hK K hHeld
            have hHeld := hHeld2
            clear hHeld2
            try simp only [Act.put]
            clear nKA htKA
            try simp only [List.setIfInBounds_toArray, List.set_cons_zero, List.set_cons_succ]
            refine wpAnyH_ready (rs := [7]) (by kernel_rfl) (by simp) ?_
            refine AllReadyH.cons (at_list rfl) (fun K hK => ?_) AllReadyH.nil
            refine step_fill (by rfl) 53 _ _ rfl gKB (lbA b) rfl rfl KB.out (by kernel_rfl) (by kernel_rfl) (by kernel_rfl) ?_
            intro vKB0 nKB htKB
            replace KB := Lib.hid nKB
            replace KA := Lib.hid ((KA.out).touch htKB OKAKB.out)
            refine hK.out _ _ ?_ (fun hHeld2 => ?_)
            · exact ⟨btouch hHeld.1 htKB LKB.out, (hHeld.2.1).touch htKB OK2KB.out, (hHeld.2.2.1).touch htKB OK3KB.out, trivial⟩
            clear hK K hHeld
            have hHeld := hHeld2
            clear hHeld2
            try simp only [Act.put]
            clear nKB htKB
            try simp only [List.setIfInBounds_toArray, List.set_cons_zero, List.set_cons_succ]
            refine wpAnyH_done (by kernel_rfl) ?_ _
            have HB := Lib.hid hHeld.1
            have K2 := Lib.hid hHeld.2.1
            have K3 := Lib.hid hHeld.2.2.1
            clear hHeld
            go_wp2_with fail
            go_meet
            exact ⟨_, _, rfl, rfl, LKA.out, LKB.out, OKAKB.out, KA, KB, HB⟩
          exact AllReadyH.nil
        exact AllReadyH.nil
      refine AllReadyH.cons (at_list rfl) (fun K hK => ?_) ?_
      · refine step_alloc (by rfl) 53 rfl (#[.int .i64 0, .int .i64 0, .int .i64 0, .int .i64 0, .int .i64 0, .int .i64 0]) (by kernel_rfl) ?_
        intro gKB wKB hlKB nKB hbKB
        have KB := Lib.hid nKB
        have LKB := Lib.hid (Nat.le_trans (hHeld.1).size hlKB)
        have OK2KB := Lib.hid ((hHeld.2.1).off hlKB)
        have OK3KB := Lib.hid ((hHeld.2.2.1).off hlKB)
        refine hK.out _ _ ?_ (fun hHeld2 => ?_)
        · exact ⟨bstep hHeld.1 hbKB, (hHeld.2.1).keptB hbKB, (hHeld.2.2.1).keptB hbKB, trivial⟩
        clear hK K hHeld
        have hHeld := hHeld2
        clear hHeld2
        try simp only [Act.put]
        clear hlKB nKB hbKB
        try simp only [List.setIfInBounds_toArray, List.set_cons_zero, List.set_cons_succ]
        refine wpAnyH_ready (rs := [3, 4]) (by kernel_rfl) (by simp) ?_
        refine AllReadyH.cons (at_list rfl) (fun K hK => ?_) ?_
        · go_simp
          refine (pparts15_any b _).mono ?_
          rintro e v2 ⟨rfl, hv2⟩
          replace KB := Lib.hid ((KB.out).keptB hv2)
          go_wp2_with fail
          refine hK.out _ _ ?_ (fun hHeld2 => ?_)
          · exact ⟨bstep hHeld.1 hv2, (hHeld.2.1).keptB hv2, (hHeld.2.2.1).keptB hv2, trivial⟩
          clear hK K hHeld
          have hHeld := hHeld2
          clear hHeld2 hv2
          try simp only [Act.put, List.setIfInBounds_toArray, List.set_cons_zero, List.set_cons_succ]
          refine wpAnyH_ready (rs := [4]) (by kernel_rfl) (by simp) ?_
          refine AllReadyH.cons (at_list rfl) (fun K hK => ?_) ?_
          · refine step_alloc (by rfl) 53 rfl (#[.int .i64 0, .int .i64 0, .int .i64 0, .int .i64 0, .int .i64 0, .int .i64 0]) (by kernel_rfl) ?_
            intro gKA wKA hlKA nKA hbKA
            have KA := Lib.hid nKA
            have LKA := Lib.hid (Nat.le_trans (hHeld.1).size hlKA)
            have OK2KA := Lib.hid ((hHeld.2.1).off hlKA)
            have OK3KA := Lib.hid ((hHeld.2.2.1).off hlKA)
            have OKBKA := Lib.hid ((KB.out).off hlKA)
            replace KB := Lib.hid ((KB.out).keptB hbKA)
            refine hK.out _ _ ?_ (fun hHeld2 => ?_)
            · exact ⟨bstep hHeld.1 hbKA, (hHeld.2.1).keptB hbKA, (hHeld.2.2.1).keptB hbKA, trivial⟩
            clear hK K hHeld
            have hHeld := hHeld2
            clear hHeld2
            try simp only [Act.put]
            clear hlKA nKA hbKA
            try simp only [List.setIfInBounds_toArray, List.set_cons_zero, List.set_cons_succ]
            refine wpAnyH_ready (rs := [6]) (by kernel_rfl) (by simp) ?_
            refine AllReadyH.cons (at_list rfl) (fun K hK => ?_) AllReadyH.nil
            refine step_fill (by rfl) 53 _ _ rfl gKA (lbA a) rfl rfl KA.out (by kernel_rfl) (by kernel_rfl) (by kernel_rfl) ?_
            intro vKA0 nKA htKA
            replace KA := Lib.hid nKA
            replace KB := Lib.hid ((KB.out).touch htKA OKBKA.out)
            refine hK.out _ _ ?_ (fun hHeld2 => ?_)
            · exact ⟨btouch hHeld.1 htKA LKA.out, (hHeld.2.1).touch htKA OK2KA.out, (hHeld.2.2.1).touch htKA OK3KA.out, trivial⟩
            clear hK K hHeld
            have hHeld := hHeld2
            clear hHeld2
            try simp only [Act.put]
            clear nKA htKA
            try simp only [List.setIfInBounds_toArray, List.set_cons_zero, List.set_cons_succ]
            refine wpAnyH_ready (rs := [7]) (by kernel_rfl) (by simp) ?_
            refine AllReadyH.cons (at_list rfl) (fun K hK => ?_) AllReadyH.nil
            refine step_fill (by rfl) 53 _ _ rfl gKB (lbA b) rfl rfl KB.out (by kernel_rfl) (by kernel_rfl) (by kernel_rfl) ?_
            intro vKB0 nKB htKB
            replace KB := Lib.hid nKB
            replace KA := Lib.hid ((KA.out).touch htKB (Ne.symm OKBKA.out))
            refine hK.out _ _ ?_ (fun hHeld2 => ?_)
            · exact ⟨btouch hHeld.1 htKB LKB.out, (hHeld.2.1).touch htKB OK2KB.out, (hHeld.2.2.1).touch htKB OK3KB.out, trivial⟩
            clear hK K hHeld
            have hHeld := hHeld2
            clear hHeld2
            try simp only [Act.put]
            clear nKB htKB
            try simp only [List.setIfInBounds_toArray, List.set_cons_zero, List.set_cons_succ]
            refine wpAnyH_done (by kernel_rfl) ?_ _
            have HB := Lib.hid hHeld.1
            have K2 := Lib.hid hHeld.2.1
            have K3 := Lib.hid hHeld.2.2.1
            clear hHeld
            go_wp2_with fail
            go_meet
            exact ⟨_, _, rfl, rfl, LKA.out, LKB.out, (Ne.symm OKBKA.out), KA, KB, HB⟩
          exact AllReadyH.nil
        refine AllReadyH.cons (at_list rfl) (fun K hK => ?_) ?_
        · refine step_alloc (by rfl) 53 rfl (#[.int .i64 0, .int .i64 0, .int .i64 0, .int .i64 0, .int .i64 0, .int .i64 0]) (by kernel_rfl) ?_
          intro gKA wKA hlKA nKA hbKA
          have KA := Lib.hid nKA
          have LKA := Lib.hid (Nat.le_trans (hHeld.1).size hlKA)
          have OK2KA := Lib.hid ((hHeld.2.1).off hlKA)
          have OK3KA := Lib.hid ((hHeld.2.2.1).off hlKA)
          have OKBKA := Lib.hid ((KB.out).off hlKA)
          replace KB := Lib.hid ((KB.out).keptB hbKA)
          refine hK.out _ _ ?_ (fun hHeld2 => ?_)
          · exact ⟨bstep hHeld.1 hbKA, (hHeld.2.1).keptB hbKA, (hHeld.2.2.1).keptB hbKA, trivial⟩
          clear hK K hHeld
          have hHeld := hHeld2
          clear hHeld2
          try simp only [Act.put]
          clear hlKA nKA hbKA
          try simp only [List.setIfInBounds_toArray, List.set_cons_zero, List.set_cons_succ]
          refine wpAnyH_ready (rs := [3]) (by kernel_rfl) (by simp) ?_
          refine AllReadyH.cons (at_list rfl) (fun K hK => ?_) ?_
          · go_simp
            refine (pparts15_any b _).mono ?_
            rintro e v2 ⟨rfl, hv2⟩
            replace KB := Lib.hid ((KB.out).keptB hv2)
            replace KA := Lib.hid ((KA.out).keptB hv2)
            go_wp2_with fail
            refine hK.out _ _ ?_ (fun hHeld2 => ?_)
            · exact ⟨bstep hHeld.1 hv2, (hHeld.2.1).keptB hv2, (hHeld.2.2.1).keptB hv2, trivial⟩
            clear hK K hHeld
            have hHeld := hHeld2
            clear hHeld2 hv2
            try simp only [Act.put, List.setIfInBounds_toArray, List.set_cons_zero, List.set_cons_succ]
            refine wpAnyH_ready (rs := [6]) (by kernel_rfl) (by simp) ?_
            refine AllReadyH.cons (at_list rfl) (fun K hK => ?_) AllReadyH.nil
            refine step_fill (by rfl) 53 _ _ rfl gKA (lbA a) rfl rfl KA.out (by kernel_rfl) (by kernel_rfl) (by kernel_rfl) ?_
            intro vKA0 nKA htKA
            replace KA := Lib.hid nKA
            replace KB := Lib.hid ((KB.out).touch htKA OKBKA.out)
            refine hK.out _ _ ?_ (fun hHeld2 => ?_)
            · exact ⟨btouch hHeld.1 htKA LKA.out, (hHeld.2.1).touch htKA OK2KA.out, (hHeld.2.2.1).touch htKA OK3KA.out, trivial⟩
            clear hK K hHeld
            have hHeld := hHeld2
            clear hHeld2
            try simp only [Act.put]
            clear nKA htKA
            try simp only [List.setIfInBounds_toArray, List.set_cons_zero, List.set_cons_succ]
            refine wpAnyH_ready (rs := [7]) (by kernel_rfl) (by simp) ?_
            refine AllReadyH.cons (at_list rfl) (fun K hK => ?_) AllReadyH.nil
            refine step_fill (by rfl) 53 _ _ rfl gKB (lbA b) rfl rfl KB.out (by kernel_rfl) (by kernel_rfl) (by kernel_rfl) ?_
            intro vKB0 nKB htKB
            replace KB := Lib.hid nKB
            replace KA := Lib.hid ((KA.out).touch htKB (Ne.symm OKBKA.out))
            refine hK.out _ _ ?_ (fun hHeld2 => ?_)
            · exact ⟨btouch hHeld.1 htKB LKB.out, (hHeld.2.1).touch htKB OK2KB.out, (hHeld.2.2.1).touch htKB OK3KB.out, trivial⟩
            clear hK K hHeld
            have hHeld := hHeld2
            clear hHeld2
            try simp only [Act.put]
            clear nKB htKB
            try simp only [List.setIfInBounds_toArray, List.set_cons_zero, List.set_cons_succ]
            refine wpAnyH_done (by kernel_rfl) ?_ _
            have HB := Lib.hid hHeld.1
            have K2 := Lib.hid hHeld.2.1
            have K3 := Lib.hid hHeld.2.2.1
            clear hHeld
            go_wp2_with fail
            go_meet
            exact ⟨_, _, rfl, rfl, LKA.out, LKB.out, (Ne.symm OKBKA.out), KA, KB, HB⟩
          exact AllReadyH.nil
        exact AllReadyH.nil
      exact AllReadyH.nil
    refine AllReadyH.cons (at_list rfl) (fun K hK => ?_) ?_
    · refine step_alloc (by rfl) 53 rfl (#[.int .i64 0, .int .i64 0, .int .i64 0, .int .i64 0, .int .i64 0, .int .i64 0]) (by kernel_rfl) ?_
      intro gKA wKA hlKA nKA hbKA
      have KA := Lib.hid nKA
      have LKA := Lib.hid (Nat.le_trans (hHeld.1).size hlKA)
      have OK2KA := Lib.hid ((hHeld.2.1).off hlKA)
      have OK3KA := Lib.hid ((hHeld.2.2.1).off hlKA)
      refine hK.out _ _ ?_ (fun hHeld2 => ?_)
      · exact ⟨bstep hHeld.1 hbKA, (hHeld.2.1).keptB hbKA, (hHeld.2.2.1).keptB hbKA, trivial⟩
      clear hK K hHeld
      have hHeld := hHeld2
      clear hHeld2
      try simp only [Act.put]
      clear hlKA nKA hbKA
      try simp only [List.setIfInBounds_toArray, List.set_cons_zero, List.set_cons_succ]
      refine wpAnyH_ready (rs := [1, 5]) (by kernel_rfl) (by simp) ?_
      refine AllReadyH.cons (at_list rfl) (fun K hK => ?_) ?_
      · go_simp
        refine (pparts15_any a _).mono ?_
        rintro e v1 ⟨rfl, hv1⟩
        replace KA := Lib.hid ((KA.out).keptB hv1)
        go_wp2_with fail
        refine hK.out _ _ ?_ (fun hHeld2 => ?_)
        · exact ⟨bstep hHeld.1 hv1, (hHeld.2.1).keptB hv1, (hHeld.2.2.1).keptB hv1, trivial⟩
        clear hK K hHeld
        have hHeld := hHeld2
        clear hHeld2 hv1
        try simp only [Act.put, List.setIfInBounds_toArray, List.set_cons_zero, List.set_cons_succ]
        refine wpAnyH_ready (rs := [3, 5]) (by kernel_rfl) (by simp) ?_
        refine AllReadyH.cons (at_list rfl) (fun K hK => ?_) ?_
        · go_simp
          refine (pparts15_any b _).mono ?_
          rintro e v2 ⟨rfl, hv2⟩
          replace KA := Lib.hid ((KA.out).keptB hv2)
          go_wp2_with fail
          refine hK.out _ _ ?_ (fun hHeld2 => ?_)
          · exact ⟨bstep hHeld.1 hv2, (hHeld.2.1).keptB hv2, (hHeld.2.2.1).keptB hv2, trivial⟩
          clear hK K hHeld
          have hHeld := hHeld2
          clear hHeld2 hv2
          try simp only [Act.put, List.setIfInBounds_toArray, List.set_cons_zero, List.set_cons_succ]
          refine wpAnyH_ready (rs := [5]) (by kernel_rfl) (by simp) ?_
          refine AllReadyH.cons (at_list rfl) (fun K hK => ?_) ?_
          · refine step_alloc (by rfl) 53 rfl (#[.int .i64 0, .int .i64 0, .int .i64 0, .int .i64 0, .int .i64 0, .int .i64 0]) (by kernel_rfl) ?_
            intro gKB wKB hlKB nKB hbKB
            have KB := Lib.hid nKB
            have LKB := Lib.hid (Nat.le_trans (hHeld.1).size hlKB)
            have OK2KB := Lib.hid ((hHeld.2.1).off hlKB)
            have OK3KB := Lib.hid ((hHeld.2.2.1).off hlKB)
            have OKAKB := Lib.hid ((KA.out).off hlKB)
            replace KA := Lib.hid ((KA.out).keptB hbKB)
            refine hK.out _ _ ?_ (fun hHeld2 => ?_)
            · exact ⟨bstep hHeld.1 hbKB, (hHeld.2.1).keptB hbKB, (hHeld.2.2.1).keptB hbKB, trivial⟩
            clear hK K hHeld
            have hHeld := hHeld2
            clear hHeld2
            try simp only [Act.put]
            clear hlKB nKB hbKB
            try simp only [List.setIfInBounds_toArray, List.set_cons_zero, List.set_cons_succ]
            refine wpAnyH_ready (rs := [6]) (by kernel_rfl) (by simp) ?_
            refine AllReadyH.cons (at_list rfl) (fun K hK => ?_) AllReadyH.nil
            refine step_fill (by rfl) 53 _ _ rfl gKA (lbA a) rfl rfl KA.out (by kernel_rfl) (by kernel_rfl) (by kernel_rfl) ?_
            intro vKA0 nKA htKA
            replace KA := Lib.hid nKA
            replace KB := Lib.hid ((KB.out).touch htKA (Ne.symm OKAKB.out))
            refine hK.out _ _ ?_ (fun hHeld2 => ?_)
            · exact ⟨btouch hHeld.1 htKA LKA.out, (hHeld.2.1).touch htKA OK2KA.out, (hHeld.2.2.1).touch htKA OK3KA.out, trivial⟩
            clear hK K hHeld
            have hHeld := hHeld2
            clear hHeld2
            try simp only [Act.put]
            clear nKA htKA
            try simp only [List.setIfInBounds_toArray, List.set_cons_zero, List.set_cons_succ]
            refine wpAnyH_ready (rs := [7]) (by kernel_rfl) (by simp) ?_
            refine AllReadyH.cons (at_list rfl) (fun K hK => ?_) AllReadyH.nil
            refine step_fill (by rfl) 53 _ _ rfl gKB (lbA b) rfl rfl KB.out (by kernel_rfl) (by kernel_rfl) (by kernel_rfl) ?_
            intro vKB0 nKB htKB
            replace KB := Lib.hid nKB
            replace KA := Lib.hid ((KA.out).touch htKB OKAKB.out)
            refine hK.out _ _ ?_ (fun hHeld2 => ?_)
            · exact ⟨btouch hHeld.1 htKB LKB.out, (hHeld.2.1).touch htKB OK2KB.out, (hHeld.2.2.1).touch htKB OK3KB.out, trivial⟩
            clear hK K hHeld
            have hHeld := hHeld2
            clear hHeld2
            try simp only [Act.put]
            clear nKB htKB
            try simp only [List.setIfInBounds_toArray, List.set_cons_zero, List.set_cons_succ]
            refine wpAnyH_done (by kernel_rfl) ?_ _
            have HB := Lib.hid hHeld.1
            have K2 := Lib.hid hHeld.2.1
            have K3 := Lib.hid hHeld.2.2.1
            clear hHeld
            go_wp2_with fail
            go_meet
            exact ⟨_, _, rfl, rfl, LKA.out, LKB.out, OKAKB.out, KA, KB, HB⟩
          exact AllReadyH.nil
        refine AllReadyH.cons (at_list rfl) (fun K hK => ?_) ?_
        · refine step_alloc (by rfl) 53 rfl (#[.int .i64 0, .int .i64 0, .int .i64 0, .int .i64 0, .int .i64 0, .int .i64 0]) (by kernel_rfl) ?_
          intro gKB wKB hlKB nKB hbKB
          have KB := Lib.hid nKB
          have LKB := Lib.hid (Nat.le_trans (hHeld.1).size hlKB)
          have OK2KB := Lib.hid ((hHeld.2.1).off hlKB)
          have OK3KB := Lib.hid ((hHeld.2.2.1).off hlKB)
          have OKAKB := Lib.hid ((KA.out).off hlKB)
          replace KA := Lib.hid ((KA.out).keptB hbKB)
          refine hK.out _ _ ?_ (fun hHeld2 => ?_)
          · exact ⟨bstep hHeld.1 hbKB, (hHeld.2.1).keptB hbKB, (hHeld.2.2.1).keptB hbKB, trivial⟩
          clear hK K hHeld
          have hHeld := hHeld2
          clear hHeld2
          try simp only [Act.put]
          clear hlKB nKB hbKB
          try simp only [List.setIfInBounds_toArray, List.set_cons_zero, List.set_cons_succ]
          refine wpAnyH_ready (rs := [3]) (by kernel_rfl) (by simp) ?_
          refine AllReadyH.cons (at_list rfl) (fun K hK => ?_) ?_
          · go_simp
            refine (pparts15_any b _).mono ?_
            rintro e v2 ⟨rfl, hv2⟩
            replace KA := Lib.hid ((KA.out).keptB hv2)
            replace KB := Lib.hid ((KB.out).keptB hv2)
            go_wp2_with fail
            refine hK.out _ _ ?_ (fun hHeld2 => ?_)
            · exact ⟨bstep hHeld.1 hv2, (hHeld.2.1).keptB hv2, (hHeld.2.2.1).keptB hv2, trivial⟩
            clear hK K hHeld
            have hHeld := hHeld2
            clear hHeld2 hv2
            try simp only [Act.put, List.setIfInBounds_toArray, List.set_cons_zero, List.set_cons_succ]
            refine wpAnyH_ready (rs := [6]) (by kernel_rfl) (by simp) ?_
            refine AllReadyH.cons (at_list rfl) (fun K hK => ?_) AllReadyH.nil
            refine step_fill (by rfl) 53 _ _ rfl gKA (lbA a) rfl rfl KA.out (by kernel_rfl) (by kernel_rfl) (by kernel_rfl) ?_
            intro vKA0 nKA htKA
            replace KA := Lib.hid nKA
            replace KB := Lib.hid ((KB.out).touch htKA (Ne.symm OKAKB.out))
            refine hK.out _ _ ?_ (fun hHeld2 => ?_)
            · exact ⟨btouch hHeld.1 htKA LKA.out, (hHeld.2.1).touch htKA OK2KA.out, (hHeld.2.2.1).touch htKA OK3KA.out, trivial⟩
            clear hK K hHeld
            have hHeld := hHeld2
            clear hHeld2
            try simp only [Act.put]
            clear nKA htKA
            try simp only [List.setIfInBounds_toArray, List.set_cons_zero, List.set_cons_succ]
            refine wpAnyH_ready (rs := [7]) (by kernel_rfl) (by simp) ?_
            refine AllReadyH.cons (at_list rfl) (fun K hK => ?_) AllReadyH.nil
            refine step_fill (by rfl) 53 _ _ rfl gKB (lbA b) rfl rfl KB.out (by kernel_rfl) (by kernel_rfl) (by kernel_rfl) ?_
            intro vKB0 nKB htKB
            replace KB := Lib.hid nKB
            replace KA := Lib.hid ((KA.out).touch htKB OKAKB.out)
            refine hK.out _ _ ?_ (fun hHeld2 => ?_)
            · exact ⟨btouch hHeld.1 htKB LKB.out, (hHeld.2.1).touch htKB OK2KB.out, (hHeld.2.2.1).touch htKB OK3KB.out, trivial⟩
            clear hK K hHeld
            have hHeld := hHeld2
            clear hHeld2
            try simp only [Act.put]
            clear nKB htKB
            try simp only [List.setIfInBounds_toArray, List.set_cons_zero, List.set_cons_succ]
            refine wpAnyH_done (by kernel_rfl) ?_ _
            have HB := Lib.hid hHeld.1
            have K2 := Lib.hid hHeld.2.1
            have K3 := Lib.hid hHeld.2.2.1
            clear hHeld
            go_wp2_with fail
            go_meet
            exact ⟨_, _, rfl, rfl, LKA.out, LKB.out, OKAKB.out, KA, KB, HB⟩
          exact AllReadyH.nil
        exact AllReadyH.nil
      refine AllReadyH.cons (at_list rfl) (fun K hK => ?_) ?_
      · refine step_alloc (by rfl) 53 rfl (#[.int .i64 0, .int .i64 0, .int .i64 0, .int .i64 0, .int .i64 0, .int .i64 0]) (by kernel_rfl) ?_
        intro gKB wKB hlKB nKB hbKB
        have KB := Lib.hid nKB
        have LKB := Lib.hid (Nat.le_trans (hHeld.1).size hlKB)
        have OK2KB := Lib.hid ((hHeld.2.1).off hlKB)
        have OK3KB := Lib.hid ((hHeld.2.2.1).off hlKB)
        have OKAKB := Lib.hid ((KA.out).off hlKB)
        replace KA := Lib.hid ((KA.out).keptB hbKB)
        refine hK.out _ _ ?_ (fun hHeld2 => ?_)
        · exact ⟨bstep hHeld.1 hbKB, (hHeld.2.1).keptB hbKB, (hHeld.2.2.1).keptB hbKB, trivial⟩
        clear hK K hHeld
        have hHeld := hHeld2
        clear hHeld2
        try simp only [Act.put]
        clear hlKB nKB hbKB
        try simp only [List.setIfInBounds_toArray, List.set_cons_zero, List.set_cons_succ]
        refine wpAnyH_ready (rs := [1]) (by kernel_rfl) (by simp) ?_
        refine AllReadyH.cons (at_list rfl) (fun K hK => ?_) ?_
        · go_simp
          refine (pparts15_any a _).mono ?_
          rintro e v1 ⟨rfl, hv1⟩
          replace KA := Lib.hid ((KA.out).keptB hv1)
          replace KB := Lib.hid ((KB.out).keptB hv1)
          go_wp2_with fail
          refine hK.out _ _ ?_ (fun hHeld2 => ?_)
          · exact ⟨bstep hHeld.1 hv1, (hHeld.2.1).keptB hv1, (hHeld.2.2.1).keptB hv1, trivial⟩
          clear hK K hHeld
          have hHeld := hHeld2
          clear hHeld2 hv1
          try simp only [Act.put, List.setIfInBounds_toArray, List.set_cons_zero, List.set_cons_succ]
          refine wpAnyH_ready (rs := [3]) (by kernel_rfl) (by simp) ?_
          refine AllReadyH.cons (at_list rfl) (fun K hK => ?_) ?_
          · go_simp
            refine (pparts15_any b _).mono ?_
            rintro e v2 ⟨rfl, hv2⟩
            replace KA := Lib.hid ((KA.out).keptB hv2)
            replace KB := Lib.hid ((KB.out).keptB hv2)
            go_wp2_with fail
            refine hK.out _ _ ?_ (fun hHeld2 => ?_)
            · exact ⟨bstep hHeld.1 hv2, (hHeld.2.1).keptB hv2, (hHeld.2.2.1).keptB hv2, trivial⟩
            clear hK K hHeld
            have hHeld := hHeld2
            clear hHeld2 hv2
            try simp only [Act.put, List.setIfInBounds_toArray, List.set_cons_zero, List.set_cons_succ]
            refine wpAnyH_ready (rs := [6]) (by kernel_rfl) (by simp) ?_
            refine AllReadyH.cons (at_list rfl) (fun K hK => ?_) AllReadyH.nil
            refine step_fill (by rfl) 53 _ _ rfl gKA (lbA a) rfl rfl KA.out (by kernel_rfl) (by kernel_rfl) (by kernel_rfl) ?_
            intro vKA0 nKA htKA
            replace KA := Lib.hid nKA
            replace KB := Lib.hid ((KB.out).touch htKA (Ne.symm OKAKB.out))
            refine hK.out _ _ ?_ (fun hHeld2 => ?_)
            · exact ⟨btouch hHeld.1 htKA LKA.out, (hHeld.2.1).touch htKA OK2KA.out, (hHeld.2.2.1).touch htKA OK3KA.out, trivial⟩
            clear hK K hHeld
            have hHeld := hHeld2
            clear hHeld2
            try simp only [Act.put]
            clear nKA htKA
            try simp only [List.setIfInBounds_toArray, List.set_cons_zero, List.set_cons_succ]
            refine wpAnyH_ready (rs := [7]) (by kernel_rfl) (by simp) ?_
            refine AllReadyH.cons (at_list rfl) (fun K hK => ?_) AllReadyH.nil
            refine step_fill (by rfl) 53 _ _ rfl gKB (lbA b) rfl rfl KB.out (by kernel_rfl) (by kernel_rfl) (by kernel_rfl) ?_
            intro vKB0 nKB htKB
            replace KB := Lib.hid nKB
            replace KA := Lib.hid ((KA.out).touch htKB OKAKB.out)
            refine hK.out _ _ ?_ (fun hHeld2 => ?_)
            · exact ⟨btouch hHeld.1 htKB LKB.out, (hHeld.2.1).touch htKB OK2KB.out, (hHeld.2.2.1).touch htKB OK3KB.out, trivial⟩
            clear hK K hHeld
            have hHeld := hHeld2
            clear hHeld2
            try simp only [Act.put]
            clear nKB htKB
            try simp only [List.setIfInBounds_toArray, List.set_cons_zero, List.set_cons_succ]
            refine wpAnyH_done (by kernel_rfl) ?_ _
            have HB := Lib.hid hHeld.1
            have K2 := Lib.hid hHeld.2.1
            have K3 := Lib.hid hHeld.2.2.1
            clear hHeld
            go_wp2_with fail
            go_meet
            exact ⟨_, _, rfl, rfl, LKA.out, LKB.out, OKAKB.out, KA, KB, HB⟩
          exact AllReadyH.nil
        exact AllReadyH.nil
      exact AllReadyH.nil
    refine AllReadyH.cons (at_list rfl) (fun K hK => ?_) ?_
    · refine step_alloc (by rfl) 53 rfl (#[.int .i64 0, .int .i64 0, .int .i64 0, .int .i64 0, .int .i64 0, .int .i64 0]) (by kernel_rfl) ?_
      intro gKB wKB hlKB nKB hbKB
      have KB := Lib.hid nKB
      have LKB := Lib.hid (Nat.le_trans (hHeld.1).size hlKB)
      have OK2KB := Lib.hid ((hHeld.2.1).off hlKB)
      have OK3KB := Lib.hid ((hHeld.2.2.1).off hlKB)
      refine hK.out _ _ ?_ (fun hHeld2 => ?_)
      · exact ⟨bstep hHeld.1 hbKB, (hHeld.2.1).keptB hbKB, (hHeld.2.2.1).keptB hbKB, trivial⟩
      clear hK K hHeld
      have hHeld := hHeld2
      clear hHeld2
      try simp only [Act.put]
      clear hlKB nKB hbKB
      try simp only [List.setIfInBounds_toArray, List.set_cons_zero, List.set_cons_succ]
      refine wpAnyH_ready (rs := [1, 4]) (by kernel_rfl) (by simp) ?_
      refine AllReadyH.cons (at_list rfl) (fun K hK => ?_) ?_
      · go_simp
        refine (pparts15_any a _).mono ?_
        rintro e v1 ⟨rfl, hv1⟩
        replace KB := Lib.hid ((KB.out).keptB hv1)
        go_wp2_with fail
        refine hK.out _ _ ?_ (fun hHeld2 => ?_)
        · exact ⟨bstep hHeld.1 hv1, (hHeld.2.1).keptB hv1, (hHeld.2.2.1).keptB hv1, trivial⟩
        clear hK K hHeld
        have hHeld := hHeld2
        clear hHeld2 hv1
        try simp only [Act.put, List.setIfInBounds_toArray, List.set_cons_zero, List.set_cons_succ]
        refine wpAnyH_ready (rs := [3, 4]) (by kernel_rfl) (by simp) ?_
        refine AllReadyH.cons (at_list rfl) (fun K hK => ?_) ?_
        · go_simp
          refine (pparts15_any b _).mono ?_
          rintro e v2 ⟨rfl, hv2⟩
          replace KB := Lib.hid ((KB.out).keptB hv2)
          go_wp2_with fail
          refine hK.out _ _ ?_ (fun hHeld2 => ?_)
          · exact ⟨bstep hHeld.1 hv2, (hHeld.2.1).keptB hv2, (hHeld.2.2.1).keptB hv2, trivial⟩
          clear hK K hHeld
          have hHeld := hHeld2
          clear hHeld2 hv2
          try simp only [Act.put, List.setIfInBounds_toArray, List.set_cons_zero, List.set_cons_succ]
          refine wpAnyH_ready (rs := [4]) (by kernel_rfl) (by simp) ?_
          refine AllReadyH.cons (at_list rfl) (fun K hK => ?_) ?_
          · refine step_alloc (by rfl) 53 rfl (#[.int .i64 0, .int .i64 0, .int .i64 0, .int .i64 0, .int .i64 0, .int .i64 0]) (by kernel_rfl) ?_
            intro gKA wKA hlKA nKA hbKA
            have KA := Lib.hid nKA
            have LKA := Lib.hid (Nat.le_trans (hHeld.1).size hlKA)
            have OK2KA := Lib.hid ((hHeld.2.1).off hlKA)
            have OK3KA := Lib.hid ((hHeld.2.2.1).off hlKA)
            have OKBKA := Lib.hid ((KB.out).off hlKA)
            replace KB := Lib.hid ((KB.out).keptB hbKA)
            refine hK.out _ _ ?_ (fun hHeld2 => ?_)
            · exact ⟨bstep hHeld.1 hbKA, (hHeld.2.1).keptB hbKA, (hHeld.2.2.1).keptB hbKA, trivial⟩
            clear hK K hHeld
            have hHeld := hHeld2
            clear hHeld2
            try simp only [Act.put]
            clear hlKA nKA hbKA
            try simp only [List.setIfInBounds_toArray, List.set_cons_zero, List.set_cons_succ]
            refine wpAnyH_ready (rs := [6]) (by kernel_rfl) (by simp) ?_
            refine AllReadyH.cons (at_list rfl) (fun K hK => ?_) AllReadyH.nil
            refine step_fill (by rfl) 53 _ _ rfl gKA (lbA a) rfl rfl KA.out (by kernel_rfl) (by kernel_rfl) (by kernel_rfl) ?_
            intro vKA0 nKA htKA
            replace KA := Lib.hid nKA
            replace KB := Lib.hid ((KB.out).touch htKA OKBKA.out)
            refine hK.out _ _ ?_ (fun hHeld2 => ?_)
            · exact ⟨btouch hHeld.1 htKA LKA.out, (hHeld.2.1).touch htKA OK2KA.out, (hHeld.2.2.1).touch htKA OK3KA.out, trivial⟩
            clear hK K hHeld
            have hHeld := hHeld2
            clear hHeld2
            try simp only [Act.put]
            clear nKA htKA
            try simp only [List.setIfInBounds_toArray, List.set_cons_zero, List.set_cons_succ]
            refine wpAnyH_ready (rs := [7]) (by kernel_rfl) (by simp) ?_
            refine AllReadyH.cons (at_list rfl) (fun K hK => ?_) AllReadyH.nil
            refine step_fill (by rfl) 53 _ _ rfl gKB (lbA b) rfl rfl KB.out (by kernel_rfl) (by kernel_rfl) (by kernel_rfl) ?_
            intro vKB0 nKB htKB
            replace KB := Lib.hid nKB
            replace KA := Lib.hid ((KA.out).touch htKB (Ne.symm OKBKA.out))
            refine hK.out _ _ ?_ (fun hHeld2 => ?_)
            · exact ⟨btouch hHeld.1 htKB LKB.out, (hHeld.2.1).touch htKB OK2KB.out, (hHeld.2.2.1).touch htKB OK3KB.out, trivial⟩
            clear hK K hHeld
            have hHeld := hHeld2
            clear hHeld2
            try simp only [Act.put]
            clear nKB htKB
            try simp only [List.setIfInBounds_toArray, List.set_cons_zero, List.set_cons_succ]
            refine wpAnyH_done (by kernel_rfl) ?_ _
            have HB := Lib.hid hHeld.1
            have K2 := Lib.hid hHeld.2.1
            have K3 := Lib.hid hHeld.2.2.1
            clear hHeld
            go_wp2_with fail
            go_meet
            exact ⟨_, _, rfl, rfl, LKA.out, LKB.out, (Ne.symm OKBKA.out), KA, KB, HB⟩
          exact AllReadyH.nil
        refine AllReadyH.cons (at_list rfl) (fun K hK => ?_) ?_
        · refine step_alloc (by rfl) 53 rfl (#[.int .i64 0, .int .i64 0, .int .i64 0, .int .i64 0, .int .i64 0, .int .i64 0]) (by kernel_rfl) ?_
          intro gKA wKA hlKA nKA hbKA
          have KA := Lib.hid nKA
          have LKA := Lib.hid (Nat.le_trans (hHeld.1).size hlKA)
          have OK2KA := Lib.hid ((hHeld.2.1).off hlKA)
          have OK3KA := Lib.hid ((hHeld.2.2.1).off hlKA)
          have OKBKA := Lib.hid ((KB.out).off hlKA)
          replace KB := Lib.hid ((KB.out).keptB hbKA)
          refine hK.out _ _ ?_ (fun hHeld2 => ?_)
          · exact ⟨bstep hHeld.1 hbKA, (hHeld.2.1).keptB hbKA, (hHeld.2.2.1).keptB hbKA, trivial⟩
          clear hK K hHeld
          have hHeld := hHeld2
          clear hHeld2
          try simp only [Act.put]
          clear hlKA nKA hbKA
          try simp only [List.setIfInBounds_toArray, List.set_cons_zero, List.set_cons_succ]
          refine wpAnyH_ready (rs := [3]) (by kernel_rfl) (by simp) ?_
          refine AllReadyH.cons (at_list rfl) (fun K hK => ?_) ?_
          · go_simp
            refine (pparts15_any b _).mono ?_
            rintro e v2 ⟨rfl, hv2⟩
            replace KB := Lib.hid ((KB.out).keptB hv2)
            replace KA := Lib.hid ((KA.out).keptB hv2)
            go_wp2_with fail
            refine hK.out _ _ ?_ (fun hHeld2 => ?_)
            · exact ⟨bstep hHeld.1 hv2, (hHeld.2.1).keptB hv2, (hHeld.2.2.1).keptB hv2, trivial⟩
            clear hK K hHeld
            have hHeld := hHeld2
            clear hHeld2 hv2
            try simp only [Act.put, List.setIfInBounds_toArray, List.set_cons_zero, List.set_cons_succ]
            refine wpAnyH_ready (rs := [6]) (by kernel_rfl) (by simp) ?_
            refine AllReadyH.cons (at_list rfl) (fun K hK => ?_) AllReadyH.nil
            refine step_fill (by rfl) 53 _ _ rfl gKA (lbA a) rfl rfl KA.out (by kernel_rfl) (by kernel_rfl) (by kernel_rfl) ?_
            intro vKA0 nKA htKA
            replace KA := Lib.hid nKA
            replace KB := Lib.hid ((KB.out).touch htKA OKBKA.out)
            refine hK.out _ _ ?_ (fun hHeld2 => ?_)
            · exact ⟨btouch hHeld.1 htKA LKA.out, (hHeld.2.1).touch htKA OK2KA.out, (hHeld.2.2.1).touch htKA OK3KA.out, trivial⟩
            clear hK K hHeld
            have hHeld := hHeld2
            clear hHeld2
            try simp only [Act.put]
            clear nKA htKA
            try simp only [List.setIfInBounds_toArray, List.set_cons_zero, List.set_cons_succ]
            refine wpAnyH_ready (rs := [7]) (by kernel_rfl) (by simp) ?_
            refine AllReadyH.cons (at_list rfl) (fun K hK => ?_) AllReadyH.nil
            refine step_fill (by rfl) 53 _ _ rfl gKB (lbA b) rfl rfl KB.out (by kernel_rfl) (by kernel_rfl) (by kernel_rfl) ?_
            intro vKB0 nKB htKB
            replace KB := Lib.hid nKB
            replace KA := Lib.hid ((KA.out).touch htKB (Ne.symm OKBKA.out))
            refine hK.out _ _ ?_ (fun hHeld2 => ?_)
            · exact ⟨btouch hHeld.1 htKB LKB.out, (hHeld.2.1).touch htKB OK2KB.out, (hHeld.2.2.1).touch htKB OK3KB.out, trivial⟩
            clear hK K hHeld
            have hHeld := hHeld2
            clear hHeld2
            try simp only [Act.put]
            clear nKB htKB
            try simp only [List.setIfInBounds_toArray, List.set_cons_zero, List.set_cons_succ]
            refine wpAnyH_done (by kernel_rfl) ?_ _
            have HB := Lib.hid hHeld.1
            have K2 := Lib.hid hHeld.2.1
            have K3 := Lib.hid hHeld.2.2.1
            clear hHeld
            go_wp2_with fail
            go_meet
            exact ⟨_, _, rfl, rfl, LKA.out, LKB.out, (Ne.symm OKBKA.out), KA, KB, HB⟩
          exact AllReadyH.nil
        exact AllReadyH.nil
      refine AllReadyH.cons (at_list rfl) (fun K hK => ?_) ?_
      · refine step_alloc (by rfl) 53 rfl (#[.int .i64 0, .int .i64 0, .int .i64 0, .int .i64 0, .int .i64 0, .int .i64 0]) (by kernel_rfl) ?_
        intro gKA wKA hlKA nKA hbKA
        have KA := Lib.hid nKA
        have LKA := Lib.hid (Nat.le_trans (hHeld.1).size hlKA)
        have OK2KA := Lib.hid ((hHeld.2.1).off hlKA)
        have OK3KA := Lib.hid ((hHeld.2.2.1).off hlKA)
        have OKBKA := Lib.hid ((KB.out).off hlKA)
        replace KB := Lib.hid ((KB.out).keptB hbKA)
        refine hK.out _ _ ?_ (fun hHeld2 => ?_)
        · exact ⟨bstep hHeld.1 hbKA, (hHeld.2.1).keptB hbKA, (hHeld.2.2.1).keptB hbKA, trivial⟩
        clear hK K hHeld
        have hHeld := hHeld2
        clear hHeld2
        try simp only [Act.put]
        clear hlKA nKA hbKA
        try simp only [List.setIfInBounds_toArray, List.set_cons_zero, List.set_cons_succ]
        refine wpAnyH_ready (rs := [1]) (by kernel_rfl) (by simp) ?_
        refine AllReadyH.cons (at_list rfl) (fun K hK => ?_) ?_
        · go_simp
          refine (pparts15_any a _).mono ?_
          rintro e v1 ⟨rfl, hv1⟩
          replace KB := Lib.hid ((KB.out).keptB hv1)
          replace KA := Lib.hid ((KA.out).keptB hv1)
          go_wp2_with fail
          refine hK.out _ _ ?_ (fun hHeld2 => ?_)
          · exact ⟨bstep hHeld.1 hv1, (hHeld.2.1).keptB hv1, (hHeld.2.2.1).keptB hv1, trivial⟩
          clear hK K hHeld
          have hHeld := hHeld2
          clear hHeld2 hv1
          try simp only [Act.put, List.setIfInBounds_toArray, List.set_cons_zero, List.set_cons_succ]
          refine wpAnyH_ready (rs := [3]) (by kernel_rfl) (by simp) ?_
          refine AllReadyH.cons (at_list rfl) (fun K hK => ?_) ?_
          · go_simp
            refine (pparts15_any b _).mono ?_
            rintro e v2 ⟨rfl, hv2⟩
            replace KB := Lib.hid ((KB.out).keptB hv2)
            replace KA := Lib.hid ((KA.out).keptB hv2)
            go_wp2_with fail
            refine hK.out _ _ ?_ (fun hHeld2 => ?_)
            · exact ⟨bstep hHeld.1 hv2, (hHeld.2.1).keptB hv2, (hHeld.2.2.1).keptB hv2, trivial⟩
            clear hK K hHeld
            have hHeld := hHeld2
            clear hHeld2 hv2
            try simp only [Act.put, List.setIfInBounds_toArray, List.set_cons_zero, List.set_cons_succ]
            refine wpAnyH_ready (rs := [6]) (by kernel_rfl) (by simp) ?_
            refine AllReadyH.cons (at_list rfl) (fun K hK => ?_) AllReadyH.nil
            refine step_fill (by rfl) 53 _ _ rfl gKA (lbA a) rfl rfl KA.out (by kernel_rfl) (by kernel_rfl) (by kernel_rfl) ?_
            intro vKA0 nKA htKA
            replace KA := Lib.hid nKA
            replace KB := Lib.hid ((KB.out).touch htKA OKBKA.out)
            refine hK.out _ _ ?_ (fun hHeld2 => ?_)
            · exact ⟨btouch hHeld.1 htKA LKA.out, (hHeld.2.1).touch htKA OK2KA.out, (hHeld.2.2.1).touch htKA OK3KA.out, trivial⟩
            clear hK K hHeld
            have hHeld := hHeld2
            clear hHeld2
            try simp only [Act.put]
            clear nKA htKA
            try simp only [List.setIfInBounds_toArray, List.set_cons_zero, List.set_cons_succ]
            refine wpAnyH_ready (rs := [7]) (by kernel_rfl) (by simp) ?_
            refine AllReadyH.cons (at_list rfl) (fun K hK => ?_) AllReadyH.nil
            refine step_fill (by rfl) 53 _ _ rfl gKB (lbA b) rfl rfl KB.out (by kernel_rfl) (by kernel_rfl) (by kernel_rfl) ?_
            intro vKB0 nKB htKB
            replace KB := Lib.hid nKB
            replace KA := Lib.hid ((KA.out).touch htKB (Ne.symm OKBKA.out))
            refine hK.out _ _ ?_ (fun hHeld2 => ?_)
            · exact ⟨btouch hHeld.1 htKB LKB.out, (hHeld.2.1).touch htKB OK2KB.out, (hHeld.2.2.1).touch htKB OK3KB.out, trivial⟩
            clear hK K hHeld
            have hHeld := hHeld2
            clear hHeld2
            try simp only [Act.put]
            clear nKB htKB
            try simp only [List.setIfInBounds_toArray, List.set_cons_zero, List.set_cons_succ]
            refine wpAnyH_done (by kernel_rfl) ?_ _
            have HB := Lib.hid hHeld.1
            have K2 := Lib.hid hHeld.2.1
            have K3 := Lib.hid hHeld.2.2.1
            clear hHeld
            go_wp2_with fail
            go_meet
            exact ⟨_, _, rfl, rfl, LKA.out, LKB.out, (Ne.symm OKBKA.out), KA, KB, HB⟩
          exact AllReadyH.nil
        exact AllReadyH.nil
      exact AllReadyH.nil
    exact AllReadyH.nil
  case rest =>
    clear K2 K3 HB
    obtain ⟨gKA, gKB, rfl, rfl, lKA, lKB, oKAKB, KA, KB, HB⟩ := hcut
    have LKA := Lib.hid lKA
    have LKB := Lib.hid lKB
    have OKAKB := Lib.hid oKAKB
    clear lKA lKB oKAKB 
    go_wp2
    go_loopw [12] (fun i v => ∃ k : Nat, k ≤ 6 ∧ i = .int .i64 k ∧ Hid (∀ j, j < k → ptN a j = ptN b j) ∧ Hid (Holds v gKA 53 (lbA a)) ∧ Hid (Holds v gKB 53 (lbA b)) ∧ Hid (Below w.heap.size w v)) (fun i _ => 6 - (intOf i).toNat)
    case atStart => exact ⟨0, by omega, rfl, Lib.hid (fun j hj => by omega), KA, KB, HB⟩
    case round =>
      clear KA KB HB
      obtain ⟨k, hk, rfl, HE, KA, KB, HB⟩ := hrel
      by_cases hlt : k < 6
      · have dk : decide ((k : Int) < 6) = true := decide_eq_true (by omega)
        have x0 := lb_cell KA.out hlt
        have y0 := lb_cell KB.out hlt
        obtain ⟨p, HP⟩ : ∃ p, Hid (ptN a k = p) := ⟨_, Lib.hid rfl⟩
        obtain ⟨q, HQ⟩ : ∃ q, Hid (ptN b k = q) := ⟨_, Lib.hid rfl⟩
        rw [HP.out] at x0
        rw [HQ.out] at y0
        have p1 : (0 : Int) ≤ (k : Int) := by omega
        by_cases hpq : p = q
        · subst hpq
          go_wp2
          go_quiet (fail)
          go_wp2
          go_roundw
          case rel => exact ⟨k + 1, by omega, by go_num, Lib.hid (fun j hj => by
              by_cases hjk : j = k
              · subst hjk; rw [HP.out, HQ.out]
              · exact HE.out j (by omega)), Lib.hid (KA.out), Lib.hid (KB.out), Lib.hid (bdrawn HB.out _)⟩
          case measure => simp [intOf]; omega
        · have HX : Hid (lessL a b = decide (p < q)) := by
            rw [Hid, less_at hlt HE.out (by rw [HP.out, HQ.out]; exact hpq), HP.out, HQ.out]
          have dne : (p != q) = true := by simp [hpq]
          clear hpq
          go_wp2
          go_quiet (fail)
          go_wp2
          go_quiet (fail)
          go_wp2
          go_ret
          exact ⟨by rw [HX.out]; rfl, bdrawn (bdrawn HB.out _) _⟩
      · obtain rfl : k = 6 := by omega
        have HX : Hid (lessL a b = false) := Lib.hid (less_end HE.out)
        clear hlt
        go_wp2
        try rw [Exit.noGoto_ret]
        go_ret
        exact ⟨by rw [HX.out]; rfl, HB.out⟩
set_option maxHeartbeats 4000000 in
theorem rless15_any (a b : Lb) (w : World) :
    Calls Tryd.prog 27 #[.agg (lbA a), .agg (lbA b)] w fun e w' => e = .returned (.bool (lessL a b)) ∧ Below w.heap.size w w' := by
  have HB := Lib.hid (Below.refl w.heap.size w)
  go_enter Tryd.func27, Tryd.ntmps27
  go_upto_region 1 with (first | (refine big_box rfl 27 _ rfl (lbA b) rfl (by kernel_rfl) ?_; intro gK3 wK3 hlK3 nK3 hbK3; have K3 := Lib.hid nK3; have LK3 := Lib.hid (Nat.le_trans (HB.out).size hlK3); have OK2K3 := Lib.hid ((K2.out).off hlK3); replace K2 := Lib.hid ((K2.out).keptB hbK3); replace HB := Lib.hid (bstep HB.out hbK3); clear hlK3 nK3 hbK3; try simp only [Act.put, List.setIfInBounds_toArray, List.set_cons_zero, List.set_cons_succ]) | (refine big_box rfl 27 _ rfl (lbA a) rfl (by kernel_rfl) ?_; intro gK2 wK2 hlK2 nK2 hbK2; have K2 := Lib.hid nK2; have LK2 := Lib.hid (Nat.le_trans (HB.out).size hlK2); replace HB := Lib.hid (bstep HB.out hbK2); clear hlK2 nK2 hbK2; try simp only [Act.put, List.setIfInBounds_toArray, List.set_cons_zero, List.set_cons_succ]))
  have x0 := (K2.out).reads (i := 0) (x := .int .i64 a.y) rfl
  have x1 := (K2.out).reads (i := 1) (x := .int .i64 a.m) rfl
  have x2 := (K2.out).reads (i := 2) (x := .int .i64 a.d) rfl
  have x3 := (K2.out).reads (i := 3) (x := .int .i64 a.hh) rfl
  have x4 := (K2.out).reads (i := 4) (x := .int .i64 a.mi) rfl
  have x5 := (K2.out).reads (i := 5) (x := .int .i64 a.se) rfl
  go_upto_region 2 with ((refine big_slice rfl 55 3 6 _ rfl (lbA a) Tryd.underlying55 rfl rfl rfl (of_decide_eq_true (by kernel_rfl)) (of_decide_eq_true (by kernel_rfl)) (by kernel_rfl) ?_; intro gKA wKA hlKA nKA hbKA; have KA := Lib.hid nKA; have LKA := Lib.hid (Nat.le_trans (HB.out).size hlKA); have OK2KA := Lib.hid ((K2.out).off hlKA); have OK3KA := Lib.hid ((K3.out).off hlKA); replace K2 := Lib.hid ((K2.out).keptB hbKA); replace K3 := Lib.hid ((K3.out).keptB hbKA); replace HB := Lib.hid (bstep HB.out hbKA); clear hlKA nKA hbKA; try simp only [Act.put, List.setIfInBounds_toArray, List.set_cons_zero, List.set_cons_succ]))
  clear x0 x1 x2 x3 x4 x5
  have x0 := (K3.out).reads (i := 0) (x := .int .i64 b.y) rfl
  have x1 := (K3.out).reads (i := 1) (x := .int .i64 b.m) rfl
  have x2 := (K3.out).reads (i := 2) (x := .int .i64 b.d) rfl
  have x3 := (K3.out).reads (i := 3) (x := .int .i64 b.hh) rfl
  have x4 := (K3.out).reads (i := 4) (x := .int .i64 b.mi) rfl
  have x5 := (K3.out).reads (i := 5) (x := .int .i64 b.se) rfl
  go_upto_region 3 with ((refine big_slice rfl 55 3 6 _ rfl (lbA b) Tryd.underlying55 rfl rfl rfl (of_decide_eq_true (by kernel_rfl)) (of_decide_eq_true (by kernel_rfl)) (by kernel_rfl) ?_; intro gKB wKB hlKB nKB hbKB; have KB := Lib.hid nKB; have LKB := Lib.hid (Nat.le_trans (HB.out).size hlKB); have OK2KB := Lib.hid ((K2.out).off hlKB); have OK3KB := Lib.hid ((K3.out).off hlKB); have OKAKB := Lib.hid ((KA.out).off hlKB); replace K2 := Lib.hid ((K2.out).keptB hbKB); replace K3 := Lib.hid ((K3.out).keptB hbKB); replace KA := Lib.hid ((KA.out).keptB hbKB); replace HB := Lib.hid (bstep HB.out hbKB); clear hlKB nKB hbKB; try simp only [Act.put, List.setIfInBounds_toArray, List.set_cons_zero, List.set_cons_succ]))
  clear x0 x1 x2 x3 x4 x5
  go_wp2
  clear K2 K3
  go_loopw [7] (fun i v => ∃ k : Nat, k ≤ 6 ∧ i = .int .i64 k ∧ Hid (∀ j, j < k → ptN a j = ptN b j) ∧ Hid (Holds v gKA 3 (lbA a)) ∧ Hid (Holds v gKB 3 (lbA b)) ∧ Hid (Below w.heap.size w v)) (fun i _ => 6 - (intOf i).toNat)
  case atStart => exact ⟨0, by omega, rfl, Lib.hid (fun j hj => by omega), KA, KB, HB⟩
  case round =>
    clear KA KB HB
    obtain ⟨k, hk, rfl, HE, KA, KB, HB⟩ := hrel
    by_cases hlt : k < 6
    · have dk : decide ((k : Int) < 6) = true := decide_eq_true (by omega)
      have x0 := lb_cell KA.out hlt
      have y0 := lb_cell KB.out hlt
      obtain ⟨p, HP⟩ : ∃ p, Hid (ptN a k = p) := ⟨_, Lib.hid rfl⟩
      obtain ⟨q, HQ⟩ : ∃ q, Hid (ptN b k = q) := ⟨_, Lib.hid rfl⟩
      rw [HP.out] at x0
      rw [HQ.out] at y0
      have p1 : (0 : Int) ≤ (k : Int) := by omega
      by_cases hpq : p = q
      · subst hpq
        have dlt : decide (p < p) = false := decide_eq_false (by omega)
        go_wp2
        go_quiet (fail)
        go_wp2
        go_quiet (fail)
        go_wp2
        go_roundw
        case rel => exact ⟨k + 1, by omega, by go_num, Lib.hid (fun j hj => by
            by_cases hjk : j = k
            · subst hjk; rw [HP.out, HQ.out]
            · exact HE.out j (by omega)), Lib.hid (KA.out), Lib.hid (KB.out), Lib.hid (bdrawn HB.out _)⟩
        case measure => simp [intOf]; omega
      · have HX : Hid (lessL a b = decide (p < q)) := by
          rw [Hid, less_at hlt HE.out (by rw [HP.out, HQ.out]; exact hpq), HP.out, HQ.out]
        by_cases hl : p < q
        · have d0 : decide (p < q) = true := decide_eq_true hl
          rw [d0] at HX
          clear hpq
          go_wp2
          go_quiet (fail)
          go_wp2
          go_ret
          exact ⟨by rw [HX.out]; rfl, bdrawn HB.out _⟩
        · have d0 : decide (p < q) = false := decide_eq_false hl
          rw [d0] at HX
          have d1 : decide (q < p) = true := decide_eq_true (by omega)
          clear hpq
          go_wp2
          go_quiet (fail)
          go_wp2
          go_quiet (fail)
          go_wp2
          go_ret
          exact ⟨by rw [HX.out]; rfl, bdrawn (bdrawn HB.out _) _⟩
    · obtain rfl : k = 6 := by omega
      have HX : Hid (lessL a b = false) := Lib.hid (less_end HE.out)
      clear hlt
      go_wp2
      try rw [Exit.noGoto_ret]
      go_ret
      exact ⟨by rw [HX.out]; rfl, HB.out⟩

end Go.Proofs.YtfdadebddfhpdaaDoor
