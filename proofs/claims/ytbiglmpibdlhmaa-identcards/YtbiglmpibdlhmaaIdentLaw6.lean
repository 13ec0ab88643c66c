/- The walk over the law IdentCards. -/
import Derived.Test.YtbiglmpibdlhmaaIdentAlive
import Derived.Test.YtbiglmpibdlhmaaByHand
import Derived.Test.YtbiglmpibdlhmaaKeep2
import Derived.Deep.DeepCutAuto
namespace Go.Proofs.Ytbiglmpibdlhmaa
open Go.RowKit
set_option linter.unusedVariables false

theorem Holds.fill8 {w : World} {g : Nat} {t : TypeId} {x0 x1 x2 x3 x4 x5 x6 x7 : Value} (h : Holds w g t #[x0, x1, x2, x3, x4, x5, x6, x7]) (v0 v1 v2 v3 v4 v5 v6 v7 : Value) :
    Holds ((((((((w.setCell ⟨g, 0, none⟩ v0).setCell ⟨g, 1, none⟩ v1).setCell ⟨g, 2, none⟩ v2).setCell ⟨g, 3, none⟩ v3).setCell ⟨g, 4, none⟩ v4).setCell ⟨g, 5, none⟩ v5).setCell ⟨g, 6, none⟩ v6).setCell ⟨g, 7, none⟩ v7) g t #[v0, v1, v2, v3, v4, v5, v6, v7] := by
  simpa using ((((((((h.put 0 v0).put 1 v1).put 2 v2).put 3 v3).put 4 v4).put 5 v5).put 6 v6).put 7 v7)
theorem Holds.fillAside8 {w : World} {g k : Nat} {t : TypeId} {cs : Array Value} (h : Holds w k t cs) (hg : g ≠ k) (v0 v1 v2 v3 v4 v5 v6 v7 : Value) :
    Holds ((((((((w.setCell ⟨g, 0, none⟩ v0).setCell ⟨g, 1, none⟩ v1).setCell ⟨g, 2, none⟩ v2).setCell ⟨g, 3, none⟩ v3).setCell ⟨g, 4, none⟩ v4).setCell ⟨g, 5, none⟩ v5).setCell ⟨g, 6, none⟩ v6).setCell ⟨g, 7, none⟩ v7) k t cs := ((((((((h.aside hg v0).aside hg v1).aside hg v2).aside hg v3).aside hg v4).aside hg v5).aside hg v6).aside hg v7)
theorem bfill8 {B g : Nat} {a w : World} (h : Below B a w) (hg : B ≤ g) (v0 v1 v2 v3 v4 v5 v6 v7 : Value) : Below B a ((((((((w.setCell ⟨g, 0, none⟩ v0).setCell ⟨g, 1, none⟩ v1).setCell ⟨g, 2, none⟩ v2).setCell ⟨g, 3, none⟩ v3).setCell ⟨g, 4, none⟩ v4).setCell ⟨g, 5, none⟩ v5).setCell ⟨g, 6, none⟩ v6).setCell ⟨g, 7, none⟩ v7) := ((((((((h.setCell hg v0).setCell hg v1).setCell hg v2).setCell hg v3).setCell hg v4).setCell hg v5).setCell hg v6).setCell hg v7)
theorem eql_mac (a0 a1 a2 a3 a4 a5 b0 b1 b2 b3 b4 b5 : Int) (w : World) : (binOp .eql 41 (.agg #[.int .u8 a0, .int .u8 a1, .int .u8 a2, .int .u8 a3, .int .u8 a4, .int .u8 a5]) (.agg #[.int .u8 b0, .int .u8 b1, .int .u8 b2, .int .u8 b3, .int .u8 b4, .int .u8 b5])).run Try.prog w = .ok (.bool ([a0, a1, a2, a3, a4, a5] == [b0, b1, b2, b3, b4, b5])) w := by
  rw [run_eql_struct]
  have := run_equal_ints (P := Try.prog) w 9998 41 5 6 .u8 (by kernel_rfl) (by kernel_rfl) size_byte [a0, a1, a2, a3, a4, a5] [b0, b1, b2, b3, b4, b5] rfl rfl
  simp only [List.map_cons, List.map_nil] at this
  rw [this]
  rfl
theorem eq_ofC (a0 a1 a2 a3 a4 a5 b0 b1 b2 b3 b4 b5 : Int) : eqC (ofC a0 a1 a2 a3 a4 a5) (ofC b0 b1 b2 b3 b4 b5) = ([a0, a1, a2, a3, a4, a5] == [b0, b1, b2, b3, b4, b5]) := by
  rw [Bool.eq_iff_iff, eqC_iff, beq_iff_eq]
  constructor
  · intro h
    simp [ofC] at h
    simp [h]
  · intro h
    simp at h
    simp [ofC, h]
theorem ofC_zero (a0 a1 a2 a3 a4 a5 : Int) : eqC (ofC a0 a1 a2 a3 a4 a5) ⟨0, 0, 0, 0, 0, 0, 0, 0⟩ = false := by
  cases h : eqC (ofC a0 a1 a2 a3 a4 a5) ⟨0, 0, 0, 0, 0, 0, 0, 0⟩
  · rfl
  · rw [eqC_iff] at h
    simp [ofC] at h

set_option maxRecDepth 100000 in
set_option maxHeartbeats 4000000 in
theorem cards4_walk (a0 a1 a2 a3 a4 a5 b0 b1 b2 b3 b4 b5 : Int) (w : World) :
    Calls Try.prog 8 #[.agg #[.int .u8 a0, .int .u8 a1, .int .u8 a2, .int .u8 a3, .int .u8 a4, .int .u8 a5], .agg #[.int .u8 b0, .int .u8 b1, .int .u8 b2, .int .u8 b3, .int .u8 b4, .int .u8 b5]] w fun e w' => e = .returned (.bool true) ∧ Below w.heap.size w w' := by
  obtain ⟨E, HE⟩ : ∃ E, Hid (([a0, a1, a2, a3, a4, a5] == [b0, b1, b2, b3, b4, b5]) = E) := ⟨_, Lib.hid rfl⟩
  have HQ1 : Hid (∀ w, (binOp .eql 23 (.agg #[.int .u8 a0, .int .u8 a1, .int .u8 a2, .int .u8 255, .int .u8 254, .int .u8 a3, .int .u8 a4, .int .u8 a5]) (.agg #[.int .u8 b0, .int .u8 b1, .int .u8 b2, .int .u8 255, .int .u8 254, .int .u8 b3, .int .u8 b4, .int .u8 b5])).run Try.prog w = .ok (.bool E) w) := by
    intro w
    have h := eql_clock (ofC a0 a1 a2 a3 a4 a5) (ofC b0 b1 b2 b3 b4 b5) w
    rw [eq_ofC, HE.out] at h
    exact h
  have HQ2 : Hid (∀ w, (binOp .eql 41 (.agg #[.int .u8 a0, .int .u8 a1, .int .u8 a2, .int .u8 a3, .int .u8 a4, .int .u8 a5]) (.agg #[.int .u8 b0, .int .u8 b1, .int .u8 b2, .int .u8 b3, .int .u8 b4, .int .u8 b5])).run Try.prog w = .ok (.bool E) w) := by
    intro w
    have h := eql_mac a0 a1 a2 a3 a4 a5 b0 b1 b2 b3 b4 b5 w
    rw [HE.out] at h
    exact h
  have CZ : Hid (∀ v, Calls Try.prog 15 #[.agg #[.int .u8 a0, .int .u8 a1, .int .u8 a2, .int .u8 255, .int .u8 254, .int .u8 a3, .int .u8 a4, .int .u8 a5]] v fun e w' => e = .returned (.bool false) ∧ Below v.heap.size v w') :=
    fun v => (zero_any (ofC a0 a1 a2 a3 a4 a5) v).mono fun _ _ ⟨he, hb⟩ => ⟨he.trans (ret_bool (ofC_zero a0 a1 a2 a3 a4 a5)), hb⟩
  have C1 := Lib.hid (ofc_any a0 a1 a2 a3 a4 a5)
  have C2 := Lib.hid (ofc_any b0 b1 b2 b3 b4 b5)
  have K2 := Lib.hid (Holds.fresh w 41 #[.int .u8 a0, .int .u8 a1, .int .u8 a2, .int .u8 a3, .int .u8 a4, .int .u8 a5] (g := w.heap.size) (by simp))
  replace K2 := Lib.hid ((K2.out).laid (.cells #[.int .u8 b0, .int .u8 b1, .int .u8 b2, .int .u8 b3, .int .u8 b4, .int .u8 b5] 41))
  have K3 := Lib.hid (Holds.fresh (w.alloc (.cells #[.int .u8 a0, .int .u8 a1, .int .u8 a2, .int .u8 a3, .int .u8 a4, .int .u8 a5] 41)) 41 #[.int .u8 b0, .int .u8 b1, .int .u8 b2, .int .u8 b3, .int .u8 b4, .int .u8 b5] (g := w.heap.size + 1) (by simp))
  have HB := Lib.hid (bstep (bnew w (.cells #[.int .u8 a0, .int .u8 a1, .int .u8 a2, .int .u8 a3, .int .u8 a4, .int .u8 a5] 41)) (bnew _ (.cells #[.int .u8 b0, .int .u8 b1, .int .u8 b2, .int .u8 b3, .int .u8 b4, .int .u8 b5] 41)))
  go_enter Try.func8, Try.ntmps8
  go_upto_region 1 with fail
  generalize ((w.alloc (.cells #[.int .u8 a0, .int .u8 a1, .int .u8 a2, .int .u8 a3, .int .u8 a4, .int .u8 a5] 41)).alloc (.cells #[.int .u8 b0, .int .u8 b1, .int .u8 b2, .int .u8 b3, .int .u8 b4, .int .u8 b5] 41)) = W0 at *
  have x1_0 := (K2.out).reads (i := 0) rfl
  have x1_1 := (K2.out).reads (i := 1) rfl
  have x1_2 := (K2.out).reads (i := 2) rfl
  have x1_3 := (K2.out).reads (i := 3) rfl
  have x1_4 := (K2.out).reads (i := 4) rfl
  have x1_5 := (K2.out).reads (i := 5) rfl
  have x2_0 := (K3.out).reads (i := 0) rfl
  have x2_1 := (K3.out).reads (i := 1) rfl
  have x2_2 := (K3.out).reads (i := 2) rfl
  have x2_3 := (K3.out).reads (i := 3) rfl
  have x2_4 := (K3.out).reads (i := 4) rfl
  have x2_5 := (K3.out).reads (i := 5) rfl
  have HS0 := Lib.hid (show W0.cell? ⟨w.heap.size, 0, none⟩ = some (.int .u8 a0) ∧ W0.cell? ⟨w.heap.size, 1, none⟩ = some (.int .u8 a1) ∧ W0.cell? ⟨w.heap.size, 2, none⟩ = some (.int .u8 a2) ∧ W0.cell? ⟨w.heap.size, 3, none⟩ = some (.int .u8 a3) ∧ W0.cell? ⟨w.heap.size, 4, none⟩ = some (.int .u8 a4) ∧ W0.cell? ⟨w.heap.size, 5, none⟩ = some (.int .u8 a5) ∧ W0.cell? ⟨w.heap.size + 1, 0, none⟩ = some (.int .u8 b0) ∧ W0.cell? ⟨w.heap.size + 1, 1, none⟩ = some (.int .u8 b1) ∧ W0.cell? ⟨w.heap.size + 1, 2, none⟩ = some (.int .u8 b2) ∧ W0.cell? ⟨w.heap.size + 1, 3, none⟩ = some (.int .u8 b3) ∧ W0.cell? ⟨w.heap.size + 1, 4, none⟩ = some (.int .u8 b4) ∧ W0.cell? ⟨w.heap.size + 1, 5, none⟩ = some (.int .u8 b5) from ⟨x1_0, x1_1, x1_2, x1_3, x1_4, x1_5, x2_0, x2_1, x2_2, x2_3, x2_4, x2_5⟩)
  go_cut [5, 6] (fun p q wx => ∃ g h, p = .pointer (some ⟨g, 0, none⟩) ∧ q = .pointer (some ⟨h, 0, none⟩) ∧ Hid (Holds wx g 23 #[.int .u8 a0, .int .u8 a1, .int .u8 a2, .int .u8 255, .int .u8 254, .int .u8 a3, .int .u8 a4, .int .u8 a5]) ∧ Hid (Holds wx h 23 #[.int .u8 b0, .int .u8 b1, .int .u8 b2, .int .u8 255, .int .u8 254, .int .u8 b3, .int .u8 b4, .int .u8 b5]) ∧ Hid (Below W0.heap.size W0 wx))
  case first =>
    refine wp_region_noPanic ?_
    refine wp_region_held_drew (S := fun v => v.cell? ⟨w.heap.size, 0, none⟩ = some (.int .u8 a0) ∧ v.cell? ⟨w.heap.size, 1, none⟩ = some (.int .u8 a1) ∧ v.cell? ⟨w.heap.size, 2, none⟩ = some (.int .u8 a2) ∧ v.cell? ⟨w.heap.size, 3, none⟩ = some (.int .u8 a3) ∧ v.cell? ⟨w.heap.size, 4, none⟩ = some (.int .u8 a4) ∧ v.cell? ⟨w.heap.size, 5, none⟩ = some (.int .u8 a5) ∧ v.cell? ⟨w.heap.size + 1, 0, none⟩ = some (.int .u8 b0) ∧ v.cell? ⟨w.heap.size + 1, 1, none⟩ = some (.int .u8 b1) ∧ v.cell? ⟨w.heap.size + 1, 2, none⟩ = some (.int .u8 b2) ∧ v.cell? ⟨w.heap.size + 1, 3, none⟩ = some (.int .u8 b3) ∧ v.cell? ⟨w.heap.size + 1, 4, none⟩ = some (.int .u8 b4) ∧ v.cell? ⟨w.heap.size + 1, 5, none⟩ = some (.int .u8 b5)) (by kernel_rfl) ?_ (fun hHeld => ?_)
    · exact HS0.out
    refine wpAnyH_take (i := 0) (v := .agg #[.int .u8 a0, .int .u8 a1, .int .u8 a2, .int .u8 a3, .int .u8 a4, .int .u8 a5]) (at_list rfl) (by kernel_rfl) (by kernel_rfl) (by kernel_rfl) (fun _ _ _ h => h) (Or.inl ⟨by rfl, ?_⟩) (by assumption) ?_
    · intro v hSv
      obtain ⟨q0, q1, q2, q3, q4, q5, q6, q7, q8, q9, q10, q11⟩ := hSv
      go_simp
    try simp only [Act.put, List.setIfInBounds_toArray, List.set_cons_zero, List.set_cons_succ]
    refine wpAnyH_take (i := 2) (v := .agg #[.int .u8 b0, .int .u8 b1, .int .u8 b2, .int .u8 b3, .int .u8 b4, .int .u8 b5]) (at_list rfl) (by kernel_rfl) (by kernel_rfl) (by kernel_rfl) (fun _ _ _ h => h) (Or.inl ⟨by rfl, ?_⟩) (by assumption) ?_
    · intro v hSv
      obtain ⟨q0, q1, q2, q3, q4, q5, q6, q7, q8, q9, q10, q11⟩ := hSv
      go_simp
    try simp only [Act.put, List.setIfInBounds_toArray, List.set_cons_zero, List.set_cons_succ]
    refine wpAnyH_ready (rs := [1, 4, 5]) (by kernel_rfl) (by simp) ?_
    refine AllReadyH.cons (at_list rfl) (fun K hK => ?_) ?_
    · go_simp
      refine (C1.out _).mono ?_
      rintro e w1 ⟨rfl, hb1⟩
      have Q1 := Lib.hid (bstep (bdrew (Below.refl _ _)) hb1)
      go_wp2_with fail
      refine hK.out _ _ ?_ (fun hHeld => ?_)
      · exact keep12 Q1.out HS0.out
      clear hK K
      try simp only [Act.put, List.setIfInBounds_toArray, List.set_cons_zero, List.set_cons_succ]
      refine wpAnyH_ready (rs := [3, 4, 5]) (by kernel_rfl) (by simp) ?_
      refine AllReadyH.cons (at_list rfl) (fun K hK => ?_) ?_
      · go_simp
        refine (C2.out _).mono ?_
        rintro e w2 ⟨rfl, hb2⟩
        have Q2 := Lib.hid (bstep (Q1.out) hb2)
        go_wp2_with fail
        refine hK.out _ _ ?_ (fun hHeld => ?_)
        · exact keep12 Q2.out HS0.out
        clear hK K
        try simp only [Act.put, List.setIfInBounds_toArray, List.set_cons_zero, List.set_cons_succ]
        refine wpAnyH_ready (rs := [4, 5]) (by kernel_rfl) (by simp) ?_
        refine AllReadyH.cons (at_list rfl) (fun K hK => ?_) ?_
        · go_simp
          refine hK.out _ _ ?_ (fun hHeld => ?_)
          · exact keep12 (bstep (Q2.out) (bnew _ (.cells #[.int .u8 0, .int .u8 0, .int .u8 0, .int .u8 0, .int .u8 0, .int .u8 0, .int .u8 0, .int .u8 0] 23))) HS0.out
          clear hK K
          try simp only [Act.put, List.setIfInBounds_toArray, List.set_cons_zero, List.set_cons_succ]
          refine wpAnyH_ready (rs := [5]) (by kernel_rfl) (by simp) ?_
          refine AllReadyH.cons (at_list rfl) (fun K hK => ?_) ?_
          · go_simp
            refine hK.out _ _ ?_ (fun hHeld => ?_)
            · exact keep12 (bstep (bstep (Q2.out) (bnew _ (.cells #[.int .u8 0, .int .u8 0, .int .u8 0, .int .u8 0, .int .u8 0, .int .u8 0, .int .u8 0, .int .u8 0] 23))) (bnew _ (.cells #[.int .u8 0, .int .u8 0, .int .u8 0, .int .u8 0, .int .u8 0, .int .u8 0, .int .u8 0, .int .u8 0] 23))) HS0.out
            clear hK K
            try simp only [Act.put, List.setIfInBounds_toArray, List.set_cons_zero, List.set_cons_succ]
            have MA := Lib.hid ((Holds.fresh w2 23 #[.int .u8 0, .int .u8 0, .int .u8 0, .int .u8 0, .int .u8 0, .int .u8 0, .int .u8 0, .int .u8 0] (g := w2.heap.size) (by simp)).laid (.cells #[.int .u8 0, .int .u8 0, .int .u8 0, .int .u8 0, .int .u8 0, .int .u8 0, .int .u8 0, .int .u8 0] 23))
            have MB := Lib.hid (Holds.fresh (w2.alloc (.cells #[.int .u8 0, .int .u8 0, .int .u8 0, .int .u8 0, .int .u8 0, .int .u8 0, .int .u8 0, .int .u8 0] 23)) 23 #[.int .u8 0, .int .u8 0, .int .u8 0, .int .u8 0, .int .u8 0, .int .u8 0, .int .u8 0, .int .u8 0] (g := w2.heap.size + 1) (by simp))
            have QQ := Lib.hid (bstep (bstep (Q2.out) (bnew _ (.cells #[.int .u8 0, .int .u8 0, .int .u8 0, .int .u8 0, .int .u8 0, .int .u8 0, .int .u8 0, .int .u8 0] 23))) (bnew _ (.cells #[.int .u8 0, .int .u8 0, .int .u8 0, .int .u8 0, .int .u8 0, .int .u8 0, .int .u8 0, .int .u8 0] 23)))
            have sz1 := (Q1.out).size
            have sz2 := (Q2.out).size
            have sz3 := hb2.size
            try simp at sz3
            have leA : W0.heap.size ≤ w2.heap.size := by omega
            have leB : W0.heap.size ≤ w2.heap.size + 1 := by omega
            have neA : ¬ (w2.heap.size = w2.heap.size + 1) := by first | omega | (have := hb1.size; simp at this; omega)
            have neB : ¬ (w2.heap.size + 1 = w2.heap.size) := fun h => neA h.symm
            clear sz1 sz2 sz3
            generalize ((w2.alloc (.cells #[.int .u8 0, .int .u8 0, .int .u8 0, .int .u8 0, .int .u8 0, .int .u8 0, .int .u8 0, .int .u8 0] 23)).alloc (.cells #[.int .u8 0, .int .u8 0, .int .u8 0, .int .u8 0, .int .u8 0, .int .u8 0, .int .u8 0, .int .u8 0] 23)) = V at *
            have la0 := (MA.out).reads (i := 0) rfl
            have laf0 := (MA.out).open_ 0
            have la1 := (MA.out).reads (i := 1) rfl
            have laf1 := (MA.out).open_ 1
            have la2 := (MA.out).reads (i := 2) rfl
            have laf2 := (MA.out).open_ 2
            have la3 := (MA.out).reads (i := 3) rfl
            have laf3 := (MA.out).open_ 3
            have la4 := (MA.out).reads (i := 4) rfl
            have laf4 := (MA.out).open_ 4
            have la5 := (MA.out).reads (i := 5) rfl
            have laf5 := (MA.out).open_ 5
            have la6 := (MA.out).reads (i := 6) rfl
            have laf6 := (MA.out).open_ 6
            have la7 := (MA.out).reads (i := 7) rfl
            have laf7 := (MA.out).open_ 7
            have lb0 := (MB.out).reads (i := 0) rfl
            have lbf0 := (MB.out).open_ 0
            have lb1 := (MB.out).reads (i := 1) rfl
            have lbf1 := (MB.out).open_ 1
            have lb2 := (MB.out).reads (i := 2) rfl
            have lbf2 := (MB.out).open_ 2
            have lb3 := (MB.out).reads (i := 3) rfl
            have lbf3 := (MB.out).open_ 3
            have lb4 := (MB.out).reads (i := 4) rfl
            have lbf4 := (MB.out).open_ 4
            have lb5 := (MB.out).reads (i := 5) rfl
            have lbf5 := (MB.out).open_ 5
            have lb6 := (MB.out).reads (i := 6) rfl
            have lbf6 := (MB.out).open_ 6
            have lb7 := (MB.out).reads (i := 7) rfl
            have lbf7 := (MB.out).open_ 7
            refine wpAnyH_ready (rs := [6]) (by kernel_rfl) (by simp) ?_
            refine AllReadyH.cons (at_list rfl) (fun K hK => ?_) AllReadyH.nil
            go_simp
            refine hK.out _ _ ?_ (fun hHeld => ?_)
            · exact keep12 (bfill8 QQ.out leA _ _ _ _ _ _ _ _) HS0.out
            clear hK K
            try simp only [Act.put, List.setIfInBounds_toArray, List.set_cons_zero, List.set_cons_succ]
            refine wpAnyH_ready (rs := [7]) (by kernel_rfl) (by simp) ?_
            refine AllReadyH.cons (at_list rfl) (fun K hK => ?_) AllReadyH.nil
            go_simp
            refine hK.out _ _ ?_ (fun hHeld => ?_)
            · exact keep12 (bfill8 (bfill8 QQ.out leA _ _ _ _ _ _ _ _) leB _ _ _ _ _ _ _ _) HS0.out
            clear hK K
            try simp only [Act.put, List.setIfInBounds_toArray, List.set_cons_zero, List.set_cons_succ]
            refine wpAnyH_done (by kernel_rfl) ?_ _
            refine NoPanic.normal ?_
            go_wp2_with fail
            go_meet
            exact ⟨_, _, rfl, rfl, ((MA.out).fill8 _ _ _ _ _ _ _ _).fillAside8 neB _ _ _ _ _ _ _ _, ((MB.out).fillAside8 neA _ _ _ _ _ _ _ _).fill8 _ _ _ _ _ _ _ _, bfill8 (bfill8 QQ.out leA _ _ _ _ _ _ _ _) leB _ _ _ _ _ _ _ _⟩
          exact AllReadyH.nil
        refine AllReadyH.cons (at_list rfl) (fun K hK => ?_) ?_
        · go_simp
          refine hK.out _ _ ?_ (fun hHeld => ?_)
          · exact keep12 (bstep (Q2.out) (bnew _ (.cells #[.int .u8 0, .int .u8 0, .int .u8 0, .int .u8 0, .int .u8 0, .int .u8 0, .int .u8 0, .int .u8 0] 23))) HS0.out
          clear hK K
          try simp only [Act.put, List.setIfInBounds_toArray, List.set_cons_zero, List.set_cons_succ]
          refine wpAnyH_ready (rs := [4]) (by kernel_rfl) (by simp) ?_
          refine AllReadyH.cons (at_list rfl) (fun K hK => ?_) ?_
          · go_simp
            refine hK.out _ _ ?_ (fun hHeld => ?_)
            · exact keep12 (bstep (bstep (Q2.out) (bnew _ (.cells #[.int .u8 0, .int .u8 0, .int .u8 0, .int .u8 0, .int .u8 0, .int .u8 0, .int .u8 0, .int .u8 0] 23))) (bnew _ (.cells #[.int .u8 0, .int .u8 0, .int .u8 0, .int .u8 0, .int .u8 0, .int .u8 0, .int .u8 0, .int .u8 0] 23))) HS0.out
            clear hK K
            try simp only [Act.put, List.setIfInBounds_toArray, List.set_cons_zero, List.set_cons_succ]
            have MA := Lib.hid (Holds.fresh (w2.alloc (.cells #[.int .u8 0, .int .u8 0, .int .u8 0, .int .u8 0, .int .u8 0, .int .u8 0, .int .u8 0, .int .u8 0] 23)) 23 #[.int .u8 0, .int .u8 0, .int .u8 0, .int .u8 0, .int .u8 0, .int .u8 0, .int .u8 0, .int .u8 0] (g := w2.heap.size + 1) (by simp))
            have MB := Lib.hid ((Holds.fresh w2 23 #[.int .u8 0, .int .u8 0, .int .u8 0, .int .u8 0, .int .u8 0, .int .u8 0, .int .u8 0, .int .u8 0] (g := w2.heap.size) (by simp)).laid (.cells #[.int .u8 0, .int .u8 0, .int .u8 0, .int .u8 0, .int .u8 0, .int .u8 0, .int .u8 0, .int .u8 0] 23))
            have QQ := Lib.hid (bstep (bstep (Q2.out) (bnew _ (.cells #[.int .u8 0, .int .u8 0, .int .u8 0, .int .u8 0, .int .u8 0, .int .u8 0, .int .u8 0, .int .u8 0] 23))) (bnew _ (.cells #[.int .u8 0, .int .u8 0, .int .u8 0, .int .u8 0, .int .u8 0, .int .u8 0, .int .u8 0, .int .u8 0] 23)))
            have sz1 := (Q1.out).size
            have sz2 := (Q2.out).size
            have sz3 := hb2.size
            try simp at sz3
            have leA : W0.heap.size ≤ w2.heap.size + 1 := by omega
            have leB : W0.heap.size ≤ w2.heap.size := by omega
            have neA : ¬ (w2.heap.size + 1 = w2.heap.size) := by first | omega | (have := hb1.size; simp at this; omega)
            have neB : ¬ (w2.heap.size = w2.heap.size + 1) := fun h => neA h.symm
            clear sz1 sz2 sz3
            generalize ((w2.alloc (.cells #[.int .u8 0, .int .u8 0, .int .u8 0, .int .u8 0, .int .u8 0, .int .u8 0, .int .u8 0, .int .u8 0] 23)).alloc (.cells #[.int .u8 0, .int .u8 0, .int .u8 0, .int .u8 0, .int .u8 0, .int .u8 0, .int .u8 0, .int .u8 0] 23)) = V at *
            have la0 := (MA.out).reads (i := 0) rfl
            have laf0 := (MA.out).open_ 0
            have la1 := (MA.out).reads (i := 1) rfl
            have laf1 := (MA.out).open_ 1
            have la2 := (MA.out).reads (i := 2) rfl
            have laf2 := (MA.out).open_ 2
            have la3 := (MA.out).reads (i := 3) rfl
            have laf3 := (MA.out).open_ 3
            have la4 := (MA.out).reads (i := 4) rfl
            have laf4 := (MA.out).open_ 4
            have la5 := (MA.out).reads (i := 5) rfl
            have laf5 := (MA.out).open_ 5
            have la6 := (MA.out).reads (i := 6) rfl
            have laf6 := (MA.out).open_ 6
            have la7 := (MA.out).reads (i := 7) rfl
            have laf7 := (MA.out).open_ 7
            have lb0 := (MB.out).reads (i := 0) rfl
            have lbf0 := (MB.out).open_ 0
            have lb1 := (MB.out).reads (i := 1) rfl
            have lbf1 := (MB.out).open_ 1
            have lb2 := (MB.out).reads (i := 2) rfl
            have lbf2 := (MB.out).open_ 2
            have lb3 := (MB.out).reads (i := 3) rfl
            have lbf3 := (MB.out).open_ 3
            have lb4 := (MB.out).reads (i := 4) rfl
            have lbf4 := (MB.out).open_ 4
            have lb5 := (MB.out).reads (i := 5) rfl
            have lbf5 := (MB.out).open_ 5
            have lb6 := (MB.out).reads (i := 6) rfl
            have lbf6 := (MB.out).open_ 6
            have lb7 := (MB.out).reads (i := 7) rfl
            have lbf7 := (MB.out).open_ 7
            refine wpAnyH_ready (rs := [6]) (by kernel_rfl) (by simp) ?_
            refine AllReadyH.cons (at_list rfl) (fun K hK => ?_) AllReadyH.nil
            go_simp
            refine hK.out _ _ ?_ (fun hHeld => ?_)
            · exact keep12 (bfill8 QQ.out leA _ _ _ _ _ _ _ _) HS0.out
            clear hK K
            try simp only [Act.put, List.setIfInBounds_toArray, List.set_cons_zero, List.set_cons_succ]
            refine wpAnyH_ready (rs := [7]) (by kernel_rfl) (by simp) ?_
            refine AllReadyH.cons (at_list rfl) (fun K hK => ?_) AllReadyH.nil
            go_simp
            refine hK.out _ _ ?_ (fun hHeld => ?_)
            · exact keep12 (bfill8 (bfill8 QQ.out leA _ _ _ _ _ _ _ _) leB _ _ _ _ _ _ _ _) HS0.out
            clear hK K
            try simp only [Act.put, List.setIfInBounds_toArray, List.set_cons_zero, List.set_cons_succ]
            refine wpAnyH_done (by kernel_rfl) ?_ _
            refine NoPanic.normal ?_
            go_wp2_with fail
            go_meet
            exact ⟨_, _, rfl, rfl, ((MA.out).fill8 _ _ _ _ _ _ _ _).fillAside8 neB _ _ _ _ _ _ _ _, ((MB.out).fillAside8 neA _ _ _ _ _ _ _ _).fill8 _ _ _ _ _ _ _ _, bfill8 (bfill8 QQ.out leA _ _ _ _ _ _ _ _) leB _ _ _ _ _ _ _ _⟩
          exact AllReadyH.nil
        exact AllReadyH.nil
      refine AllReadyH.cons (at_list rfl) (fun K hK => ?_) ?_
      · go_simp
        refine hK.out _ _ ?_ (fun hHeld => ?_)
        · exact keep12 (bstep (Q1.out) (bnew _ (.cells #[.int .u8 0, .int .u8 0, .int .u8 0, .int .u8 0, .int .u8 0, .int .u8 0, .int .u8 0, .int .u8 0] 23))) HS0.out
        clear hK K
        try simp only [Act.put, List.setIfInBounds_toArray, List.set_cons_zero, List.set_cons_succ]
        refine wpAnyH_ready (rs := [3, 5]) (by kernel_rfl) (by simp) ?_
        refine AllReadyH.cons (at_list rfl) (fun K hK => ?_) ?_
        · go_simp
          refine (C2.out _).mono ?_
          rintro e w2 ⟨rfl, hb2⟩
          have Q2 := Lib.hid (bstep (bstep (Q1.out) (bnew _ (.cells #[.int .u8 0, .int .u8 0, .int .u8 0, .int .u8 0, .int .u8 0, .int .u8 0, .int .u8 0, .int .u8 0] 23))) hb2)
          have LA2 := Lib.hid ((Holds.fresh w1 23 #[.int .u8 0, .int .u8 0, .int .u8 0, .int .u8 0, .int .u8 0, .int .u8 0, .int .u8 0, .int .u8 0] (g := w1.heap.size) (by simp)).keptB hb2)
          go_wp2_with fail
          refine hK.out _ _ ?_ (fun hHeld => ?_)
          · exact keep12 Q2.out HS0.out
          clear hK K
          try simp only [Act.put, List.setIfInBounds_toArray, List.set_cons_zero, List.set_cons_succ]
          refine wpAnyH_ready (rs := [5]) (by kernel_rfl) (by simp) ?_
          refine AllReadyH.cons (at_list rfl) (fun K hK => ?_) ?_
          · go_simp
            refine hK.out _ _ ?_ (fun hHeld => ?_)
            · exact keep12 (bstep (Q2.out) (bnew _ (.cells #[.int .u8 0, .int .u8 0, .int .u8 0, .int .u8 0, .int .u8 0, .int .u8 0, .int .u8 0, .int .u8 0] 23))) HS0.out
            clear hK K
            try simp only [Act.put, List.setIfInBounds_toArray, List.set_cons_zero, List.set_cons_succ]
            have MA := Lib.hid ((LA2.out).laid (.cells #[.int .u8 0, .int .u8 0, .int .u8 0, .int .u8 0, .int .u8 0, .int .u8 0, .int .u8 0, .int .u8 0] 23))
            have MB := Lib.hid (Holds.fresh w2 23 #[.int .u8 0, .int .u8 0, .int .u8 0, .int .u8 0, .int .u8 0, .int .u8 0, .int .u8 0, .int .u8 0] (g := w2.heap.size) (by simp))
            have QQ := Lib.hid (bstep (Q2.out) (bnew _ (.cells #[.int .u8 0, .int .u8 0, .int .u8 0, .int .u8 0, .int .u8 0, .int .u8 0, .int .u8 0, .int .u8 0] 23)))
            have sz1 := (Q1.out).size
            have sz2 := (Q2.out).size
            have sz3 := hb2.size
            try simp at sz3
            have leA : W0.heap.size ≤ w1.heap.size := by omega
            have leB : W0.heap.size ≤ w2.heap.size := by omega
            have neA : ¬ (w1.heap.size = w2.heap.size) := by first | omega | (have := hb1.size; simp at this; omega)
            have neB : ¬ (w2.heap.size = w1.heap.size) := fun h => neA h.symm
            clear sz1 sz2 sz3
            generalize (w2.alloc (.cells #[.int .u8 0, .int .u8 0, .int .u8 0, .int .u8 0, .int .u8 0, .int .u8 0, .int .u8 0, .int .u8 0] 23)) = V at *
            have la0 := (MA.out).reads (i := 0) rfl
            have laf0 := (MA.out).open_ 0
            have la1 := (MA.out).reads (i := 1) rfl
            have laf1 := (MA.out).open_ 1
            have la2 := (MA.out).reads (i := 2) rfl
            have laf2 := (MA.out).open_ 2
            have la3 := (MA.out).reads (i := 3) rfl
            have laf3 := (MA.out).open_ 3
            have la4 := (MA.out).reads (i := 4) rfl
            have laf4 := (MA.out).open_ 4
            have la5 := (MA.out).reads (i := 5) rfl
            have laf5 := (MA.out).open_ 5
            have la6 := (MA.out).reads (i := 6) rfl
            have laf6 := (MA.out).open_ 6
            have la7 := (MA.out).reads (i := 7) rfl
            have laf7 := (MA.out).open_ 7
            have lb0 := (MB.out).reads (i := 0) rfl
            have lbf0 := (MB.out).open_ 0
            have lb1 := (MB.out).reads (i := 1) rfl
            have lbf1 := (MB.out).open_ 1
            have lb2 := (MB.out).reads (i := 2) rfl
            have lbf2 := (MB.out).open_ 2
            have lb3 := (MB.out).reads (i := 3) rfl
            have lbf3 := (MB.out).open_ 3
            have lb4 := (MB.out).reads (i := 4) rfl
            have lbf4 := (MB.out).open_ 4
            have lb5 := (MB.out).reads (i := 5) rfl
            have lbf5 := (MB.out).open_ 5
            have lb6 := (MB.out).reads (i := 6) rfl
            have lbf6 := (MB.out).open_ 6
            have lb7 := (MB.out).reads (i := 7) rfl
            have lbf7 := (MB.out).open_ 7
            refine wpAnyH_ready (rs := [6]) (by kernel_rfl) (by simp) ?_
            refine AllReadyH.cons (at_list rfl) (fun K hK => ?_) AllReadyH.nil
            go_simp
            refine hK.out _ _ ?_ (fun hHeld => ?_)
            · exact keep12 (bfill8 QQ.out leA _ _ _ _ _ _ _ _) HS0.out
            clear hK K
            try simp only [Act.put, List.setIfInBounds_toArray, List.set_cons_zero, List.set_cons_succ]
            refine wpAnyH_ready (rs := [7]) (by kernel_rfl) (by simp) ?_
            refine AllReadyH.cons (at_list rfl) (fun K hK => ?_) AllReadyH.nil
            go_simp
            refine hK.out _ _ ?_ (fun hHeld => ?_)
            · exact keep12 (bfill8 (bfill8 QQ.out leA _ _ _ _ _ _ _ _) leB _ _ _ _ _ _ _ _) HS0.out
            clear hK K
            try simp only [Act.put, List.setIfInBounds_toArray, List.set_cons_zero, List.set_cons_succ]
            refine wpAnyH_done (by kernel_rfl) ?_ _
            refine NoPanic.normal ?_
            go_wp2_with fail
            go_meet
            exact ⟨_, _, rfl, rfl, ((MA.out).fill8 _ _ _ _ _ _ _ _).fillAside8 neB _ _ _ _ _ _ _ _, ((MB.out).fillAside8 neA _ _ _ _ _ _ _ _).fill8 _ _ _ _ _ _ _ _, bfill8 (bfill8 QQ.out leA _ _ _ _ _ _ _ _) leB _ _ _ _ _ _ _ _⟩
          exact AllReadyH.nil
        refine AllReadyH.cons (at_list rfl) (fun K hK => ?_) ?_
        · go_simp
          refine hK.out _ _ ?_ (fun hHeld => ?_)
          · exact keep12 (bstep (bstep (Q1.out) (bnew _ (.cells #[.int .u8 0, .int .u8 0, .int .u8 0, .int .u8 0, .int .u8 0, .int .u8 0, .int .u8 0, .int .u8 0] 23))) (bnew _ (.cells #[.int .u8 0, .int .u8 0, .int .u8 0, .int .u8 0, .int .u8 0, .int .u8 0, .int .u8 0, .int .u8 0] 23))) HS0.out
          clear hK K
          try simp only [Act.put, List.setIfInBounds_toArray, List.set_cons_zero, List.set_cons_succ]
          refine wpAnyH_ready (rs := [3]) (by kernel_rfl) (by simp) ?_
          refine AllReadyH.cons (at_list rfl) (fun K hK => ?_) ?_
          · go_simp
            refine (C2.out _).mono ?_
            rintro e w2 ⟨rfl, hb2⟩
            have Q2 := Lib.hid (bstep (bstep (bstep (Q1.out) (bnew _ (.cells #[.int .u8 0, .int .u8 0, .int .u8 0, .int .u8 0, .int .u8 0, .int .u8 0, .int .u8 0, .int .u8 0] 23))) (bnew _ (.cells #[.int .u8 0, .int .u8 0, .int .u8 0, .int .u8 0, .int .u8 0, .int .u8 0, .int .u8 0, .int .u8 0] 23))) hb2)
            have LA2 := Lib.hid (((Holds.fresh w1 23 #[.int .u8 0, .int .u8 0, .int .u8 0, .int .u8 0, .int .u8 0, .int .u8 0, .int .u8 0, .int .u8 0] (g := w1.heap.size) (by simp)).laid (.cells #[.int .u8 0, .int .u8 0, .int .u8 0, .int .u8 0, .int .u8 0, .int .u8 0, .int .u8 0, .int .u8 0] 23)).keptB hb2)
            have LB2 := Lib.hid ((Holds.fresh (w1.alloc (.cells #[.int .u8 0, .int .u8 0, .int .u8 0, .int .u8 0, .int .u8 0, .int .u8 0, .int .u8 0, .int .u8 0] 23)) 23 #[.int .u8 0, .int .u8 0, .int .u8 0, .int .u8 0, .int .u8 0, .int .u8 0, .int .u8 0, .int .u8 0] (g := w1.heap.size + 1) (by simp)).keptB hb2)
            go_wp2_with fail
            refine hK.out _ _ ?_ (fun hHeld => ?_)
            · exact keep12 Q2.out HS0.out
            clear hK K
            try simp only [Act.put, List.setIfInBounds_toArray, List.set_cons_zero, List.set_cons_succ]
            have MA := Lib.hid (LA2.out)
            have MB := Lib.hid (LB2.out)
            have QQ := Lib.hid (Q2.out)
            have sz1 := (Q1.out).size
            have sz2 := (Q2.out).size
            have sz3 := hb2.size
            try simp at sz3
            have leA : W0.heap.size ≤ w1.heap.size := by omega
            have leB : W0.heap.size ≤ w1.heap.size + 1 := by omega
            have neA : ¬ (w1.heap.size = w1.heap.size + 1) := by first | omega | (have := hb1.size; simp at this; omega)
            have neB : ¬ (w1.heap.size + 1 = w1.heap.size) := fun h => neA h.symm
            clear sz1 sz2 sz3
            have la0 := (MA.out).reads (i := 0) rfl
            have laf0 := (MA.out).open_ 0
            have la1 := (MA.out).reads (i := 1) rfl
            have laf1 := (MA.out).open_ 1
            have la2 := (MA.out).reads (i := 2) rfl
            have laf2 := (MA.out).open_ 2
            have la3 := (MA.out).reads (i := 3) rfl
            have laf3 := (MA.out).open_ 3
            have la4 := (MA.out).reads (i := 4) rfl
            have laf4 := (MA.out).open_ 4
            have la5 := (MA.out).reads (i := 5) rfl
            have laf5 := (MA.out).open_ 5
            have la6 := (MA.out).reads (i := 6) rfl
            have laf6 := (MA.out).open_ 6
            have la7 := (MA.out).reads (i := 7) rfl
            have laf7 := (MA.out).open_ 7
            have lb0 := (MB.out).reads (i := 0) rfl
            have lbf0 := (MB.out).open_ 0
            have lb1 := (MB.out).reads (i := 1) rfl
            have lbf1 := (MB.out).open_ 1
            have lb2 := (MB.out).reads (i := 2) rfl
            have lbf2 := (MB.out).open_ 2
            have lb3 := (MB.out).reads (i := 3) rfl
            have lbf3 := (MB.out).open_ 3
            have lb4 := (MB.out).reads (i := 4) rfl
            have lbf4 := (MB.out).open_ 4
            have lb5 := (MB.out).reads (i := 5) rfl
            have lbf5 := (MB.out).open_ 5
            have lb6 := (MB.out).reads (i := 6) rfl
            have lbf6 := (MB.out).open_ 6
            have lb7 := (MB.out).reads (i := 7) rfl
            have lbf7 := (MB.out).open_ 7
            refine wpAnyH_ready (rs := [6]) (by kernel_rfl) (by simp) ?_
            refine AllReadyH.cons (at_list rfl) (fun K hK => ?_) AllReadyH.nil
            go_simp
            refine hK.out _ _ ?_ (fun hHeld => ?_)
            · exact keep12 (bfill8 QQ.out leA _ _ _ _ _ _ _ _) HS0.out
            clear hK K
            try simp only [Act.put, List.setIfInBounds_toArray, List.set_cons_zero, List.set_cons_succ]
            refine wpAnyH_ready (rs := [7]) (by kernel_rfl) (by simp) ?_
            refine AllReadyH.cons (at_list rfl) (fun K hK => ?_) AllReadyH.nil
            go_simp
            refine hK.out _ _ ?_ (fun hHeld => ?_)
            · exact keep12 (bfill8 (bfill8 QQ.out leA _ _ _ _ _ _ _ _) leB _ _ _ _ _ _ _ _) HS0.out
            clear hK K
            try simp only [Act.put, List.setIfInBounds_toArray, List.set_cons_zero, List.set_cons_succ]
            refine wpAnyH_done (by kernel_rfl) ?_ _
            refine NoPanic.normal ?_
            go_wp2_with fail
            go_meet
            exact ⟨_, _, rfl, rfl, ((MA.out).fill8 _ _ _ _ _ _ _ _).fillAside8 neB _ _ _ _ _ _ _ _, ((MB.out).fillAside8 neA _ _ _ _ _ _ _ _).fill8 _ _ _ _ _ _ _ _, bfill8 (bfill8 QQ.out leA _ _ _ _ _ _ _ _) leB _ _ _ _ _ _ _ _⟩
          exact AllReadyH.nil
        exact AllReadyH.nil
      refine AllReadyH.cons (at_list rfl) (fun K hK => ?_) ?_
      · go_simp
        refine hK.out _ _ ?_ (fun hHeld => ?_)
        · exact keep12 (bstep (Q1.out) (bnew _ (.cells #[.int .u8 0, .int .u8 0, .int .u8 0, .int .u8 0, .int .u8 0, .int .u8 0, .int .u8 0, .int .u8 0] 23))) HS0.out
        clear hK K
        try simp only [Act.put, List.setIfInBounds_toArray, List.set_cons_zero, List.set_cons_succ]
        refine wpAnyH_ready (rs := [3, 4]) (by kernel_rfl) (by simp) ?_
        refine AllReadyH.cons (at_list rfl) (fun K hK => ?_) ?_
        · go_simp
          refine (C2.out _).mono ?_
          rintro e w2 ⟨rfl, hb2⟩
          have Q2 := Lib.hid (bstep (bstep (Q1.out) (bnew _ (.cells #[.int .u8 0, .int .u8 0, .int .u8 0, .int .u8 0, .int .u8 0, .int .u8 0, .int .u8 0, .int .u8 0] 23))) hb2)
          have LB2 := Lib.hid ((Holds.fresh w1 23 #[.int .u8 0, .int .u8 0, .int .u8 0, .int .u8 0, .int .u8 0, .int .u8 0, .int .u8 0, .int .u8 0] (g := w1.heap.size) (by simp)).keptB hb2)
          go_wp2_with fail
          refine hK.out _ _ ?_ (fun hHeld => ?_)
          · exact keep12 Q2.out HS0.out
          clear hK K
          try simp only [Act.put, List.setIfInBounds_toArray, List.set_cons_zero, List.set_cons_succ]
          refine wpAnyH_ready (rs := [4]) (by kernel_rfl) (by simp) ?_
          refine AllReadyH.cons (at_list rfl) (fun K hK => ?_) ?_
          · go_simp
            refine hK.out _ _ ?_ (fun hHeld => ?_)
            · exact keep12 (bstep (Q2.out) (bnew _ (.cells #[.int .u8 0, .int .u8 0, .int .u8 0, .int .u8 0, .int .u8 0, .int .u8 0, .int .u8 0, .int .u8 0] 23))) HS0.out
            clear hK K
            try simp only [Act.put, List.setIfInBounds_toArray, List.set_cons_zero, List.set_cons_succ]
            have MA := Lib.hid (Holds.fresh w2 23 #[.int .u8 0, .int .u8 0, .int .u8 0, .int .u8 0, .int .u8 0, .int .u8 0, .int .u8 0, .int .u8 0] (g := w2.heap.size) (by simp))
            have MB := Lib.hid ((LB2.out).laid (.cells #[.int .u8 0, .int .u8 0, .int .u8 0, .int .u8 0, .int .u8 0, .int .u8 0, .int .u8 0, .int .u8 0] 23))
            have QQ := Lib.hid (bstep (Q2.out) (bnew _ (.cells #[.int .u8 0, .int .u8 0, .int .u8 0, .int .u8 0, .int .u8 0, .int .u8 0, .int .u8 0, .int .u8 0] 23)))
            have sz1 := (Q1.out).size
            have sz2 := (Q2.out).size
            have sz3 := hb2.size
            try simp at sz3
            have leA : W0.heap.size ≤ w2.heap.size := by omega
            have leB : W0.heap.size ≤ w1.heap.size := by omega
            have neA : ¬ (w2.heap.size = w1.heap.size) := by first | omega | (have := hb1.size; simp at this; omega)
            have neB : ¬ (w1.heap.size = w2.heap.size) := fun h => neA h.symm
            clear sz1 sz2 sz3
            generalize (w2.alloc (.cells #[.int .u8 0, .int .u8 0, .int .u8 0, .int .u8 0, .int .u8 0, .int .u8 0, .int .u8 0, .int .u8 0] 23)) = V at *
            have la0 := (MA.out).reads (i := 0) rfl
            have laf0 := (MA.out).open_ 0
            have la1 := (MA.out).reads (i := 1) rfl
            have laf1 := (MA.out).open_ 1
            have la2 := (MA.out).reads (i := 2) rfl
            have laf2 := (MA.out).open_ 2
            have la3 := (MA.out).reads (i := 3) rfl
            have laf3 := (MA.out).open_ 3
            have la4 := (MA.out).reads (i := 4) rfl
            have laf4 := (MA.out).open_ 4
            have la5 := (MA.out).reads (i := 5) rfl
            have laf5 := (MA.out).open_ 5
            have la6 := (MA.out).reads (i := 6) rfl
            have laf6 := (MA.out).open_ 6
            have la7 := (MA.out).reads (i := 7) rfl
            have laf7 := (MA.out).open_ 7
            have lb0 := (MB.out).reads (i := 0) rfl
            have lbf0 := (MB.out).open_ 0
            have lb1 := (MB.out).reads (i := 1) rfl
            have lbf1 := (MB.out).open_ 1
            have lb2 := (MB.out).reads (i := 2) rfl
            have lbf2 := (MB.out).open_ 2
            have lb3 := (MB.out).reads (i := 3) rfl
            have lbf3 := (MB.out).open_ 3
            have lb4 := (MB.out).reads (i := 4) rfl
            have lbf4 := (MB.out).open_ 4
            have lb5 := (MB.out).reads (i := 5) rfl
            have lbf5 := (MB.out).open_ 5
            have lb6 := (MB.out).reads (i := 6) rfl
            have lbf6 := (MB.out).open_ 6
            have lb7 := (MB.out).reads (i := 7) rfl
            have lbf7 := (MB.out).open_ 7
            refine wpAnyH_ready (rs := [6]) (by kernel_rfl) (by simp) ?_
            refine AllReadyH.cons (at_list rfl) (fun K hK => ?_) AllReadyH.nil
            go_simp
            refine hK.out _ _ ?_ (fun hHeld => ?_)
            · exact keep12 (bfill8 QQ.out leA _ _ _ _ _ _ _ _) HS0.out
            clear hK K
            try simp only [Act.put, List.setIfInBounds_toArray, List.set_cons_zero, List.set_cons_succ]
            refine wpAnyH_ready (rs := [7]) (by kernel_rfl) (by simp) ?_
            refine AllReadyH.cons (at_list rfl) (fun K hK => ?_) AllReadyH.nil
            go_simp
            refine hK.out _ _ ?_ (fun hHeld => ?_)
            · exact keep12 (bfill8 (bfill8 QQ.out leA _ _ _ _ _ _ _ _) leB _ _ _ _ _ _ _ _) HS0.out
            clear hK K
            try simp only [Act.put, List.setIfInBounds_toArray, List.set_cons_zero, List.set_cons_succ]
            refine wpAnyH_done (by kernel_rfl) ?_ _
            refine NoPanic.normal ?_
            go_wp2_with fail
            go_meet
            exact ⟨_, _, rfl, rfl, ((MA.out).fill8 _ _ _ _ _ _ _ _).fillAside8 neB _ _ _ _ _ _ _ _, ((MB.out).fillAside8 neA _ _ _ _ _ _ _ _).fill8 _ _ _ _ _ _ _ _, bfill8 (bfill8 QQ.out leA _ _ _ _ _ _ _ _) leB _ _ _ _ _ _ _ _⟩
          exact AllReadyH.nil
        refine AllReadyH.cons (at_list rfl) (fun K hK => ?_) ?_
        · go_simp
          refine hK.out _ _ ?_ (fun hHeld => ?_)
          · exact keep12 (bstep (bstep (Q1.out) (bnew _ (.cells #[.int .u8 0, .int .u8 0, .int .u8 0, .int .u8 0, .int .u8 0, .int .u8 0, .int .u8 0, .int .u8 0] 23))) (bnew _ (.cells #[.int .u8 0, .int .u8 0, .int .u8 0, .int .u8 0, .int .u8 0, .int .u8 0, .int .u8 0, .int .u8 0] 23))) HS0.out
          clear hK K
          try simp only [Act.put, List.setIfInBounds_toArray, List.set_cons_zero, List.set_cons_succ]
          refine wpAnyH_ready (rs := [3]) (by kernel_rfl) (by simp) ?_
          refine AllReadyH.cons (at_list rfl) (fun K hK => ?_) ?_
          · go_simp
            refine (C2.out _).mono ?_
            rintro e w2 ⟨rfl, hb2⟩
            have Q2 := Lib.hid (bstep (bstep (bstep (Q1.out) (bnew _ (.cells #[.int .u8 0, .int .u8 0, .int .u8 0, .int .u8 0, .int .u8 0, .int .u8 0, .int .u8 0, .int .u8 0] 23))) (bnew _ (.cells #[.int .u8 0, .int .u8 0, .int .u8 0, .int .u8 0, .int .u8 0, .int .u8 0, .int .u8 0, .int .u8 0] 23))) hb2)
            have LB2 := Lib.hid (((Holds.fresh w1 23 #[.int .u8 0, .int .u8 0, .int .u8 0, .int .u8 0, .int .u8 0, .int .u8 0, .int .u8 0, .int .u8 0] (g := w1.heap.size) (by simp)).laid (.cells #[.int .u8 0, .int .u8 0, .int .u8 0, .int .u8 0, .int .u8 0, .int .u8 0, .int .u8 0, .int .u8 0] 23)).keptB hb2)
            have LA2 := Lib.hid ((Holds.fresh (w1.alloc (.cells #[.int .u8 0, .int .u8 0, .int .u8 0, .int .u8 0, .int .u8 0, .int .u8 0, .int .u8 0, .int .u8 0] 23)) 23 #[.int .u8 0, .int .u8 0, .int .u8 0, .int .u8 0, .int .u8 0, .int .u8 0, .int .u8 0, .int .u8 0] (g := w1.heap.size + 1) (by simp)).keptB hb2)
            go_wp2_with fail
            refine hK.out _ _ ?_ (fun hHeld => ?_)
            · exact keep12 Q2.out HS0.out
            clear hK K
            try simp only [Act.put, List.setIfInBounds_toArray, List.set_cons_zero, List.set_cons_succ]
            have MA := Lib.hid (LA2.out)
            have MB := Lib.hid (LB2.out)
            have QQ := Lib.hid (Q2.out)
            have sz1 := (Q1.out).size
            have sz2 := (Q2.out).size
            have sz3 := hb2.size
            try simp at sz3
            have leA : W0.heap.size ≤ w1.heap.size + 1 := by omega
            have leB : W0.heap.size ≤ w1.heap.size := by omega
            have neA : ¬ (w1.heap.size + 1 = w1.heap.size) := by first | omega | (have := hb1.size; simp at this; omega)
            have neB : ¬ (w1.heap.size = w1.heap.size + 1) := fun h => neA h.symm
            clear sz1 sz2 sz3
            have la0 := (MA.out).reads (i := 0) rfl
            have laf0 := (MA.out).open_ 0
            have la1 := (MA.out).reads (i := 1) rfl
            have laf1 := (MA.out).open_ 1
            have la2 := (MA.out).reads (i := 2) rfl
            have laf2 := (MA.out).open_ 2
            have la3 := (MA.out).reads (i := 3) rfl
            have laf3 := (MA.out).open_ 3
            have la4 := (MA.out).reads (i := 4) rfl
            have laf4 := (MA.out).open_ 4
            have la5 := (MA.out).reads (i := 5) rfl
            have laf5 := (MA.out).open_ 5
            have la6 := (MA.out).reads (i := 6) rfl
            have laf6 := (MA.out).open_ 6
            have la7 := (MA.out).reads (i := 7) rfl
            have laf7 := (MA.out).open_ 7
            have lb0 := (MB.out).reads (i := 0) rfl
            have lbf0 := (MB.out).open_ 0
            have lb1 := (MB.out).reads (i := 1) rfl
            have lbf1 := (MB.out).open_ 1
            have lb2 := (MB.out).reads (i := 2) rfl
            have lbf2 := (MB.out).open_ 2
            have lb3 := (MB.out).reads (i := 3) rfl
            have lbf3 := (MB.out).open_ 3
            have lb4 := (MB.out).reads (i := 4) rfl
            have lbf4 := (MB.out).open_ 4
            have lb5 := (MB.out).reads (i := 5) rfl
            have lbf5 := (MB.out).open_ 5
            have lb6 := (MB.out).reads (i := 6) rfl
            have lbf6 := (MB.out).open_ 6
            have lb7 := (MB.out).reads (i := 7) rfl
            have lbf7 := (MB.out).open_ 7
            refine wpAnyH_ready (rs := [6]) (by kernel_rfl) (by simp) ?_
            refine AllReadyH.cons (at_list rfl) (fun K hK => ?_) AllReadyH.nil
            go_simp
            refine hK.out _ _ ?_ (fun hHeld => ?_)
            · exact keep12 (bfill8 QQ.out leA _ _ _ _ _ _ _ _) HS0.out
            clear hK K
            try simp only [Act.put, List.setIfInBounds_toArray, List.set_cons_zero, List.set_cons_succ]
            refine wpAnyH_ready (rs := [7]) (by kernel_rfl) (by simp) ?_
            refine AllReadyH.cons (at_list rfl) (fun K hK => ?_) AllReadyH.nil
            go_simp
            refine hK.out _ _ ?_ (fun hHeld => ?_)
            · exact keep12 (bfill8 (bfill8 QQ.out leA _ _ _ _ _ _ _ _) leB _ _ _ _ _ _ _ _) HS0.out
            clear hK K
            try simp only [Act.put, List.setIfInBounds_toArray, List.set_cons_zero, List.set_cons_succ]
            refine wpAnyH_done (by kernel_rfl) ?_ _
            refine NoPanic.normal ?_
            go_wp2_with fail
            go_meet
            exact ⟨_, _, rfl, rfl, ((MA.out).fill8 _ _ _ _ _ _ _ _).fillAside8 neB _ _ _ _ _ _ _ _, ((MB.out).fillAside8 neA _ _ _ _ _ _ _ _).fill8 _ _ _ _ _ _ _ _, bfill8 (bfill8 QQ.out leA _ _ _ _ _ _ _ _) leB _ _ _ _ _ _ _ _⟩
          exact AllReadyH.nil
        exact AllReadyH.nil
      exact AllReadyH.nil
    refine AllReadyH.cons (at_list rfl) (fun K hK => ?_) ?_
    · go_simp
      refine hK.out _ _ ?_ (fun hHeld => ?_)
      · exact keep12 (bdrew (bnew W0 (.cells #[.int .u8 0, .int .u8 0, .int .u8 0, .int .u8 0, .int .u8 0, .int .u8 0, .int .u8 0, .int .u8 0] 23))) HS0.out
      clear hK K
      try simp only [Act.put, List.setIfInBounds_toArray, List.set_cons_zero, List.set_cons_succ]
      refine wpAnyH_ready (rs := [1, 5]) (by kernel_rfl) (by simp) ?_
      refine AllReadyH.cons (at_list rfl) (fun K hK => ?_) ?_
      · go_simp
        refine (C1.out _).mono ?_
        rintro e w1 ⟨rfl, hb1⟩
        have Q1 := Lib.hid (bstep (bdrew (bnew W0 (.cells #[.int .u8 0, .int .u8 0, .int .u8 0, .int .u8 0, .int .u8 0, .int .u8 0, .int .u8 0, .int .u8 0] 23))) hb1)
        have LA1 := Lib.hid (((Holds.fresh W0 23 #[.int .u8 0, .int .u8 0, .int .u8 0, .int .u8 0, .int .u8 0, .int .u8 0, .int .u8 0, .int .u8 0] (g := W0.heap.size) (by simp)).drew).keptB hb1)
        go_wp2_with fail
        refine hK.out _ _ ?_ (fun hHeld => ?_)
        · exact keep12 Q1.out HS0.out
        clear hK K
        try simp only [Act.put, List.setIfInBounds_toArray, List.set_cons_zero, List.set_cons_succ]
        refine wpAnyH_ready (rs := [3, 5]) (by kernel_rfl) (by simp) ?_
        refine AllReadyH.cons (at_list rfl) (fun K hK => ?_) ?_
        · go_simp
          refine (C2.out _).mono ?_
          rintro e w2 ⟨rfl, hb2⟩
          have Q2 := Lib.hid (bstep (Q1.out) hb2)
          have LA2 := Lib.hid ((LA1.out).keptB hb2)
          go_wp2_with fail
          refine hK.out _ _ ?_ (fun hHeld => ?_)
          · exact keep12 Q2.out HS0.out
          clear hK K
          try simp only [Act.put, List.setIfInBounds_toArray, List.set_cons_zero, List.set_cons_succ]
          refine wpAnyH_ready (rs := [5]) (by kernel_rfl) (by simp) ?_
          refine AllReadyH.cons (at_list rfl) (fun K hK => ?_) ?_
          · go_simp
            refine hK.out _ _ ?_ (fun hHeld => ?_)
            · exact keep12 (bstep (Q2.out) (bnew _ (.cells #[.int .u8 0, .int .u8 0, .int .u8 0, .int .u8 0, .int .u8 0, .int .u8 0, .int .u8 0, .int .u8 0] 23))) HS0.out
            clear hK K
            try simp only [Act.put, List.setIfInBounds_toArray, List.set_cons_zero, List.set_cons_succ]
            have MA := Lib.hid ((LA2.out).laid (.cells #[.int .u8 0, .int .u8 0, .int .u8 0, .int .u8 0, .int .u8 0, .int .u8 0, .int .u8 0, .int .u8 0] 23))
            have MB := Lib.hid (Holds.fresh w2 23 #[.int .u8 0, .int .u8 0, .int .u8 0, .int .u8 0, .int .u8 0, .int .u8 0, .int .u8 0, .int .u8 0] (g := w2.heap.size) (by simp))
            have QQ := Lib.hid (bstep (Q2.out) (bnew _ (.cells #[.int .u8 0, .int .u8 0, .int .u8 0, .int .u8 0, .int .u8 0, .int .u8 0, .int .u8 0, .int .u8 0] 23)))
            have sz1 := (Q1.out).size
            have sz2 := (Q2.out).size
            have sz3 := hb2.size
            try simp at sz3
            have leA : W0.heap.size ≤ W0.heap.size := by omega
            have leB : W0.heap.size ≤ w2.heap.size := by omega
            have neA : ¬ (W0.heap.size = w2.heap.size) := by first | omega | (have := hb1.size; simp at this; omega)
            have neB : ¬ (w2.heap.size = W0.heap.size) := fun h => neA h.symm
            clear sz1 sz2 sz3
            generalize (w2.alloc (.cells #[.int .u8 0, .int .u8 0, .int .u8 0, .int .u8 0, .int .u8 0, .int .u8 0, .int .u8 0, .int .u8 0] 23)) = V at *
            have la0 := (MA.out).reads (i := 0) rfl
            have laf0 := (MA.out).open_ 0
            have la1 := (MA.out).reads (i := 1) rfl
            have laf1 := (MA.out).open_ 1
            have la2 := (MA.out).reads (i := 2) rfl
            have laf2 := (MA.out).open_ 2
            have la3 := (MA.out).reads (i := 3) rfl
            have laf3 := (MA.out).open_ 3
            have la4 := (MA.out).reads (i := 4) rfl
            have laf4 := (MA.out).open_ 4
            have la5 := (MA.out).reads (i := 5) rfl
            have laf5 := (MA.out).open_ 5
            have la6 := (MA.out).reads (i := 6) rfl
            have laf6 := (MA.out).open_ 6
            have la7 := (MA.out).reads (i := 7) rfl
            have laf7 := (MA.out).open_ 7
            have lb0 := (MB.out).reads (i := 0) rfl
            have lbf0 := (MB.out).open_ 0
            have lb1 := (MB.out).reads (i := 1) rfl
            have lbf1 := (MB.out).open_ 1
            have lb2 := (MB.out).reads (i := 2) rfl
            have lbf2 := (MB.out).open_ 2
            have lb3 := (MB.out).reads (i := 3) rfl
            have lbf3 := (MB.out).open_ 3
            have lb4 := (MB.out).reads (i := 4) rfl
            have lbf4 := (MB.out).open_ 4
            have lb5 := (MB.out).reads (i := 5) rfl
            have lbf5 := (MB.out).open_ 5
            have lb6 := (MB.out).reads (i := 6) rfl
            have lbf6 := (MB.out).open_ 6
            have lb7 := (MB.out).reads (i := 7) rfl
            have lbf7 := (MB.out).open_ 7
            refine wpAnyH_ready (rs := [6]) (by kernel_rfl) (by simp) ?_
            refine AllReadyH.cons (at_list rfl) (fun K hK => ?_) AllReadyH.nil
            go_simp
            refine hK.out _ _ ?_ (fun hHeld => ?_)
            · exact keep12 (bfill8 QQ.out leA _ _ _ _ _ _ _ _) HS0.out
            clear hK K
            try simp only [Act.put, List.setIfInBounds_toArray, List.set_cons_zero, List.set_cons_succ]
            refine wpAnyH_ready (rs := [7]) (by kernel_rfl) (by simp) ?_
            refine AllReadyH.cons (at_list rfl) (fun K hK => ?_) AllReadyH.nil
            go_simp
            refine hK.out _ _ ?_ (fun hHeld => ?_)
            · exact keep12 (bfill8 (bfill8 QQ.out leA _ _ _ _ _ _ _ _) leB _ _ _ _ _ _ _ _) HS0.out
            clear hK K
            try simp only [Act.put, List.setIfInBounds_toArray, List.set_cons_zero, List.set_cons_succ]
            refine wpAnyH_done (by kernel_rfl) ?_ _
            refine NoPanic.normal ?_
            go_wp2_with fail
            go_meet
            exact ⟨_, _, rfl, rfl, ((MA.out).fill8 _ _ _ _ _ _ _ _).fillAside8 neB _ _ _ _ _ _ _ _, ((MB.out).fillAside8 neA _ _ _ _ _ _ _ _).fill8 _ _ _ _ _ _ _ _, bfill8 (bfill8 QQ.out leA _ _ _ _ _ _ _ _) leB _ _ _ _ _ _ _ _⟩
          exact AllReadyH.nil
        refine AllReadyH.cons (at_list rfl) (fun K hK => ?_) ?_
        · go_simp
          refine hK.out _ _ ?_ (fun hHeld => ?_)
          · exact keep12 (bstep (Q1.out) (bnew _ (.cells #[.int .u8 0, .int .u8 0, .int .u8 0, .int .u8 0, .int .u8 0, .int .u8 0, .int .u8 0, .int .u8 0] 23))) HS0.out
          clear hK K
          try simp only [Act.put, List.setIfInBounds_toArray, List.set_cons_zero, List.set_cons_succ]
          refine wpAnyH_ready (rs := [3]) (by kernel_rfl) (by simp) ?_
          refine AllReadyH.cons (at_list rfl) (fun K hK => ?_) ?_
          · go_simp
            refine (C2.out _).mono ?_
            rintro e w2 ⟨rfl, hb2⟩
            have Q2 := Lib.hid (bstep (bstep (Q1.out) (bnew _ (.cells #[.int .u8 0, .int .u8 0, .int .u8 0, .int .u8 0, .int .u8 0, .int .u8 0, .int .u8 0, .int .u8 0] 23))) hb2)
            have LA2 := Lib.hid (((LA1.out).laid (.cells #[.int .u8 0, .int .u8 0, .int .u8 0, .int .u8 0, .int .u8 0, .int .u8 0, .int .u8 0, .int .u8 0] 23)).keptB hb2)
            have LB2 := Lib.hid ((Holds.fresh w1 23 #[.int .u8 0, .int .u8 0, .int .u8 0, .int .u8 0, .int .u8 0, .int .u8 0, .int .u8 0, .int .u8 0] (g := w1.heap.size) (by simp)).keptB hb2)
            go_wp2_with fail
            refine hK.out _ _ ?_ (fun hHeld => ?_)
            · exact keep12 Q2.out HS0.out
            clear hK K
            try simp only [Act.put, List.setIfInBounds_toArray, List.set_cons_zero, List.set_cons_succ]
            have MA := Lib.hid (LA2.out)
            have MB := Lib.hid (LB2.out)
            have QQ := Lib.hid (Q2.out)
            have sz1 := (Q1.out).size
            have sz2 := (Q2.out).size
            have sz3 := hb2.size
            try simp at sz3
            have leA : W0.heap.size ≤ W0.heap.size := by omega
            have leB : W0.heap.size ≤ w1.heap.size := by omega
            have neA : ¬ (W0.heap.size = w1.heap.size) := by first | omega | (have := hb1.size; simp at this; omega)
            have neB : ¬ (w1.heap.size = W0.heap.size) := fun h => neA h.symm
            clear sz1 sz2 sz3
            have la0 := (MA.out).reads (i := 0) rfl
            have laf0 := (MA.out).open_ 0
            have la1 := (MA.out).reads (i := 1) rfl
            have laf1 := (MA.out).open_ 1
            have la2 := (MA.out).reads (i := 2) rfl
            have laf2 := (MA.out).open_ 2
            have la3 := (MA.out).reads (i := 3) rfl
            have laf3 := (MA.out).open_ 3
            have la4 := (MA.out).reads (i := 4) rfl
            have laf4 := (MA.out).open_ 4
            have la5 := (MA.out).reads (i := 5) rfl
            have laf5 := (MA.out).open_ 5
            have la6 := (MA.out).reads (i := 6) rfl
            have laf6 := (MA.out).open_ 6
            have la7 := (MA.out).reads (i := 7) rfl
            have laf7 := (MA.out).open_ 7
            have lb0 := (MB.out).reads (i := 0) rfl
            have lbf0 := (MB.out).open_ 0
            have lb1 := (MB.out).reads (i := 1) rfl
            have lbf1 := (MB.out).open_ 1
            have lb2 := (MB.out).reads (i := 2) rfl
            have lbf2 := (MB.out).open_ 2
            have lb3 := (MB.out).reads (i := 3) rfl
            have lbf3 := (MB.out).open_ 3
            have lb4 := (MB.out).reads (i := 4) rfl
            have lbf4 := (MB.out).open_ 4
            have lb5 := (MB.out).reads (i := 5) rfl
            have lbf5 := (MB.out).open_ 5
            have lb6 := (MB.out).reads (i := 6) rfl
            have lbf6 := (MB.out).open_ 6
            have lb7 := (MB.out).reads (i := 7) rfl
            have lbf7 := (MB.out).open_ 7
            refine wpAnyH_ready (rs := [6]) (by kernel_rfl) (by simp) ?_
            refine AllReadyH.cons (at_list rfl) (fun K hK => ?_) AllReadyH.nil
            go_simp
            refine hK.out _ _ ?_ (fun hHeld => ?_)
            · exact keep12 (bfill8 QQ.out leA _ _ _ _ _ _ _ _) HS0.out
            clear hK K
            try simp only [Act.put, List.setIfInBounds_toArray, List.set_cons_zero, List.set_cons_succ]
            refine wpAnyH_ready (rs := [7]) (by kernel_rfl) (by simp) ?_
            refine AllReadyH.cons (at_list rfl) (fun K hK => ?_) AllReadyH.nil
            go_simp
            refine hK.out _ _ ?_ (fun hHeld => ?_)
            · exact keep12 (bfill8 (bfill8 QQ.out leA _ _ _ _ _ _ _ _) leB _ _ _ _ _ _ _ _) HS0.out
            clear hK K
            try simp only [Act.put, List.setIfInBounds_toArray, List.set_cons_zero, List.set_cons_succ]
            refine wpAnyH_done (by kernel_rfl) ?_ _
            refine NoPanic.normal ?_
            go_wp2_with fail
            go_meet
            exact ⟨_, _, rfl, rfl, ((MA.out).fill8 _ _ _ _ _ _ _ _).fillAside8 neB _ _ _ _ _ _ _ _, ((MB.out).fillAside8 neA _ _ _ _ _ _ _ _).fill8 _ _ _ _ _ _ _ _, bfill8 (bfill8 QQ.out leA _ _ _ _ _ _ _ _) leB _ _ _ _ _ _ _ _⟩
          exact AllReadyH.nil
        exact AllReadyH.nil
      refine AllReadyH.cons (at_list rfl) (fun K hK => ?_) ?_
      · go_simp
        refine hK.out _ _ ?_ (fun hHeld => ?_)
        · exact keep12 (bdrew (bstep (bnew W0 (.cells #[.int .u8 0, .int .u8 0, .int .u8 0, .int .u8 0, .int .u8 0, .int .u8 0, .int .u8 0, .int .u8 0] 23)) (bnew _ (.cells #[.int .u8 0, .int .u8 0, .int .u8 0, .int .u8 0, .int .u8 0, .int .u8 0, .int .u8 0, .int .u8 0] 23)))) HS0.out
        clear hK K
        try simp only [Act.put, List.setIfInBounds_toArray, List.set_cons_zero, List.set_cons_succ]
        refine wpAnyH_ready (rs := [1]) (by kernel_rfl) (by simp) ?_
        refine AllReadyH.cons (at_list rfl) (fun K hK => ?_) ?_
        · go_simp
          refine (C1.out _).mono ?_
          rintro e w1 ⟨rfl, hb1⟩
          have Q1 := Lib.hid (bstep (bdrew (bstep (bnew W0 (.cells #[.int .u8 0, .int .u8 0, .int .u8 0, .int .u8 0, .int .u8 0, .int .u8 0, .int .u8 0, .int .u8 0] 23)) (bnew _ (.cells #[.int .u8 0, .int .u8 0, .int .u8 0, .int .u8 0, .int .u8 0, .int .u8 0, .int .u8 0, .int .u8 0] 23)))) hb1)
          have LA1 := Lib.hid (((((Holds.fresh W0 23 #[.int .u8 0, .int .u8 0, .int .u8 0, .int .u8 0, .int .u8 0, .int .u8 0, .int .u8 0, .int .u8 0] (g := W0.heap.size) (by simp))).laid (.cells #[.int .u8 0, .int .u8 0, .int .u8 0, .int .u8 0, .int .u8 0, .int .u8 0, .int .u8 0, .int .u8 0] 23)).drew).keptB hb1)
          have LB1 := Lib.hid (((Holds.fresh (W0.alloc (.cells #[.int .u8 0, .int .u8 0, .int .u8 0, .int .u8 0, .int .u8 0, .int .u8 0, .int .u8 0, .int .u8 0] 23)) 23 #[.int .u8 0, .int .u8 0, .int .u8 0, .int .u8 0, .int .u8 0, .int .u8 0, .int .u8 0, .int .u8 0] (g := W0.heap.size + 1) (by simp)).drew).keptB hb1)
          go_wp2_with fail
          refine hK.out _ _ ?_ (fun hHeld => ?_)
          · exact keep12 Q1.out HS0.out
          clear hK K
          try simp only [Act.put, List.setIfInBounds_toArray, List.set_cons_zero, List.set_cons_succ]
          refine wpAnyH_ready (rs := [3]) (by kernel_rfl) (by simp) ?_
          refine AllReadyH.cons (at_list rfl) (fun K hK => ?_) ?_
          · go_simp
            refine (C2.out _).mono ?_
            rintro e w2 ⟨rfl, hb2⟩
            have Q2 := Lib.hid (bstep (Q1.out) hb2)
            have LA2 := Lib.hid ((LA1.out).keptB hb2)
            have LB2 := Lib.hid ((LB1.out).keptB hb2)
            go_wp2_with fail
            refine hK.out _ _ ?_ (fun hHeld => ?_)
            · exact keep12 Q2.out HS0.out
            clear hK K
            try simp only [Act.put, List.setIfInBounds_toArray, List.set_cons_zero, List.set_cons_succ]
            have MA := Lib.hid (LA2.out)
            have MB := Lib.hid (LB2.out)
            have QQ := Lib.hid (Q2.out)
            have sz1 := (Q1.out).size
            have sz2 := (Q2.out).size
            have sz3 := hb2.size
            try simp at sz3
            have leA : W0.heap.size ≤ W0.heap.size := by omega
            have leB : W0.heap.size ≤ W0.heap.size + 1 := by omega
            have neA : ¬ (W0.heap.size = W0.heap.size + 1) := by first | omega | (have := hb1.size; simp at this; omega)
            have neB : ¬ (W0.heap.size + 1 = W0.heap.size) := fun h => neA h.symm
            clear sz1 sz2 sz3
            have la0 := (MA.out).reads (i := 0) rfl
            have laf0 := (MA.out).open_ 0
            have la1 := (MA.out).reads (i := 1) rfl
            have laf1 := (MA.out).open_ 1
            have la2 := (MA.out).reads (i := 2) rfl
            have laf2 := (MA.out).open_ 2
            have la3 := (MA.out).reads (i := 3) rfl
            have laf3 := (MA.out).open_ 3
            have la4 := (MA.out).reads (i := 4) rfl
            have laf4 := (MA.out).open_ 4
            have la5 := (MA.out).reads (i := 5) rfl
            have laf5 := (MA.out).open_ 5
            have la6 := (MA.out).reads (i := 6) rfl
            have laf6 := (MA.out).open_ 6
            have la7 := (MA.out).reads (i := 7) rfl
            have laf7 := (MA.out).open_ 7
            have lb0 := (MB.out).reads (i := 0) rfl
            have lbf0 := (MB.out).open_ 0
            have lb1 := (MB.out).reads (i := 1) rfl
            have lbf1 := (MB.out).open_ 1
            have lb2 := (MB.out).reads (i := 2) rfl
            have lbf2 := (MB.out).open_ 2
            have lb3 := (MB.out).reads (i := 3) rfl
            have lbf3 := (MB.out).open_ 3
            have lb4 := (MB.out).reads (i := 4) rfl
            have lbf4 := (MB.out).open_ 4
            have lb5 := (MB.out).reads (i := 5) rfl
            have lbf5 := (MB.out).open_ 5
            have lb6 := (MB.out).reads (i := 6) rfl
            have lbf6 := (MB.out).open_ 6
            have lb7 := (MB.out).reads (i := 7) rfl
            have lbf7 := (MB.out).open_ 7
            refine wpAnyH_ready (rs := [6]) (by kernel_rfl) (by simp) ?_
            refine AllReadyH.cons (at_list rfl) (fun K hK => ?_) AllReadyH.nil
            go_simp
            refine hK.out _ _ ?_ (fun hHeld => ?_)
            · exact keep12 (bfill8 QQ.out leA _ _ _ _ _ _ _ _) HS0.out
            clear hK K
            try simp only [Act.put, List.setIfInBounds_toArray, List.set_cons_zero, List.set_cons_succ]
            refine wpAnyH_ready (rs := [7]) (by kernel_rfl) (by simp) ?_
            refine AllReadyH.cons (at_list rfl) (fun K hK => ?_) AllReadyH.nil
            go_simp
            refine hK.out _ _ ?_ (fun hHeld => ?_)
            · exact keep12 (bfill8 (bfill8 QQ.out leA _ _ _ _ _ _ _ _) leB _ _ _ _ _ _ _ _) HS0.out
            clear hK K
            try simp only [Act.put, List.setIfInBounds_toArray, List.set_cons_zero, List.set_cons_succ]
            refine wpAnyH_done (by kernel_rfl) ?_ _
            refine NoPanic.normal ?_
            go_wp2_with fail
            go_meet
            exact ⟨_, _, rfl, rfl, ((MA.out).fill8 _ _ _ _ _ _ _ _).fillAside8 neB _ _ _ _ _ _ _ _, ((MB.out).fillAside8 neA _ _ _ _ _ _ _ _).fill8 _ _ _ _ _ _ _ _, bfill8 (bfill8 QQ.out leA _ _ _ _ _ _ _ _) leB _ _ _ _ _ _ _ _⟩
          exact AllReadyH.nil
        exact AllReadyH.nil
      exact AllReadyH.nil
    refine AllReadyH.cons (at_list rfl) (fun K hK => ?_) ?_
    · go_simp
      refine hK.out _ _ ?_ (fun hHeld => ?_)
      · exact keep12 (bdrew (bnew W0 (.cells #[.int .u8 0, .int .u8 0, .int .u8 0, .int .u8 0, .int .u8 0, .int .u8 0, .int .u8 0, .int .u8 0] 23))) HS0.out
      clear hK K
      try simp only [Act.put, List.setIfInBounds_toArray, List.set_cons_zero, List.set_cons_succ]
      refine wpAnyH_ready (rs := [1, 4]) (by kernel_rfl) (by simp) ?_
      refine AllReadyH.cons (at_list rfl) (fun K hK => ?_) ?_
      · go_simp
        refine (C1.out _).mono ?_
        rintro e w1 ⟨rfl, hb1⟩
        have Q1 := Lib.hid (bstep (bdrew (bnew W0 (.cells #[.int .u8 0, .int .u8 0, .int .u8 0, .int .u8 0, .int .u8 0, .int .u8 0, .int .u8 0, .int .u8 0] 23))) hb1)
        have LB1 := Lib.hid (((Holds.fresh W0 23 #[.int .u8 0, .int .u8 0, .int .u8 0, .int .u8 0, .int .u8 0, .int .u8 0, .int .u8 0, .int .u8 0] (g := W0.heap.size) (by simp)).drew).keptB hb1)
        go_wp2_with fail
        refine hK.out _ _ ?_ (fun hHeld => ?_)
        · exact keep12 Q1.out HS0.out
        clear hK K
        try simp only [Act.put, List.setIfInBounds_toArray, List.set_cons_zero, List.set_cons_succ]
        refine wpAnyH_ready (rs := [3, 4]) (by kernel_rfl) (by simp) ?_
        refine AllReadyH.cons (at_list rfl) (fun K hK => ?_) ?_
        · go_simp
          refine (C2.out _).mono ?_
          rintro e w2 ⟨rfl, hb2⟩
          have Q2 := Lib.hid (bstep (Q1.out) hb2)
          have LB2 := Lib.hid ((LB1.out).keptB hb2)
          go_wp2_with fail
          refine hK.out _ _ ?_ (fun hHeld => ?_)
          · exact keep12 Q2.out HS0.out
          clear hK K
          try simp only [Act.put, List.setIfInBounds_toArray, List.set_cons_zero, List.set_cons_succ]
          refine wpAnyH_ready (rs := [4]) (by kernel_rfl) (by simp) ?_
          refine AllReadyH.cons (at_list rfl) (fun K hK => ?_) ?_
          · go_simp
            refine hK.out _ _ ?_ (fun hHeld => ?_)
            · exact keep12 (bstep (Q2.out) (bnew _ (.cells #[.int .u8 0, .int .u8 0, .int .u8 0, .int .u8 0, .int .u8 0, .int .u8 0, .int .u8 0, .int .u8 0] 23))) HS0.out
            clear hK K
            try simp only [Act.put, List.setIfInBounds_toArray, List.set_cons_zero, List.set_cons_succ]
            have MA := Lib.hid (Holds.fresh w2 23 #[.int .u8 0, .int .u8 0, .int .u8 0, .int .u8 0, .int .u8 0, .int .u8 0, .int .u8 0, .int .u8 0] (g := w2.heap.size) (by simp))
            have MB := Lib.hid ((LB2.out).laid (.cells #[.int .u8 0, .int .u8 0, .int .u8 0, .int .u8 0, .int .u8 0, .int .u8 0, .int .u8 0, .int .u8 0] 23))
            have QQ := Lib.hid (bstep (Q2.out) (bnew _ (.cells #[.int .u8 0, .int .u8 0, .int .u8 0, .int .u8 0, .int .u8 0, .int .u8 0, .int .u8 0, .int .u8 0] 23)))
            have sz1 := (Q1.out).size
            have sz2 := (Q2.out).size
            have sz3 := hb2.size
            try simp at sz3
            have leA : W0.heap.size ≤ w2.heap.size := by omega
            have leB : W0.heap.size ≤ W0.heap.size := by omega
            have neA : ¬ (w2.heap.size = W0.heap.size) := by first | omega | (have := hb1.size; simp at this; omega)
            have neB : ¬ (W0.heap.size = w2.heap.size) := fun h => neA h.symm
            clear sz1 sz2 sz3
            generalize (w2.alloc (.cells #[.int .u8 0, .int .u8 0, .int .u8 0, .int .u8 0, .int .u8 0, .int .u8 0, .int .u8 0, .int .u8 0] 23)) = V at *
            have la0 := (MA.out).reads (i := 0) rfl
            have laf0 := (MA.out).open_ 0
            have la1 := (MA.out).reads (i := 1) rfl
            have laf1 := (MA.out).open_ 1
            have la2 := (MA.out).reads (i := 2) rfl
            have laf2 := (MA.out).open_ 2
            have la3 := (MA.out).reads (i := 3) rfl
            have laf3 := (MA.out).open_ 3
            have la4 := (MA.out).reads (i := 4) rfl
            have laf4 := (MA.out).open_ 4
            have la5 := (MA.out).reads (i := 5) rfl
            have laf5 := (MA.out).open_ 5
            have la6 := (MA.out).reads (i := 6) rfl
            have laf6 := (MA.out).open_ 6
            have la7 := (MA.out).reads (i := 7) rfl
            have laf7 := (MA.out).open_ 7
            have lb0 := (MB.out).reads (i := 0) rfl
            have lbf0 := (MB.out).open_ 0
            have lb1 := (MB.out).reads (i := 1) rfl
            have lbf1 := (MB.out).open_ 1
            have lb2 := (MB.out).reads (i := 2) rfl
            have lbf2 := (MB.out).open_ 2
            have lb3 := (MB.out).reads (i := 3) rfl
            have lbf3 := (MB.out).open_ 3
            have lb4 := (MB.out).reads (i := 4) rfl
            have lbf4 := (MB.out).open_ 4
            have lb5 := (MB.out).reads (i := 5) rfl
            have lbf5 := (MB.out).open_ 5
            have lb6 := (MB.out).reads (i := 6) rfl
            have lbf6 := (MB.out).open_ 6
            have lb7 := (MB.out).reads (i := 7) rfl
            have lbf7 := (MB.out).open_ 7
            refine wpAnyH_ready (rs := [6]) (by kernel_rfl) (by simp) ?_
            refine AllReadyH.cons (at_list rfl) (fun K hK => ?_) AllReadyH.nil
            go_simp
            refine hK.out _ _ ?_ (fun hHeld => ?_)
            · exact keep12 (bfill8 QQ.out leA _ _ _ _ _ _ _ _) HS0.out
            clear hK K
            try simp only [Act.put, List.setIfInBounds_toArray, List.set_cons_zero, List.set_cons_succ]
            refine wpAnyH_ready (rs := [7]) (by kernel_rfl) (by simp) ?_
            refine AllReadyH.cons (at_list rfl) (fun K hK => ?_) AllReadyH.nil
            go_simp
            refine hK.out _ _ ?_ (fun hHeld => ?_)
            · exact keep12 (bfill8 (bfill8 QQ.out leA _ _ _ _ _ _ _ _) leB _ _ _ _ _ _ _ _) HS0.out
            clear hK K
            try simp only [Act.put, List.setIfInBounds_toArray, List.set_cons_zero, List.set_cons_succ]
            refine wpAnyH_done (by kernel_rfl) ?_ _
            refine NoPanic.normal ?_
            go_wp2_with fail
            go_meet
            exact ⟨_, _, rfl, rfl, ((MA.out).fill8 _ _ _ _ _ _ _ _).fillAside8 neB _ _ _ _ _ _ _ _, ((MB.out).fillAside8 neA _ _ _ _ _ _ _ _).fill8 _ _ _ _ _ _ _ _, bfill8 (bfill8 QQ.out leA _ _ _ _ _ _ _ _) leB _ _ _ _ _ _ _ _⟩
          exact AllReadyH.nil
        refine AllReadyH.cons (at_list rfl) (fun K hK => ?_) ?_
        · go_simp
          refine hK.out _ _ ?_ (fun hHeld => ?_)
          · exact keep12 (bstep (Q1.out) (bnew _ (.cells #[.int .u8 0, .int .u8 0, .int .u8 0, .int .u8 0, .int .u8 0, .int .u8 0, .int .u8 0, .int .u8 0] 23))) HS0.out
          clear hK K
          try simp only [Act.put, List.setIfInBounds_toArray, List.set_cons_zero, List.set_cons_succ]
          refine wpAnyH_ready (rs := [3]) (by kernel_rfl) (by simp) ?_
          refine AllReadyH.cons (at_list rfl) (fun K hK => ?_) ?_
          · go_simp
            refine (C2.out _).mono ?_
            rintro e w2 ⟨rfl, hb2⟩
            have Q2 := Lib.hid (bstep (bstep (Q1.out) (bnew _ (.cells #[.int .u8 0, .int .u8 0, .int .u8 0, .int .u8 0, .int .u8 0, .int .u8 0, .int .u8 0, .int .u8 0] 23))) hb2)
            have LB2 := Lib.hid (((LB1.out).laid (.cells #[.int .u8 0, .int .u8 0, .int .u8 0, .int .u8 0, .int .u8 0, .int .u8 0, .int .u8 0, .int .u8 0] 23)).keptB hb2)
            have LA2 := Lib.hid ((Holds.fresh w1 23 #[.int .u8 0, .int .u8 0, .int .u8 0, .int .u8 0, .int .u8 0, .int .u8 0, .int .u8 0, .int .u8 0] (g := w1.heap.size) (by simp)).keptB hb2)
            go_wp2_with fail
            refine hK.out _ _ ?_ (fun hHeld => ?_)
            · exact keep12 Q2.out HS0.out
            clear hK K
            try simp only [Act.put, List.setIfInBounds_toArray, List.set_cons_zero, List.set_cons_succ]
            have MA := Lib.hid (LA2.out)
            have MB := Lib.hid (LB2.out)
            have QQ := Lib.hid (Q2.out)
            have sz1 := (Q1.out).size
            have sz2 := (Q2.out).size
            have sz3 := hb2.size
            try simp at sz3
            have leA : W0.heap.size ≤ w1.heap.size := by omega
            have leB : W0.heap.size ≤ W0.heap.size := by omega
            have neA : ¬ (w1.heap.size = W0.heap.size) := by first | omega | (have := hb1.size; simp at this; omega)
            have neB : ¬ (W0.heap.size = w1.heap.size) := fun h => neA h.symm
            clear sz1 sz2 sz3
            have la0 := (MA.out).reads (i := 0) rfl
            have laf0 := (MA.out).open_ 0
            have la1 := (MA.out).reads (i := 1) rfl
            have laf1 := (MA.out).open_ 1
            have la2 := (MA.out).reads (i := 2) rfl
            have laf2 := (MA.out).open_ 2
            have la3 := (MA.out).reads (i := 3) rfl
            have laf3 := (MA.out).open_ 3
            have la4 := (MA.out).reads (i := 4) rfl
            have laf4 := (MA.out).open_ 4
            have la5 := (MA.out).reads (i := 5) rfl
            have laf5 := (MA.out).open_ 5
            have la6 := (MA.out).reads (i := 6) rfl
            have laf6 := (MA.out).open_ 6
            have la7 := (MA.out).reads (i := 7) rfl
            have laf7 := (MA.out).open_ 7
            have lb0 := (MB.out).reads (i := 0) rfl
            have lbf0 := (MB.out).open_ 0
            have lb1 := (MB.out).reads (i := 1) rfl
            have lbf1 := (MB.out).open_ 1
            have lb2 := (MB.out).reads (i := 2) rfl
            have lbf2 := (MB.out).open_ 2
            have lb3 := (MB.out).reads (i := 3) rfl
            have lbf3 := (MB.out).open_ 3
            have lb4 := (MB.out).reads (i := 4) rfl
            have lbf4 := (MB.out).open_ 4
            have lb5 := (MB.out).reads (i := 5) rfl
            have lbf5 := (MB.out).open_ 5
            have lb6 := (MB.out).reads (i := 6) rfl
            have lbf6 := (MB.out).open_ 6
            have lb7 := (MB.out).reads (i := 7) rfl
            have lbf7 := (MB.out).open_ 7
            refine wpAnyH_ready (rs := [6]) (by kernel_rfl) (by simp) ?_
            refine AllReadyH.cons (at_list rfl) (fun K hK => ?_) AllReadyH.nil
            go_simp
            refine hK.out _ _ ?_ (fun hHeld => ?_)
            · exact keep12 (bfill8 QQ.out leA _ _ _ _ _ _ _ _) HS0.out
            clear hK K
            try simp only [Act.put, List.setIfInBounds_toArray, List.set_cons_zero, List.set_cons_succ]
            refine wpAnyH_ready (rs := [7]) (by kernel_rfl) (by simp) ?_
            refine AllReadyH.cons (at_list rfl) (fun K hK => ?_) AllReadyH.nil
            go_simp
            refine hK.out _ _ ?_ (fun hHeld => ?_)
            · exact keep12 (bfill8 (bfill8 QQ.out leA _ _ _ _ _ _ _ _) leB _ _ _ _ _ _ _ _) HS0.out
            clear hK K
            try simp only [Act.put, List.setIfInBounds_toArray, List.set_cons_zero, List.set_cons_succ]
            refine wpAnyH_done (by kernel_rfl) ?_ _
            refine NoPanic.normal ?_
            go_wp2_with fail
            go_meet
            exact ⟨_, _, rfl, rfl, ((MA.out).fill8 _ _ _ _ _ _ _ _).fillAside8 neB _ _ _ _ _ _ _ _, ((MB.out).fillAside8 neA _ _ _ _ _ _ _ _).fill8 _ _ _ _ _ _ _ _, bfill8 (bfill8 QQ.out leA _ _ _ _ _ _ _ _) leB _ _ _ _ _ _ _ _⟩
          exact AllReadyH.nil
        exact AllReadyH.nil
      refine AllReadyH.cons (at_list rfl) (fun K hK => ?_) ?_
      · go_simp
        refine hK.out _ _ ?_ (fun hHeld => ?_)
        · exact keep12 (bdrew (bstep (bnew W0 (.cells #[.int .u8 0, .int .u8 0, .int .u8 0, .int .u8 0, .int .u8 0, .int .u8 0, .int .u8 0, .int .u8 0] 23)) (bnew _ (.cells #[.int .u8 0, .int .u8 0, .int .u8 0, .int .u8 0, .int .u8 0, .int .u8 0, .int .u8 0, .int .u8 0] 23)))) HS0.out
        clear hK K
        try simp only [Act.put, List.setIfInBounds_toArray, List.set_cons_zero, List.set_cons_succ]
        refine wpAnyH_ready (rs := [1]) (by kernel_rfl) (by simp) ?_
        refine AllReadyH.cons (at_list rfl) (fun K hK => ?_) ?_
        · go_simp
          refine (C1.out _).mono ?_
          rintro e w1 ⟨rfl, hb1⟩
          have Q1 := Lib.hid (bstep (bdrew (bstep (bnew W0 (.cells #[.int .u8 0, .int .u8 0, .int .u8 0, .int .u8 0, .int .u8 0, .int .u8 0, .int .u8 0, .int .u8 0] 23)) (bnew _ (.cells #[.int .u8 0, .int .u8 0, .int .u8 0, .int .u8 0, .int .u8 0, .int .u8 0, .int .u8 0, .int .u8 0] 23)))) hb1)
          have LB1 := Lib.hid (((((Holds.fresh W0 23 #[.int .u8 0, .int .u8 0, .int .u8 0, .int .u8 0, .int .u8 0, .int .u8 0, .int .u8 0, .int .u8 0] (g := W0.heap.size) (by simp))).laid (.cells #[.int .u8 0, .int .u8 0, .int .u8 0, .int .u8 0, .int .u8 0, .int .u8 0, .int .u8 0, .int .u8 0] 23)).drew).keptB hb1)
          have LA1 := Lib.hid (((Holds.fresh (W0.alloc (.cells #[.int .u8 0, .int .u8 0, .int .u8 0, .int .u8 0, .int .u8 0, .int .u8 0, .int .u8 0, .int .u8 0] 23)) 23 #[.int .u8 0, .int .u8 0, .int .u8 0, .int .u8 0, .int .u8 0, .int .u8 0, .int .u8 0, .int .u8 0] (g := W0.heap.size + 1) (by simp)).drew).keptB hb1)
          go_wp2_with fail
          refine hK.out _ _ ?_ (fun hHeld => ?_)
          · exact keep12 Q1.out HS0.out
          clear hK K
          try simp only [Act.put, List.setIfInBounds_toArray, List.set_cons_zero, List.set_cons_succ]
          refine wpAnyH_ready (rs := [3]) (by kernel_rfl) (by simp) ?_
          refine AllReadyH.cons (at_list rfl) (fun K hK => ?_) ?_
          · go_simp
            refine (C2.out _).mono ?_
            rintro e w2 ⟨rfl, hb2⟩
            have Q2 := Lib.hid (bstep (Q1.out) hb2)
            have LB2 := Lib.hid ((LB1.out).keptB hb2)
            have LA2 := Lib.hid ((LA1.out).keptB hb2)
            go_wp2_with fail
            refine hK.out _ _ ?_ (fun hHeld => ?_)
            · exact keep12 Q2.out HS0.out
            clear hK K
            try simp only [Act.put, List.setIfInBounds_toArray, List.set_cons_zero, List.set_cons_succ]
            have MA := Lib.hid (LA2.out)
            have MB := Lib.hid (LB2.out)
            have QQ := Lib.hid (Q2.out)
            have sz1 := (Q1.out).size
            have sz2 := (Q2.out).size
            have sz3 := hb2.size
            try simp at sz3
            have leA : W0.heap.size ≤ W0.heap.size + 1 := by omega
            have leB : W0.heap.size ≤ W0.heap.size := by omega
            have neA : ¬ (W0.heap.size + 1 = W0.heap.size) := by first | omega | (have := hb1.size; simp at this; omega)
            have neB : ¬ (W0.heap.size = W0.heap.size + 1) := fun h => neA h.symm
            clear sz1 sz2 sz3
            have la0 := (MA.out).reads (i := 0) rfl
            have laf0 := (MA.out).open_ 0
            have la1 := (MA.out).reads (i := 1) rfl
            have laf1 := (MA.out).open_ 1
            have la2 := (MA.out).reads (i := 2) rfl
            have laf2 := (MA.out).open_ 2
            have la3 := (MA.out).reads (i := 3) rfl
            have laf3 := (MA.out).open_ 3
            have la4 := (MA.out).reads (i := 4) rfl
            have laf4 := (MA.out).open_ 4
            have la5 := (MA.out).reads (i := 5) rfl
            have laf5 := (MA.out).open_ 5
            have la6 := (MA.out).reads (i := 6) rfl
            have laf6 := (MA.out).open_ 6
            have la7 := (MA.out).reads (i := 7) rfl
            have laf7 := (MA.out).open_ 7
            have lb0 := (MB.out).reads (i := 0) rfl
            have lbf0 := (MB.out).open_ 0
            have lb1 := (MB.out).reads (i := 1) rfl
            have lbf1 := (MB.out).open_ 1
            have lb2 := (MB.out).reads (i := 2) rfl
            have lbf2 := (MB.out).open_ 2
            have lb3 := (MB.out).reads (i := 3) rfl
            have lbf3 := (MB.out).open_ 3
            have lb4 := (MB.out).reads (i := 4) rfl
            have lbf4 := (MB.out).open_ 4
            have lb5 := (MB.out).reads (i := 5) rfl
            have lbf5 := (MB.out).open_ 5
            have lb6 := (MB.out).reads (i := 6) rfl
            have lbf6 := (MB.out).open_ 6
            have lb7 := (MB.out).reads (i := 7) rfl
            have lbf7 := (MB.out).open_ 7
            refine wpAnyH_ready (rs := [6]) (by kernel_rfl) (by simp) ?_
            refine AllReadyH.cons (at_list rfl) (fun K hK => ?_) AllReadyH.nil
            go_simp
            refine hK.out _ _ ?_ (fun hHeld => ?_)
            · exact keep12 (bfill8 QQ.out leA _ _ _ _ _ _ _ _) HS0.out
            clear hK K
            try simp only [Act.put, List.setIfInBounds_toArray, List.set_cons_zero, List.set_cons_succ]
            refine wpAnyH_ready (rs := [7]) (by kernel_rfl) (by simp) ?_
            refine AllReadyH.cons (at_list rfl) (fun K hK => ?_) AllReadyH.nil
            go_simp
            refine hK.out _ _ ?_ (fun hHeld => ?_)
            · exact keep12 (bfill8 (bfill8 QQ.out leA _ _ _ _ _ _ _ _) leB _ _ _ _ _ _ _ _) HS0.out
            clear hK K
            try simp only [Act.put, List.setIfInBounds_toArray, List.set_cons_zero, List.set_cons_succ]
            refine wpAnyH_done (by kernel_rfl) ?_ _
            refine NoPanic.normal ?_
            go_wp2_with fail
            go_meet
            exact ⟨_, _, rfl, rfl, ((MA.out).fill8 _ _ _ _ _ _ _ _).fillAside8 neB _ _ _ _ _ _ _ _, ((MB.out).fillAside8 neA _ _ _ _ _ _ _ _).fill8 _ _ _ _ _ _ _ _, bfill8 (bfill8 QQ.out leA _ _ _ _ _ _ _ _) leB _ _ _ _ _ _ _ _⟩
          exact AllReadyH.nil
        exact AllReadyH.nil
      exact AllReadyH.nil
    exact AllReadyH.nil
  case rest =>
    obtain ⟨g5, g6, rfl, rfl, K5, K6, hb⟩ := hcut
    replace K2 := Lib.hid ((K2.out).keptB hb.out)
    replace K3 := Lib.hid ((K3.out).keptB hb.out)
    replace HB := Lib.hid (bstep HB.out hb.out)
    clear hb HS0
    clear x1_0 x1_1 x1_2 x1_3 x1_4 x1_5 x2_0 x2_1 x2_2 x2_3 x2_4 x2_5
    have hq1 := HQ1.out
    have hq2 := HQ2.out
    go_wp2_with fail
    have x3_0 := (K5.out).reads (i := 0) rfl
    have x3_1 := (K5.out).reads (i := 1) rfl
    have x3_2 := (K5.out).reads (i := 2) rfl
    have x3_3 := (K5.out).reads (i := 3) rfl
    have x3_4 := (K5.out).reads (i := 4) rfl
    have x3_5 := (K5.out).reads (i := 5) rfl
    have x3_6 := (K5.out).reads (i := 6) rfl
    have x3_7 := (K5.out).reads (i := 7) rfl
    have x4_0 := (K6.out).reads (i := 0) rfl
    have x4_1 := (K6.out).reads (i := 1) rfl
    have x4_2 := (K6.out).reads (i := 2) rfl
    have x4_3 := (K6.out).reads (i := 3) rfl
    have x4_4 := (K6.out).reads (i := 4) rfl
    have x4_5 := (K6.out).reads (i := 5) rfl
    have x4_6 := (K6.out).reads (i := 6) rfl
    have x4_7 := (K6.out).reads (i := 7) rfl
    have x5_0 := (K2.out).reads (i := 0) rfl
    have x5_1 := (K2.out).reads (i := 1) rfl
    have x5_2 := (K2.out).reads (i := 2) rfl
    have x5_3 := (K2.out).reads (i := 3) rfl
    have x5_4 := (K2.out).reads (i := 4) rfl
    have x5_5 := (K2.out).reads (i := 5) rfl
    have x6_0 := (K3.out).reads (i := 0) rfl
    have x6_1 := (K3.out).reads (i := 1) rfl
    have x6_2 := (K3.out).reads (i := 2) rfl
    have x6_3 := (K3.out).reads (i := 3) rfl
    have x6_4 := (K3.out).reads (i := 4) rfl
    have x6_5 := (K3.out).reads (i := 5) rfl
    go_region_held3 (fun v => v.cell? ⟨g5, 0, none⟩ = some (.int .u8 a0) ∧ v.cell? ⟨g5, 1, none⟩ = some (.int .u8 a1) ∧ v.cell? ⟨g5, 2, none⟩ = some (.int .u8 a2) ∧ v.cell? ⟨g5, 3, none⟩ = some (.int .u8 255) ∧ v.cell? ⟨g5, 4, none⟩ = some (.int .u8 254) ∧ v.cell? ⟨g5, 5, none⟩ = some (.int .u8 a3) ∧ v.cell? ⟨g5, 6, none⟩ = some (.int .u8 a4) ∧ v.cell? ⟨g5, 7, none⟩ = some (.int .u8 a5) ∧ v.cell? ⟨g6, 0, none⟩ = some (.int .u8 b0) ∧ v.cell? ⟨g6, 1, none⟩ = some (.int .u8 b1) ∧ v.cell? ⟨g6, 2, none⟩ = some (.int .u8 b2) ∧ v.cell? ⟨g6, 3, none⟩ = some (.int .u8 255) ∧ v.cell? ⟨g6, 4, none⟩ = some (.int .u8 254) ∧ v.cell? ⟨g6, 5, none⟩ = some (.int .u8 b3) ∧ v.cell? ⟨g6, 6, none⟩ = some (.int .u8 b4) ∧ v.cell? ⟨g6, 7, none⟩ = some (.int .u8 b5) ∧ v.cell? ⟨w.heap.size, 0, none⟩ = some (.int .u8 a0) ∧ v.cell? ⟨w.heap.size, 1, none⟩ = some (.int .u8 a1) ∧ v.cell? ⟨w.heap.size, 2, none⟩ = some (.int .u8 a2) ∧ v.cell? ⟨w.heap.size, 3, none⟩ = some (.int .u8 a3) ∧ v.cell? ⟨w.heap.size, 4, none⟩ = some (.int .u8 a4) ∧ v.cell? ⟨w.heap.size, 5, none⟩ = some (.int .u8 a5) ∧ v.cell? ⟨w.heap.size + 1, 0, none⟩ = some (.int .u8 b0) ∧ v.cell? ⟨w.heap.size + 1, 1, none⟩ = some (.int .u8 b1) ∧ v.cell? ⟨w.heap.size + 1, 2, none⟩ = some (.int .u8 b2) ∧ v.cell? ⟨w.heap.size + 1, 3, none⟩ = some (.int .u8 b3) ∧ v.cell? ⟨w.heap.size + 1, 4, none⟩ = some (.int .u8 b4) ∧ v.cell? ⟨w.heap.size + 1, 5, none⟩ = some (.int .u8 b5))
      (first | (with_reducible exact keep28 (by assumption) (by assumption)) | (with_reducible exact keep28 (bnew _ _) (by assumption)) | (exact ⟨x3_0, x3_1, x3_2, x3_3, x3_4, x3_5, x3_6, x3_7, x4_0, x4_1, x4_2, x4_3, x4_4, x4_5, x4_6, x4_7, x5_0, x5_1, x5_2, x5_3, x5_4, x5_5, x6_0, x6_1, x6_2, x6_3, x6_4, x6_5⟩) | go_keep)
      (first
        | (go_at_call 14; (with_reducible refine (alive4_any _).mono ?_); rintro e v7_0 ⟨rfl, hv7_0⟩)
        | (go_at_call 15; (with_reducible refine (CZ.out _).mono ?_); rintro e v7_1 ⟨rfl, hv7_1⟩))
    have HV8 := Lib.hid (bstep (bstep (bdrew (Below.refl (wc).heap.size wc)) hv7_0) hv7_1)
    clear x3_0 x3_1 x3_2 x3_3 x3_4 x3_5 x3_6 x3_7 x4_0 x4_1 x4_2 x4_3 x4_4 x4_5 x4_6 x4_7 x5_0 x5_1 x5_2 x5_3 x5_4 x5_5 x6_0 x6_1 x6_2 x6_3 x6_4 x6_5
    replace K2 := Lib.hid ((K2.out).keptB HV8.out)
    replace K3 := Lib.hid ((K3.out).keptB HV8.out)
    replace K5 := Lib.hid ((K5.out).keptB HV8.out)
    replace K6 := Lib.hid ((K6.out).keptB HV8.out)
    replace HB := Lib.hid (bstep HB.out HV8.out)
    clear hv7_0 hv7_1 HV8
    go_wp2
    go_ret
    exact ⟨rfl, HB.out⟩

end Go.Proofs.Ytbiglmpibdlhmaa
