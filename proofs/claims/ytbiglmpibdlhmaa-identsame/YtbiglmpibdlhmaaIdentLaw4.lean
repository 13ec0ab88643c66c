/- The walk over the law IdentSame. -/
import Derived.Test.YtbiglmpibdlhmaaIdentAlive
import Derived.Test.YtbiglmpibdlhmaaByHand
import Derived.Test.YtbiglmpibdlhmaaKeep2
namespace Go.Proofs.Ytbiglmpibdlhmaa
open Go.RowKit
set_option linter.unusedVariables false

/-- ports' bytes stand in the order of the ports -/
theorem put_less {a b : Pt} (ha : a.c.ok) (hb : b.c.ok) (fa : fitB a.n = true) (fb : fitB b.n = true) :
    Op.bytesLess (strOfNums (ptL a)).toList (strOfNums (ptL b)).toList = decide (cmpP a b < 0) := by
  rw [str_toList, str_toList, less_bytes _ _ (by rw [ptL_length, ptL_length]) (ptL_byte a ha) (ptL_byte b hb)]
  have na := fitB_iff.1 fa
  have nb := fitB_iff.1 fb
  have ea : beN (ptL a) = beN a.c.l * 65536 + a.n := by
    unfold ptL
    rw [beN_append, beL_length, beN_beL 2 a.n na.1 (by have : (256 : Int) ^ 2 = 65536 := by decide
                                                       omega)]
    have : (256 : Int) ^ 2 = 65536 := by decide
    rw [this]
  have eb : beN (ptL b) = beN b.c.l * 65536 + b.n := by
    unfold ptL
    rw [beN_append, beL_length, beN_beL 2 b.n nb.1 (by have : (256 : Int) ^ 2 = 65536 := by decide
                                                       omega)]
    have : (256 : Int) ^ 2 = 65536 := by decide
    rw [this]
  rw [ea, eb]
  congr 1
  apply propext
  rw [cmpP_lt ha hb]
  omega

set_option maxRecDepth 100000 in
set_option maxHeartbeats 4000000 in
theorem same4_walk (a b : Pt) (c0 c1 c2 c3 c4 c5 : Int) (ha : a.c.ok) (hb : b.c.ok) (w : World) :
    Calls Try.prog 6 #[.agg #[.int .u8 a.c.b0, .int .u8 a.c.b1, .int .u8 a.c.b2, .int .u8 a.c.b3, .int .u8 a.c.b4, .int .u8 a.c.b5, .int .u8 a.c.b6, .int .u8 a.c.b7, .int .i64 a.n], .agg #[.int .u8 b.c.b0, .int .u8 b.c.b1, .int .u8 b.c.b2, .int .u8 b.c.b3, .int .u8 b.c.b4, .int .u8 b.c.b5, .int .u8 b.c.b6, .int .u8 b.c.b7, .int .i64 b.n], .agg #[.int .u8 c0, .int .u8 c1, .int .u8 c2, .int .u8 c3, .int .u8 c4, .int .u8 c5]] w fun e w' => e = .returned (.bool true) ∧ Below w.heap.size w w' := by
  obtain ⟨m, Hm⟩ : ∃ m, Hid (cmpP a b = m) := ⟨_, Lib.hid rfl⟩
  obtain ⟨n, Hn⟩ : ∃ n, Hid (cmpC a.c b.c = n) := ⟨_, Lib.hid rfl⟩
  obtain ⟨S1, HS1⟩ : ∃ S1, Hid (strOfNums (hexL a.c.l) = S1) := ⟨_, Lib.hid rfl⟩
  obtain ⟨S2, HS2⟩ : ∃ S2, Hid (strOfNums (hexL b.c.l) = S2) := ⟨_, Lib.hid rfl⟩
  obtain ⟨D2, HD2⟩ : ∃ D2, Hid (decide (cmpC a.c b.c < 0) = D2) := ⟨_, Lib.hid rfl⟩
  have C1 : Hid (∀ v, Calls Try.prog 11 #[.agg #[.int .u8 a.c.b0, .int .u8 a.c.b1, .int .u8 a.c.b2, .int .u8 a.c.b3, .int .u8 a.c.b4, .int .u8 a.c.b5, .int .u8 a.c.b6, .int .u8 a.c.b7, .int .i64 a.n], .agg #[.int .u8 b.c.b0, .int .u8 b.c.b1, .int .u8 b.c.b2, .int .u8 b.c.b3, .int .u8 b.c.b4, .int .u8 b.c.b5, .int .u8 b.c.b6, .int .u8 b.c.b7, .int .i64 b.n]] v fun e w' => e = .returned (.int .i64 m) ∧ Below v.heap.size v w') := by rw [← Hm.out]; exact fun v => ports_any a b v ha hb
  have C2 : Hid (∀ v, Calls Try.prog 10 #[.agg #[.int .u8 a.c.b0, .int .u8 a.c.b1, .int .u8 a.c.b2, .int .u8 a.c.b3, .int .u8 a.c.b4, .int .u8 a.c.b5, .int .u8 a.c.b6, .int .u8 a.c.b7], .agg #[.int .u8 b.c.b0, .int .u8 b.c.b1, .int .u8 b.c.b2, .int .u8 b.c.b3, .int .u8 b.c.b4, .int .u8 b.c.b5, .int .u8 b.c.b6, .int .u8 b.c.b7]] v fun e w' => e = .returned (.int .i64 n) ∧ Below v.heap.size v w') := by rw [← Hn.out]; exact fun v => compare_any a.c b.c v
  have C3 : Hid (∀ v, Calls Try.prog 18 #[.agg #[.int .u8 a.c.b0, .int .u8 a.c.b1, .int .u8 a.c.b2, .int .u8 a.c.b3, .int .u8 a.c.b4, .int .u8 a.c.b5, .int .u8 a.c.b6, .int .u8 a.c.b7]] v fun e w' => e = .returned (.string S1) ∧ Below v.heap.size v w') := by rw [← HS1.out]; exact fun v => text_any a.c ha v
  have C4 : Hid (∀ v, Calls Try.prog 18 #[.agg #[.int .u8 b.c.b0, .int .u8 b.c.b1, .int .u8 b.c.b2, .int .u8 b.c.b3, .int .u8 b.c.b4, .int .u8 b.c.b5, .int .u8 b.c.b6, .int .u8 b.c.b7]] v fun e w' => e = .returned (.string S2) ∧ Below v.heap.size v w') := by rw [← HS2.out]; exact fun v => text_any b.c hb v
  have C5 := Lib.hid (ofc_any c0 c1 c2 c3 c4 c5)
  have C6 := Lib.hid (rofc_any c0 c1 c2 c3 c4 c5)
  have HL1 : Hid (decide (n < 0) = D2) := by rw [Hid, ← HD2.out, Hn.out]
  have HL2 : Hid (Op.bytesLess S1.toList S2.toList = D2) := by
    rw [Hid, ← HS1.out, ← HS2.out, ← HD2.out, str_toList, str_toList]
    exact hex_less a.c.l b.c.l rfl ha hb
  have HQ : Hid (∀ w, (binOp .eql 23 (.agg #[.int .u8 c0, .int .u8 c1, .int .u8 c2, .int .u8 255, .int .u8 254, .int .u8 c3, .int .u8 c4, .int .u8 c5]) (.agg #[.int .u8 c0, .int .u8 c1, .int .u8 c2, .int .u8 255, .int .u8 254, .int .u8 c3, .int .u8 c4, .int .u8 c5])).run Try.prog w = .ok (.bool true) w) := by
    intro w
    have h := eql_clock (ofC c0 c1 c2 c3 c4 c5) (ofC c0 c1 c2 c3 c4 c5) w
    rw [eqC_self] at h
    exact h
  cases hA : fitB a.n
  · cases hBf : fitB b.n
    · have HA := Lib.hid hA
      have HBf := Lib.hid hBf
      clear ha hb hA hBf
      have K3 := Lib.hid (Holds.fresh w 25 #[.int .u8 a.c.b0, .int .u8 a.c.b1, .int .u8 a.c.b2, .int .u8 a.c.b3, .int .u8 a.c.b4, .int .u8 a.c.b5, .int .u8 a.c.b6, .int .u8 a.c.b7, .int .i64 a.n] (g := w.heap.size) (by simp))
      replace K3 := Lib.hid ((K3.out).laid (.cells #[.int .u8 b.c.b0, .int .u8 b.c.b1, .int .u8 b.c.b2, .int .u8 b.c.b3, .int .u8 b.c.b4, .int .u8 b.c.b5, .int .u8 b.c.b6, .int .u8 b.c.b7, .int .i64 b.n] 25))
      replace K3 := Lib.hid ((K3.out).laid (.cells #[.int .u8 c0, .int .u8 c1, .int .u8 c2, .int .u8 c3, .int .u8 c4, .int .u8 c5] 41))
      have K4 := Lib.hid (Holds.fresh (w.alloc (.cells #[.int .u8 a.c.b0, .int .u8 a.c.b1, .int .u8 a.c.b2, .int .u8 a.c.b3, .int .u8 a.c.b4, .int .u8 a.c.b5, .int .u8 a.c.b6, .int .u8 a.c.b7, .int .i64 a.n] 25)) 25 #[.int .u8 b.c.b0, .int .u8 b.c.b1, .int .u8 b.c.b2, .int .u8 b.c.b3, .int .u8 b.c.b4, .int .u8 b.c.b5, .int .u8 b.c.b6, .int .u8 b.c.b7, .int .i64 b.n] (g := w.heap.size + 1) (by simp))
      replace K4 := Lib.hid ((K4.out).laid (.cells #[.int .u8 c0, .int .u8 c1, .int .u8 c2, .int .u8 c3, .int .u8 c4, .int .u8 c5] 41))
      have K5 := Lib.hid (Holds.fresh ((w.alloc (.cells #[.int .u8 a.c.b0, .int .u8 a.c.b1, .int .u8 a.c.b2, .int .u8 a.c.b3, .int .u8 a.c.b4, .int .u8 a.c.b5, .int .u8 a.c.b6, .int .u8 a.c.b7, .int .i64 a.n] 25)).alloc (.cells #[.int .u8 b.c.b0, .int .u8 b.c.b1, .int .u8 b.c.b2, .int .u8 b.c.b3, .int .u8 b.c.b4, .int .u8 b.c.b5, .int .u8 b.c.b6, .int .u8 b.c.b7, .int .i64 b.n] 25)) 41 #[.int .u8 c0, .int .u8 c1, .int .u8 c2, .int .u8 c3, .int .u8 c4, .int .u8 c5] (g := w.heap.size + 1 + 1) (by simp))
      have HB := Lib.hid (bstep (bstep (bnew w (.cells #[.int .u8 a.c.b0, .int .u8 a.c.b1, .int .u8 a.c.b2, .int .u8 a.c.b3, .int .u8 a.c.b4, .int .u8 a.c.b5, .int .u8 a.c.b6, .int .u8 a.c.b7, .int .i64 a.n] 25)) (bnew _ (.cells #[.int .u8 b.c.b0, .int .u8 b.c.b1, .int .u8 b.c.b2, .int .u8 b.c.b3, .int .u8 b.c.b4, .int .u8 b.c.b5, .int .u8 b.c.b6, .int .u8 b.c.b7, .int .i64 b.n] 25))) (bnew _ (.cells #[.int .u8 c0, .int .u8 c1, .int .u8 c2, .int .u8 c3, .int .u8 c4, .int .u8 c5] 41)))
      go_enter Try.func6, Try.ntmps6
      go_wp2_with fail
      generalize (((w.alloc (.cells #[.int .u8 a.c.b0, .int .u8 a.c.b1, .int .u8 a.c.b2, .int .u8 a.c.b3, .int .u8 a.c.b4, .int .u8 a.c.b5, .int .u8 a.c.b6, .int .u8 a.c.b7, .int .i64 a.n] 25)).alloc (.cells #[.int .u8 b.c.b0, .int .u8 b.c.b1, .int .u8 b.c.b2, .int .u8 b.c.b3, .int .u8 b.c.b4, .int .u8 b.c.b5, .int .u8 b.c.b6, .int .u8 b.c.b7, .int .i64 b.n] 25)).alloc (.cells #[.int .u8 c0, .int .u8 c1, .int .u8 c2, .int .u8 c3, .int .u8 c4, .int .u8 c5] 41)) = W0 at *
      have x1_0 := (K3.out).reads (i := 0) rfl
      have x1_1 := (K3.out).reads (i := 1) rfl
      have x1_2 := (K3.out).reads (i := 2) rfl
      have x1_3 := (K3.out).reads (i := 3) rfl
      have x1_4 := (K3.out).reads (i := 4) rfl
      have x1_5 := (K3.out).reads (i := 5) rfl
      have x1_6 := (K3.out).reads (i := 6) rfl
      have x1_7 := (K3.out).reads (i := 7) rfl
      have x1_8 := (K3.out).reads (i := 8) rfl
      refine (idput_no a _ HA.out).mono ?_
      rintro e w2 ⟨rfl, hb1⟩
      clear x1_0 x1_1 x1_2 x1_3 x1_4 x1_5 x1_6 x1_7 x1_8
      replace K3 := Lib.hid ((K3.out).keptB hb1)
      replace K4 := Lib.hid ((K4.out).keptB hb1)
      replace K5 := Lib.hid ((K5.out).keptB hb1)
      replace HB := Lib.hid (bstep HB.out hb1)
      clear hb1
      have x3_0 := (K4.out).reads (i := 0) rfl
      have x3_1 := (K4.out).reads (i := 1) rfl
      have x3_2 := (K4.out).reads (i := 2) rfl
      have x3_3 := (K4.out).reads (i := 3) rfl
      have x3_4 := (K4.out).reads (i := 4) rfl
      have x3_5 := (K4.out).reads (i := 5) rfl
      have x3_6 := (K4.out).reads (i := 6) rfl
      have x3_7 := (K4.out).reads (i := 7) rfl
      have x3_8 := (K4.out).reads (i := 8) rfl
      go_wp2_with fail
      refine (idput_no b _ HBf.out).mono ?_
      rintro e w4 ⟨rfl, hb1⟩
      clear x3_0 x3_1 x3_2 x3_3 x3_4 x3_5 x3_6 x3_7 x3_8
      replace K3 := Lib.hid ((K3.out).keptB hb1)
      replace K4 := Lib.hid ((K4.out).keptB hb1)
      replace K5 := Lib.hid ((K5.out).keptB hb1)
      replace HB := Lib.hid (bstep HB.out hb1)
      clear hb1
      go_wp2_with fail
      have x5_0 := (K5.out).reads (i := 0) rfl
      have x5_1 := (K5.out).reads (i := 1) rfl
      have x5_2 := (K5.out).reads (i := 2) rfl
      have x5_3 := (K5.out).reads (i := 3) rfl
      have x5_4 := (K5.out).reads (i := 4) rfl
      have x5_5 := (K5.out).reads (i := 5) rfl
      refine wp_region_held_drew (S := fun v => v.cell? ⟨w.heap.size + 1 + 1, 0, none⟩ = some (.int .u8 c0) ∧ v.cell? ⟨w.heap.size + 1 + 1, 1, none⟩ = some (.int .u8 c1) ∧ v.cell? ⟨w.heap.size + 1 + 1, 2, none⟩ = some (.int .u8 c2) ∧ v.cell? ⟨w.heap.size + 1 + 1, 3, none⟩ = some (.int .u8 c3) ∧ v.cell? ⟨w.heap.size + 1 + 1, 4, none⟩ = some (.int .u8 c4) ∧ v.cell? ⟨w.heap.size + 1 + 1, 5, none⟩ = some (.int .u8 c5)) (by kernel_rfl) ?_ (fun hHeld => ?_)
      · exact ⟨x5_0, x5_1, x5_2, x5_3, x5_4, x5_5⟩
      refine wpAnyH_take (i := 0) (v := .bool false) (at_list rfl) (by kernel_rfl) (by kernel_rfl) (by kernel_rfl) (fun _ _ _ h => h) (Or.inl ⟨by rfl, ?_⟩) (by assumption) ?_
      · intro v hSv
        obtain ⟨q0, q1, q2, q3, q4, q5⟩ := hSv
        go_simp
      try simp only [Act.put, List.setIfInBounds_toArray, List.set_cons_zero, List.set_cons_succ]
      refine wpAnyH_take (i := 1) (v := .bool false) (at_list rfl) (by kernel_rfl) (by kernel_rfl) (by kernel_rfl) (fun _ _ _ h => h) (Or.inl ⟨by rfl, ?_⟩) (by assumption) ?_
      · intro v hSv
        obtain ⟨q0, q1, q2, q3, q4, q5⟩ := hSv
        go_simp
      try simp only [Act.put, List.setIfInBounds_toArray, List.set_cons_zero, List.set_cons_succ]
      refine wpAnyH_take (i := 2) (v := undef) (at_list rfl) (by kernel_rfl) (by kernel_rfl) (by kernel_rfl) (fun _ _ _ h => h) (Or.inr ⟨by rfl, rfl⟩) (by assumption) ?_
      try simp only [Act.put, List.setIfInBounds_toArray, List.set_cons_zero, List.set_cons_succ]
      refine wpAnyH_take (i := 3) (v := .bool false) (at_list rfl) (by kernel_rfl) (by kernel_rfl) (by kernel_rfl) (fun _ _ _ h => h) (Or.inl ⟨by rfl, ?_⟩) (by assumption) ?_
      · intro v hSv
        obtain ⟨q0, q1, q2, q3, q4, q5⟩ := hSv
        go_simp
      try simp only [Act.put, List.setIfInBounds_toArray, List.set_cons_zero, List.set_cons_succ]
      refine wpAnyH_take (i := 4) (v := .bool false) (at_list rfl) (by kernel_rfl) (by kernel_rfl) (by kernel_rfl) (fun _ _ _ h => h) (Or.inl ⟨by rfl, ?_⟩) (by assumption) ?_
      · intro v hSv
        obtain ⟨q0, q1, q2, q3, q4, q5⟩ := hSv
        go_simp
      try simp only [Act.put, List.setIfInBounds_toArray, List.set_cons_zero, List.set_cons_succ]
      refine wpAnyH_take (i := 5) (v := undef) (at_list rfl) (by kernel_rfl) (by kernel_rfl) (by kernel_rfl) (fun _ _ _ h => h) (Or.inr ⟨by rfl, rfl⟩) (by assumption) ?_
      try simp only [Act.put, List.setIfInBounds_toArray, List.set_cons_zero, List.set_cons_succ]
      refine wpAnyH_take (i := 6) (v := undef) (at_list rfl) (by kernel_rfl) (by kernel_rfl) (by kernel_rfl) (fun _ _ _ h => h) (Or.inr ⟨by rfl, rfl⟩) (by assumption) ?_
      try simp only [Act.put, List.setIfInBounds_toArray, List.set_cons_zero, List.set_cons_succ]
      refine wpAnyH_take (i := 7) (v := undef) (at_list rfl) (by kernel_rfl) (by kernel_rfl) (by kernel_rfl) (fun _ _ _ h => h) (Or.inr ⟨by rfl, rfl⟩) (by assumption) ?_
      try simp only [Act.put, List.setIfInBounds_toArray, List.set_cons_zero, List.set_cons_succ]
      refine wpAnyH_take (i := 8) (v := undef) (at_list rfl) (by kernel_rfl) (by kernel_rfl) (by kernel_rfl) (fun _ _ _ h => h) (Or.inr ⟨by rfl, rfl⟩) (by assumption) ?_
      try simp only [Act.put, List.setIfInBounds_toArray, List.set_cons_zero, List.set_cons_succ]
      refine wpAnyH_take (i := 9) (v := undef) (at_list rfl) (by kernel_rfl) (by kernel_rfl) (by kernel_rfl) (fun _ _ _ h => h) (Or.inr ⟨by rfl, rfl⟩) (by assumption) ?_
      try simp only [Act.put, List.setIfInBounds_toArray, List.set_cons_zero, List.set_cons_succ]
      refine wpAnyH_take (i := 10) (v := undef) (at_list rfl) (by kernel_rfl) (by kernel_rfl) (by kernel_rfl) (fun _ _ _ h => h) (Or.inr ⟨by rfl, rfl⟩) (by assumption) ?_
      try simp only [Act.put, List.setIfInBounds_toArray, List.set_cons_zero, List.set_cons_succ]
      refine wpAnyH_take (i := 11) (v := undef) (at_list rfl) (by kernel_rfl) (by kernel_rfl) (by kernel_rfl) (fun _ _ _ h => h) (Or.inr ⟨by rfl, rfl⟩) (by assumption) ?_
      try simp only [Act.put, List.setIfInBounds_toArray, List.set_cons_zero, List.set_cons_succ]
      refine wpAnyH_take (i := 12) (v := undef) (at_list rfl) (by kernel_rfl) (by kernel_rfl) (by kernel_rfl) (fun _ _ _ h => h) (Or.inr ⟨by rfl, rfl⟩) (by assumption) ?_
      try simp only [Act.put, List.setIfInBounds_toArray, List.set_cons_zero, List.set_cons_succ]
      refine wpAnyH_take (i := 13) (v := undef) (at_list rfl) (by kernel_rfl) (by kernel_rfl) (by kernel_rfl) (fun _ _ _ h => h) (Or.inr ⟨by rfl, rfl⟩) (by assumption) ?_
      try simp only [Act.put, List.setIfInBounds_toArray, List.set_cons_zero, List.set_cons_succ]
      refine wpAnyH_take (i := 14) (v := undef) (at_list rfl) (by kernel_rfl) (by kernel_rfl) (by kernel_rfl) (fun _ _ _ h => h) (Or.inr ⟨by rfl, rfl⟩) (by assumption) ?_
      try simp only [Act.put, List.setIfInBounds_toArray, List.set_cons_zero, List.set_cons_succ]
      refine wpAnyH_take (i := 15) (v := .bool false) (at_list rfl) (by kernel_rfl) (by kernel_rfl) (by kernel_rfl) (fun _ _ _ h => h) (Or.inl ⟨by rfl, ?_⟩) (by assumption) ?_
      · intro v hSv
        obtain ⟨q0, q1, q2, q3, q4, q5⟩ := hSv
        go_simp
      try simp only [Act.put, List.setIfInBounds_toArray, List.set_cons_zero, List.set_cons_succ]
      refine wpAnyH_done (by kernel_rfl) ?_ _
      have HV7 := Lib.hid (bdrew (Below.refl (w4).heap.size w4))
      clear x5_0 x5_1 x5_2 x5_3 x5_4 x5_5
      replace K3 := Lib.hid ((K3.out).keptB HV7.out)
      replace K4 := Lib.hid ((K4.out).keptB HV7.out)
      replace K5 := Lib.hid ((K5.out).keptB HV7.out)
      replace HB := Lib.hid (bstep HB.out HV7.out)
      clear HV7
      have x8_0 := (K5.out).reads (i := 0) rfl
      have x8_1 := (K5.out).reads (i := 1) rfl
      have x8_2 := (K5.out).reads (i := 2) rfl
      have x8_3 := (K5.out).reads (i := 3) rfl
      have x8_4 := (K5.out).reads (i := 4) rfl
      have x8_5 := (K5.out).reads (i := 5) rfl
      go_wp2_with fail
      refine (C5.out _).mono ?_
      rintro e w9 ⟨rfl, hw9⟩
      clear x8_0 x8_1 x8_2 x8_3 x8_4 x8_5
      replace K3 := Lib.hid ((K3.out).keptB hw9)
      replace K4 := Lib.hid ((K4.out).keptB hw9)
      replace K5 := Lib.hid ((K5.out).keptB hw9)
      replace HB := Lib.hid (bstep HB.out hw9)
      clear hw9
      replace K3 := Lib.hid ((K3.out).laid (.cells #[.int .u8 c0, .int .u8 c1, .int .u8 c2, .int .u8 255, .int .u8 254, .int .u8 c3, .int .u8 c4, .int .u8 c5] 23))
      replace K4 := Lib.hid ((K4.out).laid (.cells #[.int .u8 c0, .int .u8 c1, .int .u8 c2, .int .u8 255, .int .u8 254, .int .u8 c3, .int .u8 c4, .int .u8 c5] 23))
      replace K5 := Lib.hid ((K5.out).laid (.cells #[.int .u8 c0, .int .u8 c1, .int .u8 c2, .int .u8 255, .int .u8 254, .int .u8 c3, .int .u8 c4, .int .u8 c5] 23))
      have K11 := Lib.hid (Holds.fresh w9 23 #[.int .u8 c0, .int .u8 c1, .int .u8 c2, .int .u8 255, .int .u8 254, .int .u8 c3, .int .u8 c4, .int .u8 c5] (g := (w9).heap.size) rfl)
      replace HB := Lib.hid (bstep HB.out (bnew _ (.cells #[.int .u8 c0, .int .u8 c1, .int .u8 c2, .int .u8 255, .int .u8 254, .int .u8 c3, .int .u8 c4, .int .u8 c5] 23)))
      go_wp2_with fail
      obtain ⟨g11, hg11⟩ : ∃ g, (w9).heap.size = g := ⟨_, rfl⟩
      rw [hg11] at K11 ⊢
      clear hg11
      generalize (w9.alloc (.cells #[.int .u8 c0, .int .u8 c1, .int .u8 c2, .int .u8 255, .int .u8 254, .int .u8 c3, .int .u8 c4, .int .u8 c5] 23)) = V9 at *
      have hl1 := HL1.out
      have hl2 := HL2.out
      have hq := HQ.out
      have x10_0 := (K3.out).reads (i := 0) rfl
      have x10_1 := (K3.out).reads (i := 1) rfl
      have x10_2 := (K3.out).reads (i := 2) rfl
      have x10_3 := (K3.out).reads (i := 3) rfl
      have x10_4 := (K3.out).reads (i := 4) rfl
      have x10_5 := (K3.out).reads (i := 5) rfl
      have x10_6 := (K3.out).reads (i := 6) rfl
      have x10_7 := (K3.out).reads (i := 7) rfl
      have x10_8 := (K3.out).reads (i := 8) rfl
      have x11_0 := (K4.out).reads (i := 0) rfl
      have x11_1 := (K4.out).reads (i := 1) rfl
      have x11_2 := (K4.out).reads (i := 2) rfl
      have x11_3 := (K4.out).reads (i := 3) rfl
      have x11_4 := (K4.out).reads (i := 4) rfl
      have x11_5 := (K4.out).reads (i := 5) rfl
      have x11_6 := (K4.out).reads (i := 6) rfl
      have x11_7 := (K4.out).reads (i := 7) rfl
      have x11_8 := (K4.out).reads (i := 8) rfl
      have x12_0 := (K11.out).reads (i := 0) rfl
      have x12_1 := (K11.out).reads (i := 1) rfl
      have x12_2 := (K11.out).reads (i := 2) rfl
      have x12_3 := (K11.out).reads (i := 3) rfl
      have x12_4 := (K11.out).reads (i := 4) rfl
      have x12_5 := (K11.out).reads (i := 5) rfl
      have x12_6 := (K11.out).reads (i := 6) rfl
      have x12_7 := (K11.out).reads (i := 7) rfl
      have x13_0 := (K5.out).reads (i := 0) rfl
      have x13_1 := (K5.out).reads (i := 1) rfl
      have x13_2 := (K5.out).reads (i := 2) rfl
      have x13_3 := (K5.out).reads (i := 3) rfl
      have x13_4 := (K5.out).reads (i := 4) rfl
      have x13_5 := (K5.out).reads (i := 5) rfl
      go_region_held3 (fun v => v.cell? ⟨w.heap.size, 0, none⟩ = some (.int .u8 a.c.b0) ∧ v.cell? ⟨w.heap.size, 1, none⟩ = some (.int .u8 a.c.b1) ∧ v.cell? ⟨w.heap.size, 2, none⟩ = some (.int .u8 a.c.b2) ∧ v.cell? ⟨w.heap.size, 3, none⟩ = some (.int .u8 a.c.b3) ∧ v.cell? ⟨w.heap.size, 4, none⟩ = some (.int .u8 a.c.b4) ∧ v.cell? ⟨w.heap.size, 5, none⟩ = some (.int .u8 a.c.b5) ∧ v.cell? ⟨w.heap.size, 6, none⟩ = some (.int .u8 a.c.b6) ∧ v.cell? ⟨w.heap.size, 7, none⟩ = some (.int .u8 a.c.b7) ∧ v.cell? ⟨w.heap.size, 8, none⟩ = some (.int .i64 a.n) ∧ v.cell? ⟨w.heap.size + 1, 0, none⟩ = some (.int .u8 b.c.b0) ∧ v.cell? ⟨w.heap.size + 1, 1, none⟩ = some (.int .u8 b.c.b1) ∧ v.cell? ⟨w.heap.size + 1, 2, none⟩ = some (.int .u8 b.c.b2) ∧ v.cell? ⟨w.heap.size + 1, 3, none⟩ = some (.int .u8 b.c.b3) ∧ v.cell? ⟨w.heap.size + 1, 4, none⟩ = some (.int .u8 b.c.b4) ∧ v.cell? ⟨w.heap.size + 1, 5, none⟩ = some (.int .u8 b.c.b5) ∧ v.cell? ⟨w.heap.size + 1, 6, none⟩ = some (.int .u8 b.c.b6) ∧ v.cell? ⟨w.heap.size + 1, 7, none⟩ = some (.int .u8 b.c.b7) ∧ v.cell? ⟨w.heap.size + 1, 8, none⟩ = some (.int .i64 b.n) ∧ v.cell? ⟨g11, 0, none⟩ = some (.int .u8 c0) ∧ v.cell? ⟨g11, 1, none⟩ = some (.int .u8 c1) ∧ v.cell? ⟨g11, 2, none⟩ = some (.int .u8 c2) ∧ v.cell? ⟨g11, 3, none⟩ = some (.int .u8 255) ∧ v.cell? ⟨g11, 4, none⟩ = some (.int .u8 254) ∧ v.cell? ⟨g11, 5, none⟩ = some (.int .u8 c3) ∧ v.cell? ⟨g11, 6, none⟩ = some (.int .u8 c4) ∧ v.cell? ⟨g11, 7, none⟩ = some (.int .u8 c5) ∧ v.cell? ⟨w.heap.size + 1 + 1, 0, none⟩ = some (.int .u8 c0) ∧ v.cell? ⟨w.heap.size + 1 + 1, 1, none⟩ = some (.int .u8 c1) ∧ v.cell? ⟨w.heap.size + 1 + 1, 2, none⟩ = some (.int .u8 c2) ∧ v.cell? ⟨w.heap.size + 1 + 1, 3, none⟩ = some (.int .u8 c3) ∧ v.cell? ⟨w.heap.size + 1 + 1, 4, none⟩ = some (.int .u8 c4) ∧ v.cell? ⟨w.heap.size + 1 + 1, 5, none⟩ = some (.int .u8 c5))
        (first | (with_reducible exact keep32 (by assumption) (by assumption)) | (with_reducible exact keep32 (bnew _ _) (by assumption)) | (exact ⟨x10_0, x10_1, x10_2, x10_3, x10_4, x10_5, x10_6, x10_7, x10_8, x11_0, x11_1, x11_2, x11_3, x11_4, x11_5, x11_6, x11_7, x11_8, x12_0, x12_1, x12_2, x12_3, x12_4, x12_5, x12_6, x12_7, x13_0, x13_1, x13_2, x13_3, x13_4, x13_5⟩) | go_keep)
        (first
          | (go_at_call 14; (with_reducible refine (alive4_any _).mono ?_); rintro e v14_0 ⟨rfl, hv14_0⟩)
          | (go_at_call 10; (with_reducible refine (C2.out _).mono ?_); rintro e v14_1 ⟨rfl, hv14_1⟩)
          | (go_at_call 18; (with_reducible refine (C3.out _).mono ?_); rintro e v14_2 ⟨rfl, hv14_2⟩)
          | (go_at_call 18; (with_reducible refine (C4.out _).mono ?_); rintro e v14_3 ⟨rfl, hv14_3⟩)
          | (go_at_call 25; (with_reducible refine (C6.out _).mono ?_); rintro e v14_4 ⟨rfl, hv14_4⟩))
      have HV15 := Lib.hid (bstep (bstep (bstep (bstep (bstep (bdrew (Below.refl (V9).heap.size V9)) hv14_0) hv14_1) hv14_2) hv14_3) hv14_4)
      clear x10_0 x10_1 x10_2 x10_3 x10_4 x10_5 x10_6 x10_7 x10_8 x11_0 x11_1 x11_2 x11_3 x11_4 x11_5 x11_6 x11_7 x11_8 x12_0 x12_1 x12_2 x12_3 x12_4 x12_5 x12_6 x12_7 x13_0 x13_1 x13_2 x13_3 x13_4 x13_5
      replace K3 := Lib.hid ((K3.out).keptB HV15.out)
      replace K4 := Lib.hid ((K4.out).keptB HV15.out)
      replace K5 := Lib.hid ((K5.out).keptB HV15.out)
      replace K11 := Lib.hid ((K11.out).keptB HV15.out)
      replace HB := Lib.hid (bstep HB.out HV15.out)
      clear hv14_0 hv14_1 hv14_2 hv14_3 hv14_4 HV15
      clear hl1 hl2 hq
      go_wp2
      go_ret
      exact ⟨rfl, HB.out⟩
    · have HA := Lib.hid hA
      have HBf := Lib.hid hBf
      clear ha hb hA hBf
      have K3 := Lib.hid (Holds.fresh w 25 #[.int .u8 a.c.b0, .int .u8 a.c.b1, .int .u8 a.c.b2, .int .u8 a.c.b3, .int .u8 a.c.b4, .int .u8 a.c.b5, .int .u8 a.c.b6, .int .u8 a.c.b7, .int .i64 a.n] (g := w.heap.size) (by simp))
      replace K3 := Lib.hid ((K3.out).laid (.cells #[.int .u8 b.c.b0, .int .u8 b.c.b1, .int .u8 b.c.b2, .int .u8 b.c.b3, .int .u8 b.c.b4, .int .u8 b.c.b5, .int .u8 b.c.b6, .int .u8 b.c.b7, .int .i64 b.n] 25))
      replace K3 := Lib.hid ((K3.out).laid (.cells #[.int .u8 c0, .int .u8 c1, .int .u8 c2, .int .u8 c3, .int .u8 c4, .int .u8 c5] 41))
      have K4 := Lib.hid (Holds.fresh (w.alloc (.cells #[.int .u8 a.c.b0, .int .u8 a.c.b1, .int .u8 a.c.b2, .int .u8 a.c.b3, .int .u8 a.c.b4, .int .u8 a.c.b5, .int .u8 a.c.b6, .int .u8 a.c.b7, .int .i64 a.n] 25)) 25 #[.int .u8 b.c.b0, .int .u8 b.c.b1, .int .u8 b.c.b2, .int .u8 b.c.b3, .int .u8 b.c.b4, .int .u8 b.c.b5, .int .u8 b.c.b6, .int .u8 b.c.b7, .int .i64 b.n] (g := w.heap.size + 1) (by simp))
      replace K4 := Lib.hid ((K4.out).laid (.cells #[.int .u8 c0, .int .u8 c1, .int .u8 c2, .int .u8 c3, .int .u8 c4, .int .u8 c5] 41))
      have K5 := Lib.hid (Holds.fresh ((w.alloc (.cells #[.int .u8 a.c.b0, .int .u8 a.c.b1, .int .u8 a.c.b2, .int .u8 a.c.b3, .int .u8 a.c.b4, .int .u8 a.c.b5, .int .u8 a.c.b6, .int .u8 a.c.b7, .int .i64 a.n] 25)).alloc (.cells #[.int .u8 b.c.b0, .int .u8 b.c.b1, .int .u8 b.c.b2, .int .u8 b.c.b3, .int .u8 b.c.b4, .int .u8 b.c.b5, .int .u8 b.c.b6, .int .u8 b.c.b7, .int .i64 b.n] 25)) 41 #[.int .u8 c0, .int .u8 c1, .int .u8 c2, .int .u8 c3, .int .u8 c4, .int .u8 c5] (g := w.heap.size + 1 + 1) (by simp))
      have HB := Lib.hid (bstep (bstep (bnew w (.cells #[.int .u8 a.c.b0, .int .u8 a.c.b1, .int .u8 a.c.b2, .int .u8 a.c.b3, .int .u8 a.c.b4, .int .u8 a.c.b5, .int .u8 a.c.b6, .int .u8 a.c.b7, .int .i64 a.n] 25)) (bnew _ (.cells #[.int .u8 b.c.b0, .int .u8 b.c.b1, .int .u8 b.c.b2, .int .u8 b.c.b3, .int .u8 b.c.b4, .int .u8 b.c.b5, .int .u8 b.c.b6, .int .u8 b.c.b7, .int .i64 b.n] 25))) (bnew _ (.cells #[.int .u8 c0, .int .u8 c1, .int .u8 c2, .int .u8 c3, .int .u8 c4, .int .u8 c5] 41)))
      go_enter Try.func6, Try.ntmps6
      go_wp2_with fail
      generalize (((w.alloc (.cells #[.int .u8 a.c.b0, .int .u8 a.c.b1, .int .u8 a.c.b2, .int .u8 a.c.b3, .int .u8 a.c.b4, .int .u8 a.c.b5, .int .u8 a.c.b6, .int .u8 a.c.b7, .int .i64 a.n] 25)).alloc (.cells #[.int .u8 b.c.b0, .int .u8 b.c.b1, .int .u8 b.c.b2, .int .u8 b.c.b3, .int .u8 b.c.b4, .int .u8 b.c.b5, .int .u8 b.c.b6, .int .u8 b.c.b7, .int .i64 b.n] 25)).alloc (.cells #[.int .u8 c0, .int .u8 c1, .int .u8 c2, .int .u8 c3, .int .u8 c4, .int .u8 c5] 41)) = W0 at *
      have x1_0 := (K3.out).reads (i := 0) rfl
      have x1_1 := (K3.out).reads (i := 1) rfl
      have x1_2 := (K3.out).reads (i := 2) rfl
      have x1_3 := (K3.out).reads (i := 3) rfl
      have x1_4 := (K3.out).reads (i := 4) rfl
      have x1_5 := (K3.out).reads (i := 5) rfl
      have x1_6 := (K3.out).reads (i := 6) rfl
      have x1_7 := (K3.out).reads (i := 7) rfl
      have x1_8 := (K3.out).reads (i := 8) rfl
      refine (idput_no a _ HA.out).mono ?_
      rintro e w2 ⟨rfl, hb1⟩
      clear x1_0 x1_1 x1_2 x1_3 x1_4 x1_5 x1_6 x1_7 x1_8
      replace K3 := Lib.hid ((K3.out).keptB hb1)
      replace K4 := Lib.hid ((K4.out).keptB hb1)
      replace K5 := Lib.hid ((K5.out).keptB hb1)
      replace HB := Lib.hid (bstep HB.out hb1)
      clear hb1
      have x3_0 := (K4.out).reads (i := 0) rfl
      have x3_1 := (K4.out).reads (i := 1) rfl
      have x3_2 := (K4.out).reads (i := 2) rfl
      have x3_3 := (K4.out).reads (i := 3) rfl
      have x3_4 := (K4.out).reads (i := 4) rfl
      have x3_5 := (K4.out).reads (i := 5) rfl
      have x3_6 := (K4.out).reads (i := 6) rfl
      have x3_7 := (K4.out).reads (i := 7) rfl
      have x3_8 := (K4.out).reads (i := 8) rfl
      go_wp2_with fail
      refine (idput_yes b _ HBf.out).mono ?_
      rintro e w4 ⟨gb, hg, hh, hb1, rfl⟩
      clear x3_0 x3_1 x3_2 x3_3 x3_4 x3_5 x3_6 x3_7 x3_8
      replace K3 := Lib.hid ((K3.out).keptB hb1)
      replace K4 := Lib.hid ((K4.out).keptB hb1)
      replace K5 := Lib.hid ((K5.out).keptB hb1)
      replace HB := Lib.hid (bstep HB.out hb1)
      have Gb := Lib.hid hh
      clear hb1 hg hh
      go_wp2_with fail
      have x5_0 := (K5.out).reads (i := 0) rfl
      have x5_1 := (K5.out).reads (i := 1) rfl
      have x5_2 := (K5.out).reads (i := 2) rfl
      have x5_3 := (K5.out).reads (i := 3) rfl
      have x5_4 := (K5.out).reads (i := 4) rfl
      have x5_5 := (K5.out).reads (i := 5) rfl
      refine wp_region_held_drew (S := fun v => v.cell? ⟨w.heap.size + 1 + 1, 0, none⟩ = some (.int .u8 c0) ∧ v.cell? ⟨w.heap.size + 1 + 1, 1, none⟩ = some (.int .u8 c1) ∧ v.cell? ⟨w.heap.size + 1 + 1, 2, none⟩ = some (.int .u8 c2) ∧ v.cell? ⟨w.heap.size + 1 + 1, 3, none⟩ = some (.int .u8 c3) ∧ v.cell? ⟨w.heap.size + 1 + 1, 4, none⟩ = some (.int .u8 c4) ∧ v.cell? ⟨w.heap.size + 1 + 1, 5, none⟩ = some (.int .u8 c5)) (by kernel_rfl) ?_ (fun hHeld => ?_)
      · exact ⟨x5_0, x5_1, x5_2, x5_3, x5_4, x5_5⟩
      refine wpAnyH_take (i := 0) (v := .bool false) (at_list rfl) (by kernel_rfl) (by kernel_rfl) (by kernel_rfl) (fun _ _ _ h => h) (Or.inl ⟨by rfl, ?_⟩) (by assumption) ?_
      · intro v hSv
        obtain ⟨q0, q1, q2, q3, q4, q5⟩ := hSv
        go_simp
      try simp only [Act.put, List.setIfInBounds_toArray, List.set_cons_zero, List.set_cons_succ]
      refine wpAnyH_take (i := 1) (v := .bool false) (at_list rfl) (by kernel_rfl) (by kernel_rfl) (by kernel_rfl) (fun _ _ _ h => h) (Or.inl ⟨by rfl, ?_⟩) (by assumption) ?_
      · intro v hSv
        obtain ⟨q0, q1, q2, q3, q4, q5⟩ := hSv
        go_simp
      try simp only [Act.put, List.setIfInBounds_toArray, List.set_cons_zero, List.set_cons_succ]
      refine wpAnyH_take (i := 2) (v := undef) (at_list rfl) (by kernel_rfl) (by kernel_rfl) (by kernel_rfl) (fun _ _ _ h => h) (Or.inr ⟨by rfl, rfl⟩) (by assumption) ?_
      try simp only [Act.put, List.setIfInBounds_toArray, List.set_cons_zero, List.set_cons_succ]
      refine wpAnyH_take (i := 3) (v := .bool false) (at_list rfl) (by kernel_rfl) (by kernel_rfl) (by kernel_rfl) (fun _ _ _ h => h) (Or.inl ⟨by rfl, ?_⟩) (by assumption) ?_
      · intro v hSv
        obtain ⟨q0, q1, q2, q3, q4, q5⟩ := hSv
        go_simp
      try simp only [Act.put, List.setIfInBounds_toArray, List.set_cons_zero, List.set_cons_succ]
      refine wpAnyH_take (i := 4) (v := .bool false) (at_list rfl) (by kernel_rfl) (by kernel_rfl) (by kernel_rfl) (fun _ _ _ h => h) (Or.inl ⟨by rfl, ?_⟩) (by assumption) ?_
      · intro v hSv
        obtain ⟨q0, q1, q2, q3, q4, q5⟩ := hSv
        go_simp
      try simp only [Act.put, List.setIfInBounds_toArray, List.set_cons_zero, List.set_cons_succ]
      refine wpAnyH_take (i := 5) (v := undef) (at_list rfl) (by kernel_rfl) (by kernel_rfl) (by kernel_rfl) (fun _ _ _ h => h) (Or.inr ⟨by rfl, rfl⟩) (by assumption) ?_
      try simp only [Act.put, List.setIfInBounds_toArray, List.set_cons_zero, List.set_cons_succ]
      refine wpAnyH_take (i := 6) (v := undef) (at_list rfl) (by kernel_rfl) (by kernel_rfl) (by kernel_rfl) (fun _ _ _ h => h) (Or.inr ⟨by rfl, rfl⟩) (by assumption) ?_
      try simp only [Act.put, List.setIfInBounds_toArray, List.set_cons_zero, List.set_cons_succ]
      refine wpAnyH_take (i := 7) (v := undef) (at_list rfl) (by kernel_rfl) (by kernel_rfl) (by kernel_rfl) (fun _ _ _ h => h) (Or.inr ⟨by rfl, rfl⟩) (by assumption) ?_
      try simp only [Act.put, List.setIfInBounds_toArray, List.set_cons_zero, List.set_cons_succ]
      refine wpAnyH_take (i := 8) (v := undef) (at_list rfl) (by kernel_rfl) (by kernel_rfl) (by kernel_rfl) (fun _ _ _ h => h) (Or.inr ⟨by rfl, rfl⟩) (by assumption) ?_
      try simp only [Act.put, List.setIfInBounds_toArray, List.set_cons_zero, List.set_cons_succ]
      refine wpAnyH_take (i := 9) (v := undef) (at_list rfl) (by kernel_rfl) (by kernel_rfl) (by kernel_rfl) (fun _ _ _ h => h) (Or.inr ⟨by rfl, rfl⟩) (by assumption) ?_
      try simp only [Act.put, List.setIfInBounds_toArray, List.set_cons_zero, List.set_cons_succ]
      refine wpAnyH_take (i := 10) (v := undef) (at_list rfl) (by kernel_rfl) (by kernel_rfl) (by kernel_rfl) (fun _ _ _ h => h) (Or.inr ⟨by rfl, rfl⟩) (by assumption) ?_
      try simp only [Act.put, List.setIfInBounds_toArray, List.set_cons_zero, List.set_cons_succ]
      refine wpAnyH_take (i := 11) (v := undef) (at_list rfl) (by kernel_rfl) (by kernel_rfl) (by kernel_rfl) (fun _ _ _ h => h) (Or.inr ⟨by rfl, rfl⟩) (by assumption) ?_
      try simp only [Act.put, List.setIfInBounds_toArray, List.set_cons_zero, List.set_cons_succ]
      refine wpAnyH_take (i := 12) (v := undef) (at_list rfl) (by kernel_rfl) (by kernel_rfl) (by kernel_rfl) (fun _ _ _ h => h) (Or.inr ⟨by rfl, rfl⟩) (by assumption) ?_
      try simp only [Act.put, List.setIfInBounds_toArray, List.set_cons_zero, List.set_cons_succ]
      refine wpAnyH_take (i := 13) (v := undef) (at_list rfl) (by kernel_rfl) (by kernel_rfl) (by kernel_rfl) (fun _ _ _ h => h) (Or.inr ⟨by rfl, rfl⟩) (by assumption) ?_
      try simp only [Act.put, List.setIfInBounds_toArray, List.set_cons_zero, List.set_cons_succ]
      refine wpAnyH_take (i := 14) (v := undef) (at_list rfl) (by kernel_rfl) (by kernel_rfl) (by kernel_rfl) (fun _ _ _ h => h) (Or.inr ⟨by rfl, rfl⟩) (by assumption) ?_
      try simp only [Act.put, List.setIfInBounds_toArray, List.set_cons_zero, List.set_cons_succ]
      refine wpAnyH_take (i := 15) (v := .bool false) (at_list rfl) (by kernel_rfl) (by kernel_rfl) (by kernel_rfl) (fun _ _ _ h => h) (Or.inl ⟨by rfl, ?_⟩) (by assumption) ?_
      · intro v hSv
        obtain ⟨q0, q1, q2, q3, q4, q5⟩ := hSv
        go_simp
      try simp only [Act.put, List.setIfInBounds_toArray, List.set_cons_zero, List.set_cons_succ]
      refine wpAnyH_done (by kernel_rfl) ?_ _
      have HV7 := Lib.hid (bdrew (Below.refl (w4).heap.size w4))
      clear x5_0 x5_1 x5_2 x5_3 x5_4 x5_5
      replace K3 := Lib.hid ((K3.out).keptB HV7.out)
      replace K4 := Lib.hid ((K4.out).keptB HV7.out)
      replace K5 := Lib.hid ((K5.out).keptB HV7.out)
      replace Gb := Lib.hid ((Gb.out).keptB HV7.out)
      replace HB := Lib.hid (bstep HB.out HV7.out)
      clear HV7
      clear Gb
      have x8_0 := (K5.out).reads (i := 0) rfl
      have x8_1 := (K5.out).reads (i := 1) rfl
      have x8_2 := (K5.out).reads (i := 2) rfl
      have x8_3 := (K5.out).reads (i := 3) rfl
      have x8_4 := (K5.out).reads (i := 4) rfl
      have x8_5 := (K5.out).reads (i := 5) rfl
      go_wp2_with fail
      refine (C5.out _).mono ?_
      rintro e w9 ⟨rfl, hw9⟩
      clear x8_0 x8_1 x8_2 x8_3 x8_4 x8_5
      replace K3 := Lib.hid ((K3.out).keptB hw9)
      replace K4 := Lib.hid ((K4.out).keptB hw9)
      replace K5 := Lib.hid ((K5.out).keptB hw9)
      replace HB := Lib.hid (bstep HB.out hw9)
      clear hw9
      replace K3 := Lib.hid ((K3.out).laid (.cells #[.int .u8 c0, .int .u8 c1, .int .u8 c2, .int .u8 255, .int .u8 254, .int .u8 c3, .int .u8 c4, .int .u8 c5] 23))
      replace K4 := Lib.hid ((K4.out).laid (.cells #[.int .u8 c0, .int .u8 c1, .int .u8 c2, .int .u8 255, .int .u8 254, .int .u8 c3, .int .u8 c4, .int .u8 c5] 23))
      replace K5 := Lib.hid ((K5.out).laid (.cells #[.int .u8 c0, .int .u8 c1, .int .u8 c2, .int .u8 255, .int .u8 254, .int .u8 c3, .int .u8 c4, .int .u8 c5] 23))
      have K11 := Lib.hid (Holds.fresh w9 23 #[.int .u8 c0, .int .u8 c1, .int .u8 c2, .int .u8 255, .int .u8 254, .int .u8 c3, .int .u8 c4, .int .u8 c5] (g := (w9).heap.size) rfl)
      replace HB := Lib.hid (bstep HB.out (bnew _ (.cells #[.int .u8 c0, .int .u8 c1, .int .u8 c2, .int .u8 255, .int .u8 254, .int .u8 c3, .int .u8 c4, .int .u8 c5] 23)))
      go_wp2_with fail
      obtain ⟨g11, hg11⟩ : ∃ g, (w9).heap.size = g := ⟨_, rfl⟩
      rw [hg11] at K11 ⊢
      clear hg11
      generalize (w9.alloc (.cells #[.int .u8 c0, .int .u8 c1, .int .u8 c2, .int .u8 255, .int .u8 254, .int .u8 c3, .int .u8 c4, .int .u8 c5] 23)) = V9 at *
      have hl1 := HL1.out
      have hl2 := HL2.out
      have hq := HQ.out
      have x10_0 := (K3.out).reads (i := 0) rfl
      have x10_1 := (K3.out).reads (i := 1) rfl
      have x10_2 := (K3.out).reads (i := 2) rfl
      have x10_3 := (K3.out).reads (i := 3) rfl
      have x10_4 := (K3.out).reads (i := 4) rfl
      have x10_5 := (K3.out).reads (i := 5) rfl
      have x10_6 := (K3.out).reads (i := 6) rfl
      have x10_7 := (K3.out).reads (i := 7) rfl
      have x10_8 := (K3.out).reads (i := 8) rfl
      have x11_0 := (K4.out).reads (i := 0) rfl
      have x11_1 := (K4.out).reads (i := 1) rfl
      have x11_2 := (K4.out).reads (i := 2) rfl
      have x11_3 := (K4.out).reads (i := 3) rfl
      have x11_4 := (K4.out).reads (i := 4) rfl
      have x11_5 := (K4.out).reads (i := 5) rfl
      have x11_6 := (K4.out).reads (i := 6) rfl
      have x11_7 := (K4.out).reads (i := 7) rfl
      have x11_8 := (K4.out).reads (i := 8) rfl
      have x12_0 := (K11.out).reads (i := 0) rfl
      have x12_1 := (K11.out).reads (i := 1) rfl
      have x12_2 := (K11.out).reads (i := 2) rfl
      have x12_3 := (K11.out).reads (i := 3) rfl
      have x12_4 := (K11.out).reads (i := 4) rfl
      have x12_5 := (K11.out).reads (i := 5) rfl
      have x12_6 := (K11.out).reads (i := 6) rfl
      have x12_7 := (K11.out).reads (i := 7) rfl
      have x13_0 := (K5.out).reads (i := 0) rfl
      have x13_1 := (K5.out).reads (i := 1) rfl
      have x13_2 := (K5.out).reads (i := 2) rfl
      have x13_3 := (K5.out).reads (i := 3) rfl
      have x13_4 := (K5.out).reads (i := 4) rfl
      have x13_5 := (K5.out).reads (i := 5) rfl
      go_region_held3 (fun v => v.cell? ⟨w.heap.size, 0, none⟩ = some (.int .u8 a.c.b0) ∧ v.cell? ⟨w.heap.size, 1, none⟩ = some (.int .u8 a.c.b1) ∧ v.cell? ⟨w.heap.size, 2, none⟩ = some (.int .u8 a.c.b2) ∧ v.cell? ⟨w.heap.size, 3, none⟩ = some (.int .u8 a.c.b3) ∧ v.cell? ⟨w.heap.size, 4, none⟩ = some (.int .u8 a.c.b4) ∧ v.cell? ⟨w.heap.size, 5, none⟩ = some (.int .u8 a.c.b5) ∧ v.cell? ⟨w.heap.size, 6, none⟩ = some (.int .u8 a.c.b6) ∧ v.cell? ⟨w.heap.size, 7, none⟩ = some (.int .u8 a.c.b7) ∧ v.cell? ⟨w.heap.size, 8, none⟩ = some (.int .i64 a.n) ∧ v.cell? ⟨w.heap.size + 1, 0, none⟩ = some (.int .u8 b.c.b0) ∧ v.cell? ⟨w.heap.size + 1, 1, none⟩ = some (.int .u8 b.c.b1) ∧ v.cell? ⟨w.heap.size + 1, 2, none⟩ = some (.int .u8 b.c.b2) ∧ v.cell? ⟨w.heap.size + 1, 3, none⟩ = some (.int .u8 b.c.b3) ∧ v.cell? ⟨w.heap.size + 1, 4, none⟩ = some (.int .u8 b.c.b4) ∧ v.cell? ⟨w.heap.size + 1, 5, none⟩ = some (.int .u8 b.c.b5) ∧ v.cell? ⟨w.heap.size + 1, 6, none⟩ = some (.int .u8 b.c.b6) ∧ v.cell? ⟨w.heap.size + 1, 7, none⟩ = some (.int .u8 b.c.b7) ∧ v.cell? ⟨w.heap.size + 1, 8, none⟩ = some (.int .i64 b.n) ∧ v.cell? ⟨g11, 0, none⟩ = some (.int .u8 c0) ∧ v.cell? ⟨g11, 1, none⟩ = some (.int .u8 c1) ∧ v.cell? ⟨g11, 2, none⟩ = some (.int .u8 c2) ∧ v.cell? ⟨g11, 3, none⟩ = some (.int .u8 255) ∧ v.cell? ⟨g11, 4, none⟩ = some (.int .u8 254) ∧ v.cell? ⟨g11, 5, none⟩ = some (.int .u8 c3) ∧ v.cell? ⟨g11, 6, none⟩ = some (.int .u8 c4) ∧ v.cell? ⟨g11, 7, none⟩ = some (.int .u8 c5) ∧ v.cell? ⟨w.heap.size + 1 + 1, 0, none⟩ = some (.int .u8 c0) ∧ v.cell? ⟨w.heap.size + 1 + 1, 1, none⟩ = some (.int .u8 c1) ∧ v.cell? ⟨w.heap.size + 1 + 1, 2, none⟩ = some (.int .u8 c2) ∧ v.cell? ⟨w.heap.size + 1 + 1, 3, none⟩ = some (.int .u8 c3) ∧ v.cell? ⟨w.heap.size + 1 + 1, 4, none⟩ = some (.int .u8 c4) ∧ v.cell? ⟨w.heap.size + 1 + 1, 5, none⟩ = some (.int .u8 c5))
        (first | (with_reducible exact keep32 (by assumption) (by assumption)) | (with_reducible exact keep32 (bnew _ _) (by assumption)) | (exact ⟨x10_0, x10_1, x10_2, x10_3, x10_4, x10_5, x10_6, x10_7, x10_8, x11_0, x11_1, x11_2, x11_3, x11_4, x11_5, x11_6, x11_7, x11_8, x12_0, x12_1, x12_2, x12_3, x12_4, x12_5, x12_6, x12_7, x13_0, x13_1, x13_2, x13_3, x13_4, x13_5⟩) | go_keep)
        (first
          | (go_at_call 14; (with_reducible refine (alive4_any _).mono ?_); rintro e v14_0 ⟨rfl, hv14_0⟩)
          | (go_at_call 10; (with_reducible refine (C2.out _).mono ?_); rintro e v14_1 ⟨rfl, hv14_1⟩)
          | (go_at_call 18; (with_reducible refine (C3.out _).mono ?_); rintro e v14_2 ⟨rfl, hv14_2⟩)
          | (go_at_call 18; (with_reducible refine (C4.out _).mono ?_); rintro e v14_3 ⟨rfl, hv14_3⟩)
          | (go_at_call 25; (with_reducible refine (C6.out _).mono ?_); rintro e v14_4 ⟨rfl, hv14_4⟩))
      have HV15 := Lib.hid (bstep (bstep (bstep (bstep (bstep (bdrew (Below.refl (V9).heap.size V9)) hv14_0) hv14_1) hv14_2) hv14_3) hv14_4)
      clear x10_0 x10_1 x10_2 x10_3 x10_4 x10_5 x10_6 x10_7 x10_8 x11_0 x11_1 x11_2 x11_3 x11_4 x11_5 x11_6 x11_7 x11_8 x12_0 x12_1 x12_2 x12_3 x12_4 x12_5 x12_6 x12_7 x13_0 x13_1 x13_2 x13_3 x13_4 x13_5
      replace K3 := Lib.hid ((K3.out).keptB HV15.out)
      replace K4 := Lib.hid ((K4.out).keptB HV15.out)
      replace K5 := Lib.hid ((K5.out).keptB HV15.out)
      replace K11 := Lib.hid ((K11.out).keptB HV15.out)
      replace HB := Lib.hid (bstep HB.out HV15.out)
      clear hv14_0 hv14_1 hv14_2 hv14_3 hv14_4 HV15
      clear hl1 hl2 hq
      go_wp2
      go_ret
      exact ⟨rfl, HB.out⟩
  · cases hBf : fitB b.n
    · have HA := Lib.hid hA
      have HBf := Lib.hid hBf
      clear ha hb hA hBf
      have K3 := Lib.hid (Holds.fresh w 25 #[.int .u8 a.c.b0, .int .u8 a.c.b1, .int .u8 a.c.b2, .int .u8 a.c.b3, .int .u8 a.c.b4, .int .u8 a.c.b5, .int .u8 a.c.b6, .int .u8 a.c.b7, .int .i64 a.n] (g := w.heap.size) (by simp))
      replace K3 := Lib.hid ((K3.out).laid (.cells #[.int .u8 b.c.b0, .int .u8 b.c.b1, .int .u8 b.c.b2, .int .u8 b.c.b3, .int .u8 b.c.b4, .int .u8 b.c.b5, .int .u8 b.c.b6, .int .u8 b.c.b7, .int .i64 b.n] 25))
      replace K3 := Lib.hid ((K3.out).laid (.cells #[.int .u8 c0, .int .u8 c1, .int .u8 c2, .int .u8 c3, .int .u8 c4, .int .u8 c5] 41))
      have K4 := Lib.hid (Holds.fresh (w.alloc (.cells #[.int .u8 a.c.b0, .int .u8 a.c.b1, .int .u8 a.c.b2, .int .u8 a.c.b3, .int .u8 a.c.b4, .int .u8 a.c.b5, .int .u8 a.c.b6, .int .u8 a.c.b7, .int .i64 a.n] 25)) 25 #[.int .u8 b.c.b0, .int .u8 b.c.b1, .int .u8 b.c.b2, .int .u8 b.c.b3, .int .u8 b.c.b4, .int .u8 b.c.b5, .int .u8 b.c.b6, .int .u8 b.c.b7, .int .i64 b.n] (g := w.heap.size + 1) (by simp))
      replace K4 := Lib.hid ((K4.out).laid (.cells #[.int .u8 c0, .int .u8 c1, .int .u8 c2, .int .u8 c3, .int .u8 c4, .int .u8 c5] 41))
      have K5 := Lib.hid (Holds.fresh ((w.alloc (.cells #[.int .u8 a.c.b0, .int .u8 a.c.b1, .int .u8 a.c.b2, .int .u8 a.c.b3, .int .u8 a.c.b4, .int .u8 a.c.b5, .int .u8 a.c.b6, .int .u8 a.c.b7, .int .i64 a.n] 25)).alloc (.cells #[.int .u8 b.c.b0, .int .u8 b.c.b1, .int .u8 b.c.b2, .int .u8 b.c.b3, .int .u8 b.c.b4, .int .u8 b.c.b5, .int .u8 b.c.b6, .int .u8 b.c.b7, .int .i64 b.n] 25)) 41 #[.int .u8 c0, .int .u8 c1, .int .u8 c2, .int .u8 c3, .int .u8 c4, .int .u8 c5] (g := w.heap.size + 1 + 1) (by simp))
      have HB := Lib.hid (bstep (bstep (bnew w (.cells #[.int .u8 a.c.b0, .int .u8 a.c.b1, .int .u8 a.c.b2, .int .u8 a.c.b3, .int .u8 a.c.b4, .int .u8 a.c.b5, .int .u8 a.c.b6, .int .u8 a.c.b7, .int .i64 a.n] 25)) (bnew _ (.cells #[.int .u8 b.c.b0, .int .u8 b.c.b1, .int .u8 b.c.b2, .int .u8 b.c.b3, .int .u8 b.c.b4, .int .u8 b.c.b5, .int .u8 b.c.b6, .int .u8 b.c.b7, .int .i64 b.n] 25))) (bnew _ (.cells #[.int .u8 c0, .int .u8 c1, .int .u8 c2, .int .u8 c3, .int .u8 c4, .int .u8 c5] 41)))
      go_enter Try.func6, Try.ntmps6
      go_wp2_with fail
      generalize (((w.alloc (.cells #[.int .u8 a.c.b0, .int .u8 a.c.b1, .int .u8 a.c.b2, .int .u8 a.c.b3, .int .u8 a.c.b4, .int .u8 a.c.b5, .int .u8 a.c.b6, .int .u8 a.c.b7, .int .i64 a.n] 25)).alloc (.cells #[.int .u8 b.c.b0, .int .u8 b.c.b1, .int .u8 b.c.b2, .int .u8 b.c.b3, .int .u8 b.c.b4, .int .u8 b.c.b5, .int .u8 b.c.b6, .int .u8 b.c.b7, .int .i64 b.n] 25)).alloc (.cells #[.int .u8 c0, .int .u8 c1, .int .u8 c2, .int .u8 c3, .int .u8 c4, .int .u8 c5] 41)) = W0 at *
      have x1_0 := (K3.out).reads (i := 0) rfl
      have x1_1 := (K3.out).reads (i := 1) rfl
      have x1_2 := (K3.out).reads (i := 2) rfl
      have x1_3 := (K3.out).reads (i := 3) rfl
      have x1_4 := (K3.out).reads (i := 4) rfl
      have x1_5 := (K3.out).reads (i := 5) rfl
      have x1_6 := (K3.out).reads (i := 6) rfl
      have x1_7 := (K3.out).reads (i := 7) rfl
      have x1_8 := (K3.out).reads (i := 8) rfl
      refine (idput_yes a _ HA.out).mono ?_
      rintro e w2 ⟨ga, hg, hh, hb1, rfl⟩
      clear x1_0 x1_1 x1_2 x1_3 x1_4 x1_5 x1_6 x1_7 x1_8
      replace K3 := Lib.hid ((K3.out).keptB hb1)
      replace K4 := Lib.hid ((K4.out).keptB hb1)
      replace K5 := Lib.hid ((K5.out).keptB hb1)
      replace HB := Lib.hid (bstep HB.out hb1)
      have Ga := Lib.hid hh
      clear hb1 hg hh
      have x3_0 := (K4.out).reads (i := 0) rfl
      have x3_1 := (K4.out).reads (i := 1) rfl
      have x3_2 := (K4.out).reads (i := 2) rfl
      have x3_3 := (K4.out).reads (i := 3) rfl
      have x3_4 := (K4.out).reads (i := 4) rfl
      have x3_5 := (K4.out).reads (i := 5) rfl
      have x3_6 := (K4.out).reads (i := 6) rfl
      have x3_7 := (K4.out).reads (i := 7) rfl
      have x3_8 := (K4.out).reads (i := 8) rfl
      go_wp2_with fail
      refine (idput_no b _ HBf.out).mono ?_
      rintro e w4 ⟨rfl, hb1⟩
      clear x3_0 x3_1 x3_2 x3_3 x3_4 x3_5 x3_6 x3_7 x3_8
      replace K3 := Lib.hid ((K3.out).keptB hb1)
      replace K4 := Lib.hid ((K4.out).keptB hb1)
      replace K5 := Lib.hid ((K5.out).keptB hb1)
      replace Ga := Lib.hid ((Ga.out).keptB hb1)
      replace HB := Lib.hid (bstep HB.out hb1)
      clear hb1
      go_wp2_with fail
      have x5_0 := (K5.out).reads (i := 0) rfl
      have x5_1 := (K5.out).reads (i := 1) rfl
      have x5_2 := (K5.out).reads (i := 2) rfl
      have x5_3 := (K5.out).reads (i := 3) rfl
      have x5_4 := (K5.out).reads (i := 4) rfl
      have x5_5 := (K5.out).reads (i := 5) rfl
      refine wp_region_held_drew (S := fun v => v.cell? ⟨w.heap.size + 1 + 1, 0, none⟩ = some (.int .u8 c0) ∧ v.cell? ⟨w.heap.size + 1 + 1, 1, none⟩ = some (.int .u8 c1) ∧ v.cell? ⟨w.heap.size + 1 + 1, 2, none⟩ = some (.int .u8 c2) ∧ v.cell? ⟨w.heap.size + 1 + 1, 3, none⟩ = some (.int .u8 c3) ∧ v.cell? ⟨w.heap.size + 1 + 1, 4, none⟩ = some (.int .u8 c4) ∧ v.cell? ⟨w.heap.size + 1 + 1, 5, none⟩ = some (.int .u8 c5)) (by kernel_rfl) ?_ (fun hHeld => ?_)
      · exact ⟨x5_0, x5_1, x5_2, x5_3, x5_4, x5_5⟩
      refine wpAnyH_take (i := 0) (v := .bool true) (at_list rfl) (by kernel_rfl) (by kernel_rfl) (by kernel_rfl) (fun _ _ _ h => h) (Or.inl ⟨by rfl, ?_⟩) (by assumption) ?_
      · intro v hSv
        obtain ⟨q0, q1, q2, q3, q4, q5⟩ := hSv
        go_simp
      try simp only [Act.put, List.setIfInBounds_toArray, List.set_cons_zero, List.set_cons_succ]
      refine wpAnyH_take (i := 1) (v := .bool true) (at_list rfl) (by kernel_rfl) (by kernel_rfl) (by kernel_rfl) (fun _ _ _ h => h) (Or.inl ⟨by rfl, ?_⟩) (by assumption) ?_
      · intro v hSv
        obtain ⟨q0, q1, q2, q3, q4, q5⟩ := hSv
        go_simp
      try simp only [Act.put, List.setIfInBounds_toArray, List.set_cons_zero, List.set_cons_succ]
      refine wpAnyH_take (i := 2) (v := .bool false) (at_list rfl) (by kernel_rfl) (by kernel_rfl) (by kernel_rfl) (fun _ _ _ h => h) (Or.inl ⟨by rfl, ?_⟩) (by assumption) ?_
      · intro v hSv
        obtain ⟨q0, q1, q2, q3, q4, q5⟩ := hSv
        go_simp
      try simp only [Act.put, List.setIfInBounds_toArray, List.set_cons_zero, List.set_cons_succ]
      refine wpAnyH_take (i := 3) (v := .bool false) (at_list rfl) (by kernel_rfl) (by kernel_rfl) (by kernel_rfl) (fun _ _ _ h => h) (Or.inl ⟨by rfl, ?_⟩) (by assumption) ?_
      · intro v hSv
        obtain ⟨q0, q1, q2, q3, q4, q5⟩ := hSv
        go_simp
      try simp only [Act.put, List.setIfInBounds_toArray, List.set_cons_zero, List.set_cons_succ]
      refine wpAnyH_take (i := 4) (v := .bool false) (at_list rfl) (by kernel_rfl) (by kernel_rfl) (by kernel_rfl) (fun _ _ _ h => h) (Or.inl ⟨by rfl, ?_⟩) (by assumption) ?_
      · intro v hSv
        obtain ⟨q0, q1, q2, q3, q4, q5⟩ := hSv
        go_simp
      try simp only [Act.put, List.setIfInBounds_toArray, List.set_cons_zero, List.set_cons_succ]
      refine wpAnyH_take (i := 5) (v := undef) (at_list rfl) (by kernel_rfl) (by kernel_rfl) (by kernel_rfl) (fun _ _ _ h => h) (Or.inr ⟨by rfl, rfl⟩) (by assumption) ?_
      try simp only [Act.put, List.setIfInBounds_toArray, List.set_cons_zero, List.set_cons_succ]
      refine wpAnyH_take (i := 6) (v := undef) (at_list rfl) (by kernel_rfl) (by kernel_rfl) (by kernel_rfl) (fun _ _ _ h => h) (Or.inr ⟨by rfl, rfl⟩) (by assumption) ?_
      try simp only [Act.put, List.setIfInBounds_toArray, List.set_cons_zero, List.set_cons_succ]
      refine wpAnyH_take (i := 7) (v := undef) (at_list rfl) (by kernel_rfl) (by kernel_rfl) (by kernel_rfl) (fun _ _ _ h => h) (Or.inr ⟨by rfl, rfl⟩) (by assumption) ?_
      try simp only [Act.put, List.setIfInBounds_toArray, List.set_cons_zero, List.set_cons_succ]
      refine wpAnyH_take (i := 8) (v := undef) (at_list rfl) (by kernel_rfl) (by kernel_rfl) (by kernel_rfl) (fun _ _ _ h => h) (Or.inr ⟨by rfl, rfl⟩) (by assumption) ?_
      try simp only [Act.put, List.setIfInBounds_toArray, List.set_cons_zero, List.set_cons_succ]
      refine wpAnyH_take (i := 9) (v := undef) (at_list rfl) (by kernel_rfl) (by kernel_rfl) (by kernel_rfl) (fun _ _ _ h => h) (Or.inr ⟨by rfl, rfl⟩) (by assumption) ?_
      try simp only [Act.put, List.setIfInBounds_toArray, List.set_cons_zero, List.set_cons_succ]
      refine wpAnyH_take (i := 10) (v := undef) (at_list rfl) (by kernel_rfl) (by kernel_rfl) (by kernel_rfl) (fun _ _ _ h => h) (Or.inr ⟨by rfl, rfl⟩) (by assumption) ?_
      try simp only [Act.put, List.setIfInBounds_toArray, List.set_cons_zero, List.set_cons_succ]
      refine wpAnyH_take (i := 11) (v := undef) (at_list rfl) (by kernel_rfl) (by kernel_rfl) (by kernel_rfl) (fun _ _ _ h => h) (Or.inr ⟨by rfl, rfl⟩) (by assumption) ?_
      try simp only [Act.put, List.setIfInBounds_toArray, List.set_cons_zero, List.set_cons_succ]
      refine wpAnyH_take (i := 12) (v := undef) (at_list rfl) (by kernel_rfl) (by kernel_rfl) (by kernel_rfl) (fun _ _ _ h => h) (Or.inr ⟨by rfl, rfl⟩) (by assumption) ?_
      try simp only [Act.put, List.setIfInBounds_toArray, List.set_cons_zero, List.set_cons_succ]
      refine wpAnyH_take (i := 13) (v := undef) (at_list rfl) (by kernel_rfl) (by kernel_rfl) (by kernel_rfl) (fun _ _ _ h => h) (Or.inr ⟨by rfl, rfl⟩) (by assumption) ?_
      try simp only [Act.put, List.setIfInBounds_toArray, List.set_cons_zero, List.set_cons_succ]
      refine wpAnyH_take (i := 14) (v := undef) (at_list rfl) (by kernel_rfl) (by kernel_rfl) (by kernel_rfl) (fun _ _ _ h => h) (Or.inr ⟨by rfl, rfl⟩) (by assumption) ?_
      try simp only [Act.put, List.setIfInBounds_toArray, List.set_cons_zero, List.set_cons_succ]
      refine wpAnyH_take (i := 15) (v := .bool false) (at_list rfl) (by kernel_rfl) (by kernel_rfl) (by kernel_rfl) (fun _ _ _ h => h) (Or.inl ⟨by rfl, ?_⟩) (by assumption) ?_
      · intro v hSv
        obtain ⟨q0, q1, q2, q3, q4, q5⟩ := hSv
        go_simp
      try simp only [Act.put, List.setIfInBounds_toArray, List.set_cons_zero, List.set_cons_succ]
      refine wpAnyH_done (by kernel_rfl) ?_ _
      have HV7 := Lib.hid (bdrew (Below.refl (w4).heap.size w4))
      clear x5_0 x5_1 x5_2 x5_3 x5_4 x5_5
      replace K3 := Lib.hid ((K3.out).keptB HV7.out)
      replace K4 := Lib.hid ((K4.out).keptB HV7.out)
      replace K5 := Lib.hid ((K5.out).keptB HV7.out)
      replace Ga := Lib.hid ((Ga.out).keptB HV7.out)
      replace HB := Lib.hid (bstep HB.out HV7.out)
      clear HV7
      clear Ga
      have x8_0 := (K5.out).reads (i := 0) rfl
      have x8_1 := (K5.out).reads (i := 1) rfl
      have x8_2 := (K5.out).reads (i := 2) rfl
      have x8_3 := (K5.out).reads (i := 3) rfl
      have x8_4 := (K5.out).reads (i := 4) rfl
      have x8_5 := (K5.out).reads (i := 5) rfl
      go_wp2_with fail
      refine (C5.out _).mono ?_
      rintro e w9 ⟨rfl, hw9⟩
      clear x8_0 x8_1 x8_2 x8_3 x8_4 x8_5
      replace K3 := Lib.hid ((K3.out).keptB hw9)
      replace K4 := Lib.hid ((K4.out).keptB hw9)
      replace K5 := Lib.hid ((K5.out).keptB hw9)
      replace HB := Lib.hid (bstep HB.out hw9)
      clear hw9
      replace K3 := Lib.hid ((K3.out).laid (.cells #[.int .u8 c0, .int .u8 c1, .int .u8 c2, .int .u8 255, .int .u8 254, .int .u8 c3, .int .u8 c4, .int .u8 c5] 23))
      replace K4 := Lib.hid ((K4.out).laid (.cells #[.int .u8 c0, .int .u8 c1, .int .u8 c2, .int .u8 255, .int .u8 254, .int .u8 c3, .int .u8 c4, .int .u8 c5] 23))
      replace K5 := Lib.hid ((K5.out).laid (.cells #[.int .u8 c0, .int .u8 c1, .int .u8 c2, .int .u8 255, .int .u8 254, .int .u8 c3, .int .u8 c4, .int .u8 c5] 23))
      have K11 := Lib.hid (Holds.fresh w9 23 #[.int .u8 c0, .int .u8 c1, .int .u8 c2, .int .u8 255, .int .u8 254, .int .u8 c3, .int .u8 c4, .int .u8 c5] (g := (w9).heap.size) rfl)
      replace HB := Lib.hid (bstep HB.out (bnew _ (.cells #[.int .u8 c0, .int .u8 c1, .int .u8 c2, .int .u8 255, .int .u8 254, .int .u8 c3, .int .u8 c4, .int .u8 c5] 23)))
      go_wp2_with fail
      obtain ⟨g11, hg11⟩ : ∃ g, (w9).heap.size = g := ⟨_, rfl⟩
      rw [hg11] at K11 ⊢
      clear hg11
      generalize (w9.alloc (.cells #[.int .u8 c0, .int .u8 c1, .int .u8 c2, .int .u8 255, .int .u8 254, .int .u8 c3, .int .u8 c4, .int .u8 c5] 23)) = V9 at *
      have hl1 := HL1.out
      have hl2 := HL2.out
      have hq := HQ.out
      have x10_0 := (K3.out).reads (i := 0) rfl
      have x10_1 := (K3.out).reads (i := 1) rfl
      have x10_2 := (K3.out).reads (i := 2) rfl
      have x10_3 := (K3.out).reads (i := 3) rfl
      have x10_4 := (K3.out).reads (i := 4) rfl
      have x10_5 := (K3.out).reads (i := 5) rfl
      have x10_6 := (K3.out).reads (i := 6) rfl
      have x10_7 := (K3.out).reads (i := 7) rfl
      have x10_8 := (K3.out).reads (i := 8) rfl
      have x11_0 := (K4.out).reads (i := 0) rfl
      have x11_1 := (K4.out).reads (i := 1) rfl
      have x11_2 := (K4.out).reads (i := 2) rfl
      have x11_3 := (K4.out).reads (i := 3) rfl
      have x11_4 := (K4.out).reads (i := 4) rfl
      have x11_5 := (K4.out).reads (i := 5) rfl
      have x11_6 := (K4.out).reads (i := 6) rfl
      have x11_7 := (K4.out).reads (i := 7) rfl
      have x11_8 := (K4.out).reads (i := 8) rfl
      have x12_0 := (K11.out).reads (i := 0) rfl
      have x12_1 := (K11.out).reads (i := 1) rfl
      have x12_2 := (K11.out).reads (i := 2) rfl
      have x12_3 := (K11.out).reads (i := 3) rfl
      have x12_4 := (K11.out).reads (i := 4) rfl
      have x12_5 := (K11.out).reads (i := 5) rfl
      have x12_6 := (K11.out).reads (i := 6) rfl
      have x12_7 := (K11.out).reads (i := 7) rfl
      have x13_0 := (K5.out).reads (i := 0) rfl
      have x13_1 := (K5.out).reads (i := 1) rfl
      have x13_2 := (K5.out).reads (i := 2) rfl
      have x13_3 := (K5.out).reads (i := 3) rfl
      have x13_4 := (K5.out).reads (i := 4) rfl
      have x13_5 := (K5.out).reads (i := 5) rfl
      go_region_held3 (fun v => v.cell? ⟨w.heap.size, 0, none⟩ = some (.int .u8 a.c.b0) ∧ v.cell? ⟨w.heap.size, 1, none⟩ = some (.int .u8 a.c.b1) ∧ v.cell? ⟨w.heap.size, 2, none⟩ = some (.int .u8 a.c.b2) ∧ v.cell? ⟨w.heap.size, 3, none⟩ = some (.int .u8 a.c.b3) ∧ v.cell? ⟨w.heap.size, 4, none⟩ = some (.int .u8 a.c.b4) ∧ v.cell? ⟨w.heap.size, 5, none⟩ = some (.int .u8 a.c.b5) ∧ v.cell? ⟨w.heap.size, 6, none⟩ = some (.int .u8 a.c.b6) ∧ v.cell? ⟨w.heap.size, 7, none⟩ = some (.int .u8 a.c.b7) ∧ v.cell? ⟨w.heap.size, 8, none⟩ = some (.int .i64 a.n) ∧ v.cell? ⟨w.heap.size + 1, 0, none⟩ = some (.int .u8 b.c.b0) ∧ v.cell? ⟨w.heap.size + 1, 1, none⟩ = some (.int .u8 b.c.b1) ∧ v.cell? ⟨w.heap.size + 1, 2, none⟩ = some (.int .u8 b.c.b2) ∧ v.cell? ⟨w.heap.size + 1, 3, none⟩ = some (.int .u8 b.c.b3) ∧ v.cell? ⟨w.heap.size + 1, 4, none⟩ = some (.int .u8 b.c.b4) ∧ v.cell? ⟨w.heap.size + 1, 5, none⟩ = some (.int .u8 b.c.b5) ∧ v.cell? ⟨w.heap.size + 1, 6, none⟩ = some (.int .u8 b.c.b6) ∧ v.cell? ⟨w.heap.size + 1, 7, none⟩ = some (.int .u8 b.c.b7) ∧ v.cell? ⟨w.heap.size + 1, 8, none⟩ = some (.int .i64 b.n) ∧ v.cell? ⟨g11, 0, none⟩ = some (.int .u8 c0) ∧ v.cell? ⟨g11, 1, none⟩ = some (.int .u8 c1) ∧ v.cell? ⟨g11, 2, none⟩ = some (.int .u8 c2) ∧ v.cell? ⟨g11, 3, none⟩ = some (.int .u8 255) ∧ v.cell? ⟨g11, 4, none⟩ = some (.int .u8 254) ∧ v.cell? ⟨g11, 5, none⟩ = some (.int .u8 c3) ∧ v.cell? ⟨g11, 6, none⟩ = some (.int .u8 c4) ∧ v.cell? ⟨g11, 7, none⟩ = some (.int .u8 c5) ∧ v.cell? ⟨w.heap.size + 1 + 1, 0, none⟩ = some (.int .u8 c0) ∧ v.cell? ⟨w.heap.size + 1 + 1, 1, none⟩ = some (.int .u8 c1) ∧ v.cell? ⟨w.heap.size + 1 + 1, 2, none⟩ = some (.int .u8 c2) ∧ v.cell? ⟨w.heap.size + 1 + 1, 3, none⟩ = some (.int .u8 c3) ∧ v.cell? ⟨w.heap.size + 1 + 1, 4, none⟩ = some (.int .u8 c4) ∧ v.cell? ⟨w.heap.size + 1 + 1, 5, none⟩ = some (.int .u8 c5))
        (first | (with_reducible exact keep32 (by assumption) (by assumption)) | (with_reducible exact keep32 (bnew _ _) (by assumption)) | (exact ⟨x10_0, x10_1, x10_2, x10_3, x10_4, x10_5, x10_6, x10_7, x10_8, x11_0, x11_1, x11_2, x11_3, x11_4, x11_5, x11_6, x11_7, x11_8, x12_0, x12_1, x12_2, x12_3, x12_4, x12_5, x12_6, x12_7, x13_0, x13_1, x13_2, x13_3, x13_4, x13_5⟩) | go_keep)
        (first
          | (go_at_call 14; (with_reducible refine (alive4_any _).mono ?_); rintro e v14_0 ⟨rfl, hv14_0⟩)
          | (go_at_call 10; (with_reducible refine (C2.out _).mono ?_); rintro e v14_1 ⟨rfl, hv14_1⟩)
          | (go_at_call 18; (with_reducible refine (C3.out _).mono ?_); rintro e v14_2 ⟨rfl, hv14_2⟩)
          | (go_at_call 18; (with_reducible refine (C4.out _).mono ?_); rintro e v14_3 ⟨rfl, hv14_3⟩)
          | (go_at_call 25; (with_reducible refine (C6.out _).mono ?_); rintro e v14_4 ⟨rfl, hv14_4⟩))
      have HV15 := Lib.hid (bstep (bstep (bstep (bstep (bstep (bdrew (Below.refl (V9).heap.size V9)) hv14_0) hv14_1) hv14_2) hv14_3) hv14_4)
      clear x10_0 x10_1 x10_2 x10_3 x10_4 x10_5 x10_6 x10_7 x10_8 x11_0 x11_1 x11_2 x11_3 x11_4 x11_5 x11_6 x11_7 x11_8 x12_0 x12_1 x12_2 x12_3 x12_4 x12_5 x12_6 x12_7 x13_0 x13_1 x13_2 x13_3 x13_4 x13_5
      replace K3 := Lib.hid ((K3.out).keptB HV15.out)
      replace K4 := Lib.hid ((K4.out).keptB HV15.out)
      replace K5 := Lib.hid ((K5.out).keptB HV15.out)
      replace K11 := Lib.hid ((K11.out).keptB HV15.out)
      replace HB := Lib.hid (bstep HB.out HV15.out)
      clear hv14_0 hv14_1 hv14_2 hv14_3 hv14_4 HV15
      clear hl1 hl2 hq
      go_wp2
      go_ret
      exact ⟨rfl, HB.out⟩
    · have HA := Lib.hid hA
      have HBf := Lib.hid hBf
      obtain ⟨X, HX⟩ : ∃ X, Hid (strOfNums (ptL a) = X) := ⟨_, Lib.hid rfl⟩
      obtain ⟨Y, HY⟩ : ∃ Y, Hid (strOfNums (ptL b) = Y) := ⟨_, Lib.hid rfl⟩
      obtain ⟨D, HD⟩ : ∃ D, Hid (decide (cmpP a b < 0) = D) := ⟨_, Lib.hid rfl⟩
      have HM1 : Hid (decide (m < 0) = D) := by rw [Hid, ← HD.out, Hm.out]
      have HM2 : Hid (Op.bytesLess X.toList Y.toList = D) := by
        rw [Hid, ← HX.out, ← HY.out, ← HD.out]
        exact put_less ha hb hA hBf
      clear ha hb hA hBf
      have K3 := Lib.hid (Holds.fresh w 25 #[.int .u8 a.c.b0, .int .u8 a.c.b1, .int .u8 a.c.b2, .int .u8 a.c.b3, .int .u8 a.c.b4, .int .u8 a.c.b5, .int .u8 a.c.b6, .int .u8 a.c.b7, .int .i64 a.n] (g := w.heap.size) (by simp))
      replace K3 := Lib.hid ((K3.out).laid (.cells #[.int .u8 b.c.b0, .int .u8 b.c.b1, .int .u8 b.c.b2, .int .u8 b.c.b3, .int .u8 b.c.b4, .int .u8 b.c.b5, .int .u8 b.c.b6, .int .u8 b.c.b7, .int .i64 b.n] 25))
      replace K3 := Lib.hid ((K3.out).laid (.cells #[.int .u8 c0, .int .u8 c1, .int .u8 c2, .int .u8 c3, .int .u8 c4, .int .u8 c5] 41))
      have K4 := Lib.hid (Holds.fresh (w.alloc (.cells #[.int .u8 a.c.b0, .int .u8 a.c.b1, .int .u8 a.c.b2, .int .u8 a.c.b3, .int .u8 a.c.b4, .int .u8 a.c.b5, .int .u8 a.c.b6, .int .u8 a.c.b7, .int .i64 a.n] 25)) 25 #[.int .u8 b.c.b0, .int .u8 b.c.b1, .int .u8 b.c.b2, .int .u8 b.c.b3, .int .u8 b.c.b4, .int .u8 b.c.b5, .int .u8 b.c.b6, .int .u8 b.c.b7, .int .i64 b.n] (g := w.heap.size + 1) (by simp))
      replace K4 := Lib.hid ((K4.out).laid (.cells #[.int .u8 c0, .int .u8 c1, .int .u8 c2, .int .u8 c3, .int .u8 c4, .int .u8 c5] 41))
      have K5 := Lib.hid (Holds.fresh ((w.alloc (.cells #[.int .u8 a.c.b0, .int .u8 a.c.b1, .int .u8 a.c.b2, .int .u8 a.c.b3, .int .u8 a.c.b4, .int .u8 a.c.b5, .int .u8 a.c.b6, .int .u8 a.c.b7, .int .i64 a.n] 25)).alloc (.cells #[.int .u8 b.c.b0, .int .u8 b.c.b1, .int .u8 b.c.b2, .int .u8 b.c.b3, .int .u8 b.c.b4, .int .u8 b.c.b5, .int .u8 b.c.b6, .int .u8 b.c.b7, .int .i64 b.n] 25)) 41 #[.int .u8 c0, .int .u8 c1, .int .u8 c2, .int .u8 c3, .int .u8 c4, .int .u8 c5] (g := w.heap.size + 1 + 1) (by simp))
      have HB := Lib.hid (bstep (bstep (bnew w (.cells #[.int .u8 a.c.b0, .int .u8 a.c.b1, .int .u8 a.c.b2, .int .u8 a.c.b3, .int .u8 a.c.b4, .int .u8 a.c.b5, .int .u8 a.c.b6, .int .u8 a.c.b7, .int .i64 a.n] 25)) (bnew _ (.cells #[.int .u8 b.c.b0, .int .u8 b.c.b1, .int .u8 b.c.b2, .int .u8 b.c.b3, .int .u8 b.c.b4, .int .u8 b.c.b5, .int .u8 b.c.b6, .int .u8 b.c.b7, .int .i64 b.n] 25))) (bnew _ (.cells #[.int .u8 c0, .int .u8 c1, .int .u8 c2, .int .u8 c3, .int .u8 c4, .int .u8 c5] 41)))
      go_enter Try.func6, Try.ntmps6
      go_wp2_with fail
      generalize (((w.alloc (.cells #[.int .u8 a.c.b0, .int .u8 a.c.b1, .int .u8 a.c.b2, .int .u8 a.c.b3, .int .u8 a.c.b4, .int .u8 a.c.b5, .int .u8 a.c.b6, .int .u8 a.c.b7, .int .i64 a.n] 25)).alloc (.cells #[.int .u8 b.c.b0, .int .u8 b.c.b1, .int .u8 b.c.b2, .int .u8 b.c.b3, .int .u8 b.c.b4, .int .u8 b.c.b5, .int .u8 b.c.b6, .int .u8 b.c.b7, .int .i64 b.n] 25)).alloc (.cells #[.int .u8 c0, .int .u8 c1, .int .u8 c2, .int .u8 c3, .int .u8 c4, .int .u8 c5] 41)) = W0 at *
      have x1_0 := (K3.out).reads (i := 0) rfl
      have x1_1 := (K3.out).reads (i := 1) rfl
      have x1_2 := (K3.out).reads (i := 2) rfl
      have x1_3 := (K3.out).reads (i := 3) rfl
      have x1_4 := (K3.out).reads (i := 4) rfl
      have x1_5 := (K3.out).reads (i := 5) rfl
      have x1_6 := (K3.out).reads (i := 6) rfl
      have x1_7 := (K3.out).reads (i := 7) rfl
      have x1_8 := (K3.out).reads (i := 8) rfl
      refine (idput_yes a _ HA.out).mono ?_
      rintro e w2 ⟨ga, hg, hh, hb1, rfl⟩
      clear x1_0 x1_1 x1_2 x1_3 x1_4 x1_5 x1_6 x1_7 x1_8
      replace K3 := Lib.hid ((K3.out).keptB hb1)
      replace K4 := Lib.hid ((K4.out).keptB hb1)
      replace K5 := Lib.hid ((K5.out).keptB hb1)
      replace HB := Lib.hid (bstep HB.out hb1)
      have Ga := Lib.hid hh
      clear hb1 hg hh
      have x3_0 := (K4.out).reads (i := 0) rfl
      have x3_1 := (K4.out).reads (i := 1) rfl
      have x3_2 := (K4.out).reads (i := 2) rfl
      have x3_3 := (K4.out).reads (i := 3) rfl
      have x3_4 := (K4.out).reads (i := 4) rfl
      have x3_5 := (K4.out).reads (i := 5) rfl
      have x3_6 := (K4.out).reads (i := 6) rfl
      have x3_7 := (K4.out).reads (i := 7) rfl
      have x3_8 := (K4.out).reads (i := 8) rfl
      go_wp2_with fail
      refine (idput_yes b _ HBf.out).mono ?_
      rintro e w4 ⟨gb, hg, hh, hb1, rfl⟩
      clear x3_0 x3_1 x3_2 x3_3 x3_4 x3_5 x3_6 x3_7 x3_8
      replace K3 := Lib.hid ((K3.out).keptB hb1)
      replace K4 := Lib.hid ((K4.out).keptB hb1)
      replace K5 := Lib.hid ((K5.out).keptB hb1)
      replace Ga := Lib.hid ((Ga.out).keptB hb1)
      replace HB := Lib.hid (bstep HB.out hb1)
      have Gb := Lib.hid hh
      clear hb1 hg hh
      have v1 := fun v (h : Holds v ga 5 (byteCells (ptL a))) => conv_row ga 10 (ptL a) v (ptL_length a) (row_cells h)
      have v2 := fun v (h : Holds v gb 5 (byteCells (ptL b))) => conv_row gb 10 (ptL b) v (ptL_length b) (row_cells h)
      rw [HX.out] at v1
      rw [HY.out] at v2
      have V1 := Lib.hid v1
      have V2 := Lib.hid v2
      clear v1 v2
      have hm1 := HM1.out
      have hm2 := HM2.out
      go_wp2_with fail
      have x5_0 := (K3.out).reads (i := 0) rfl
      have x5_1 := (K3.out).reads (i := 1) rfl
      have x5_2 := (K3.out).reads (i := 2) rfl
      have x5_3 := (K3.out).reads (i := 3) rfl
      have x5_4 := (K3.out).reads (i := 4) rfl
      have x5_5 := (K3.out).reads (i := 5) rfl
      have x5_6 := (K3.out).reads (i := 6) rfl
      have x5_7 := (K3.out).reads (i := 7) rfl
      have x5_8 := (K3.out).reads (i := 8) rfl
      have x6_0 := (K4.out).reads (i := 0) rfl
      have x6_1 := (K4.out).reads (i := 1) rfl
      have x6_2 := (K4.out).reads (i := 2) rfl
      have x6_3 := (K4.out).reads (i := 3) rfl
      have x6_4 := (K4.out).reads (i := 4) rfl
      have x6_5 := (K4.out).reads (i := 5) rfl
      have x6_6 := (K4.out).reads (i := 6) rfl
      have x6_7 := (K4.out).reads (i := 7) rfl
      have x6_8 := (K4.out).reads (i := 8) rfl
      refine wp_region_held_drew (S := fun v => (convert 35 9 (.slice (some ⟨ga, 0, none⟩) 10 10)).run Try.prog v = .ok (.string X) v ∧ (convert 35 9 (.slice (some ⟨gb, 0, none⟩) 10 10)).run Try.prog v = .ok (.string Y) v ∧ v.cell? ⟨w.heap.size, 0, none⟩ = some (.int .u8 a.c.b0) ∧ v.cell? ⟨w.heap.size, 1, none⟩ = some (.int .u8 a.c.b1) ∧ v.cell? ⟨w.heap.size, 2, none⟩ = some (.int .u8 a.c.b2) ∧ v.cell? ⟨w.heap.size, 3, none⟩ = some (.int .u8 a.c.b3) ∧ v.cell? ⟨w.heap.size, 4, none⟩ = some (.int .u8 a.c.b4) ∧ v.cell? ⟨w.heap.size, 5, none⟩ = some (.int .u8 a.c.b5) ∧ v.cell? ⟨w.heap.size, 6, none⟩ = some (.int .u8 a.c.b6) ∧ v.cell? ⟨w.heap.size, 7, none⟩ = some (.int .u8 a.c.b7) ∧ v.cell? ⟨w.heap.size, 8, none⟩ = some (.int .i64 a.n) ∧ v.cell? ⟨w.heap.size + 1, 0, none⟩ = some (.int .u8 b.c.b0) ∧ v.cell? ⟨w.heap.size + 1, 1, none⟩ = some (.int .u8 b.c.b1) ∧ v.cell? ⟨w.heap.size + 1, 2, none⟩ = some (.int .u8 b.c.b2) ∧ v.cell? ⟨w.heap.size + 1, 3, none⟩ = some (.int .u8 b.c.b3) ∧ v.cell? ⟨w.heap.size + 1, 4, none⟩ = some (.int .u8 b.c.b4) ∧ v.cell? ⟨w.heap.size + 1, 5, none⟩ = some (.int .u8 b.c.b5) ∧ v.cell? ⟨w.heap.size + 1, 6, none⟩ = some (.int .u8 b.c.b6) ∧ v.cell? ⟨w.heap.size + 1, 7, none⟩ = some (.int .u8 b.c.b7) ∧ v.cell? ⟨w.heap.size + 1, 8, none⟩ = some (.int .i64 b.n)) (by kernel_rfl) ?_ (fun hHeld => ?_)
      · exact ⟨V1.out _ Ga.out.drew, V2.out _ Gb.out.drew, x5_0, x5_1, x5_2, x5_3, x5_4, x5_5, x5_6, x5_7, x5_8, x6_0, x6_1, x6_2, x6_3, x6_4, x6_5, x6_6, x6_7, x6_8⟩
      refine wpAnyH_take (i := 0) (v := .bool true) (at_list rfl) (by kernel_rfl) (by kernel_rfl) (by kernel_rfl) (fun _ _ _ h => h) (Or.inl ⟨by rfl, ?_⟩) (by assumption) ?_
      · intro v hSv
        obtain ⟨q0, q1, q2, q3, q4, q5, q6, q7, q8, q9, q10, q11, q12, q13, q14, q15, q16, q17, q18, q19⟩ := hSv
        go_simp
      try simp only [Act.put, List.setIfInBounds_toArray, List.set_cons_zero, List.set_cons_succ]
      refine wpAnyH_take (i := 1) (v := .bool true) (at_list rfl) (by kernel_rfl) (by kernel_rfl) (by kernel_rfl) (fun _ _ _ h => h) (Or.inl ⟨by rfl, ?_⟩) (by assumption) ?_
      · intro v hSv
        obtain ⟨q0, q1, q2, q3, q4, q5, q6, q7, q8, q9, q10, q11, q12, q13, q14, q15, q16, q17, q18, q19⟩ := hSv
        go_simp
      try simp only [Act.put, List.setIfInBounds_toArray, List.set_cons_zero, List.set_cons_succ]
      refine wpAnyH_take (i := 2) (v := .bool true) (at_list rfl) (by kernel_rfl) (by kernel_rfl) (by kernel_rfl) (fun _ _ _ h => h) (Or.inl ⟨by rfl, ?_⟩) (by assumption) ?_
      · intro v hSv
        obtain ⟨q0, q1, q2, q3, q4, q5, q6, q7, q8, q9, q10, q11, q12, q13, q14, q15, q16, q17, q18, q19⟩ := hSv
        go_simp
      try simp only [Act.put, List.setIfInBounds_toArray, List.set_cons_zero, List.set_cons_succ]
      refine wpAnyH_take (i := 3) (v := .bool true) (at_list rfl) (by kernel_rfl) (by kernel_rfl) (by kernel_rfl) (fun _ _ _ h => h) (Or.inl ⟨by rfl, ?_⟩) (by assumption) ?_
      · intro v hSv
        obtain ⟨q0, q1, q2, q3, q4, q5, q6, q7, q8, q9, q10, q11, q12, q13, q14, q15, q16, q17, q18, q19⟩ := hSv
        go_simp
      try simp only [Act.put, List.setIfInBounds_toArray, List.set_cons_zero, List.set_cons_succ]
      refine wpAnyH_take (i := 4) (v := .bool true) (at_list rfl) (by kernel_rfl) (by kernel_rfl) (by kernel_rfl) (fun _ _ _ h => h) (Or.inl ⟨by rfl, ?_⟩) (by assumption) ?_
      · intro v hSv
        obtain ⟨q0, q1, q2, q3, q4, q5, q6, q7, q8, q9, q10, q11, q12, q13, q14, q15, q16, q17, q18, q19⟩ := hSv
        go_simp
      try simp only [Act.put, List.setIfInBounds_toArray, List.set_cons_zero, List.set_cons_succ]
      refine wpAnyH_take (i := 5) (v := .agg #[.int .u8 a.c.b0, .int .u8 a.c.b1, .int .u8 a.c.b2, .int .u8 a.c.b3, .int .u8 a.c.b4, .int .u8 a.c.b5, .int .u8 a.c.b6, .int .u8 a.c.b7, .int .i64 a.n]) (at_list rfl) (by kernel_rfl) (by kernel_rfl) (by kernel_rfl) (fun _ _ _ h => h) (Or.inl ⟨by rfl, ?_⟩) (by assumption) ?_
      · intro v hSv
        obtain ⟨q0, q1, q2, q3, q4, q5, q6, q7, q8, q9, q10, q11, q12, q13, q14, q15, q16, q17, q18, q19⟩ := hSv
        go_simp
      try simp only [Act.put, List.setIfInBounds_toArray, List.set_cons_zero, List.set_cons_succ]
      refine wpAnyH_take (i := 6) (v := .agg #[.int .u8 b.c.b0, .int .u8 b.c.b1, .int .u8 b.c.b2, .int .u8 b.c.b3, .int .u8 b.c.b4, .int .u8 b.c.b5, .int .u8 b.c.b6, .int .u8 b.c.b7, .int .i64 b.n]) (at_list rfl) (by kernel_rfl) (by kernel_rfl) (by kernel_rfl) (fun _ _ _ h => h) (Or.inl ⟨by rfl, ?_⟩) (by assumption) ?_
      · intro v hSv
        obtain ⟨q0, q1, q2, q3, q4, q5, q6, q7, q8, q9, q10, q11, q12, q13, q14, q15, q16, q17, q18, q19⟩ := hSv
        go_simp
      try simp only [Act.put, List.setIfInBounds_toArray, List.set_cons_zero, List.set_cons_succ]
      refine wpAnyH_take (i := 9) (v := .slice (some ⟨ga, 0, none⟩) 10 10) (at_list rfl) (by kernel_rfl) (by kernel_rfl) (by kernel_rfl) (fun _ _ _ h => h) (Or.inl ⟨by rfl, ?_⟩) (by assumption) ?_
      · intro v hSv
        obtain ⟨q0, q1, q2, q3, q4, q5, q6, q7, q8, q9, q10, q11, q12, q13, q14, q15, q16, q17, q18, q19⟩ := hSv
        go_simp
      try simp only [Act.put, List.setIfInBounds_toArray, List.set_cons_zero, List.set_cons_succ]
      refine wpAnyH_take (i := 10) (v := .string X) (at_list rfl) (by kernel_rfl) (by kernel_rfl) (by kernel_rfl) (fun _ _ _ h => h) (Or.inl ⟨by rfl, ?_⟩) (by assumption) ?_
      · intro v hSv
        obtain ⟨q0, q1, q2, q3, q4, q5, q6, q7, q8, q9, q10, q11, q12, q13, q14, q15, q16, q17, q18, q19⟩ := hSv
        go_simp
      try simp only [Act.put, List.setIfInBounds_toArray, List.set_cons_zero, List.set_cons_succ]
      refine wpAnyH_take (i := 11) (v := .slice (some ⟨gb, 0, none⟩) 10 10) (at_list rfl) (by kernel_rfl) (by kernel_rfl) (by kernel_rfl) (fun _ _ _ h => h) (Or.inl ⟨by rfl, ?_⟩) (by assumption) ?_
      · intro v hSv
        obtain ⟨q0, q1, q2, q3, q4, q5, q6, q7, q8, q9, q10, q11, q12, q13, q14, q15, q16, q17, q18, q19⟩ := hSv
        go_simp
      try simp only [Act.put, List.setIfInBounds_toArray, List.set_cons_zero, List.set_cons_succ]
      refine wpAnyH_take (i := 12) (v := .string Y) (at_list rfl) (by kernel_rfl) (by kernel_rfl) (by kernel_rfl) (fun _ _ _ h => h) (Or.inl ⟨by rfl, ?_⟩) (by assumption) ?_
      · intro v hSv
        obtain ⟨q0, q1, q2, q3, q4, q5, q6, q7, q8, q9, q10, q11, q12, q13, q14, q15, q16, q17, q18, q19⟩ := hSv
        go_simp
      try simp only [Act.put, List.setIfInBounds_toArray, List.set_cons_zero, List.set_cons_succ]
      refine wpAnyH_take (i := 13) (v := .bool D) (at_list rfl) (by kernel_rfl) (by kernel_rfl) (by kernel_rfl) (fun _ _ _ h => h) (Or.inl ⟨by rfl, ?_⟩) (by assumption) ?_
      · intro v hSv
        obtain ⟨q0, q1, q2, q3, q4, q5, q6, q7, q8, q9, q10, q11, q12, q13, q14, q15, q16, q17, q18, q19⟩ := hSv
        go_simp
      try simp only [Act.put, List.setIfInBounds_toArray, List.set_cons_zero, List.set_cons_succ]
      refine wpAnyH_ready (rs := [7]) (by kernel_rfl) (by simp) ?_
      refine AllReadyH.cons (at_list rfl) (fun K hK => ?_) AllReadyH.nil
      go_simp
      refine (C1.out _).mono ?_
      rintro e v7_12 ⟨rfl, hv7_12⟩
      go_wp2_with fail
      refine hK.out _ _ ?_ (fun hHeld => ?_)
      · exact ⟨V1.out _ ((Ga.out).drew.keptB hv7_12), V2.out _ ((Gb.out).drew.keptB hv7_12), keep18 hv7_12 hHeld.2.2⟩
      clear hK K
      try simp only [Act.put, List.setIfInBounds_toArray, List.set_cons_zero, List.set_cons_succ]
      refine wpAnyH_take (i := 8) (v := .bool D) (at_list rfl) (by kernel_rfl) (by kernel_rfl) (by kernel_rfl) (fun _ _ _ h => h) (Or.inl ⟨by rfl, ?_⟩) (by assumption) ?_
      · intro v hSv
        obtain ⟨q0, q1, q2, q3, q4, q5, q6, q7, q8, q9, q10, q11, q12, q13, q14, q15, q16, q17, q18, q19⟩ := hSv
        go_simp
      try simp only [Act.put, List.setIfInBounds_toArray, List.set_cons_zero, List.set_cons_succ]
      refine wpAnyH_take (i := 14) (v := .bool false) (at_list rfl) (by kernel_rfl) (by kernel_rfl) (by kernel_rfl) (fun _ _ _ h => h) (Or.inl ⟨by rfl, ?_⟩) (by assumption) ?_
      · intro v hSv
        obtain ⟨q0, q1, q2, q3, q4, q5, q6, q7, q8, q9, q10, q11, q12, q13, q14, q15, q16, q17, q18, q19⟩ := hSv
        go_simp
      try simp only [Act.put, List.setIfInBounds_toArray, List.set_cons_zero, List.set_cons_succ]
      refine wpAnyH_take (i := 15) (v := .bool false) (at_list rfl) (by kernel_rfl) (by kernel_rfl) (by kernel_rfl) (fun _ _ _ h => h) (Or.inl ⟨by rfl, ?_⟩) (by assumption) ?_
      · intro v hSv
        obtain ⟨q0, q1, q2, q3, q4, q5, q6, q7, q8, q9, q10, q11, q12, q13, q14, q15, q16, q17, q18, q19⟩ := hSv
        go_simp
      try simp only [Act.put, List.setIfInBounds_toArray, List.set_cons_zero, List.set_cons_succ]
      refine wpAnyH_done (by kernel_rfl) ?_ _
      have HV8 := Lib.hid (bstep (bdrew (Below.refl (w4).heap.size w4)) hv7_12)
      clear x5_0 x5_1 x5_2 x5_3 x5_4 x5_5 x5_6 x5_7 x5_8 x6_0 x6_1 x6_2 x6_3 x6_4 x6_5 x6_6 x6_7 x6_8
      replace K3 := Lib.hid ((K3.out).keptB HV8.out)
      replace K4 := Lib.hid ((K4.out).keptB HV8.out)
      replace K5 := Lib.hid ((K5.out).keptB HV8.out)
      replace Ga := Lib.hid ((Ga.out).keptB HV8.out)
      replace Gb := Lib.hid ((Gb.out).keptB HV8.out)
      replace HB := Lib.hid (bstep HB.out HV8.out)
      clear hv7_12 HV8
      clear hm1 hm2 V1 V2
      clear Ga
      clear Gb
      have x9_0 := (K5.out).reads (i := 0) rfl
      have x9_1 := (K5.out).reads (i := 1) rfl
      have x9_2 := (K5.out).reads (i := 2) rfl
      have x9_3 := (K5.out).reads (i := 3) rfl
      have x9_4 := (K5.out).reads (i := 4) rfl
      have x9_5 := (K5.out).reads (i := 5) rfl
      go_wp2_with fail
      refine (C5.out _).mono ?_
      rintro e w10 ⟨rfl, hw10⟩
      clear x9_0 x9_1 x9_2 x9_3 x9_4 x9_5
      replace K3 := Lib.hid ((K3.out).keptB hw10)
      replace K4 := Lib.hid ((K4.out).keptB hw10)
      replace K5 := Lib.hid ((K5.out).keptB hw10)
      replace HB := Lib.hid (bstep HB.out hw10)
      clear hw10
      replace K3 := Lib.hid ((K3.out).laid (.cells #[.int .u8 c0, .int .u8 c1, .int .u8 c2, .int .u8 255, .int .u8 254, .int .u8 c3, .int .u8 c4, .int .u8 c5] 23))
      replace K4 := Lib.hid ((K4.out).laid (.cells #[.int .u8 c0, .int .u8 c1, .int .u8 c2, .int .u8 255, .int .u8 254, .int .u8 c3, .int .u8 c4, .int .u8 c5] 23))
      replace K5 := Lib.hid ((K5.out).laid (.cells #[.int .u8 c0, .int .u8 c1, .int .u8 c2, .int .u8 255, .int .u8 254, .int .u8 c3, .int .u8 c4, .int .u8 c5] 23))
      have K11 := Lib.hid (Holds.fresh w10 23 #[.int .u8 c0, .int .u8 c1, .int .u8 c2, .int .u8 255, .int .u8 254, .int .u8 c3, .int .u8 c4, .int .u8 c5] (g := (w10).heap.size) rfl)
      replace HB := Lib.hid (bstep HB.out (bnew _ (.cells #[.int .u8 c0, .int .u8 c1, .int .u8 c2, .int .u8 255, .int .u8 254, .int .u8 c3, .int .u8 c4, .int .u8 c5] 23)))
      go_wp2_with fail
      obtain ⟨g11, hg11⟩ : ∃ g, (w10).heap.size = g := ⟨_, rfl⟩
      rw [hg11] at K11 ⊢
      clear hg11
      generalize (w10.alloc (.cells #[.int .u8 c0, .int .u8 c1, .int .u8 c2, .int .u8 255, .int .u8 254, .int .u8 c3, .int .u8 c4, .int .u8 c5] 23)) = V9 at *
      have hl1 := HL1.out
      have hl2 := HL2.out
      have hq := HQ.out
      have x11_0 := (K3.out).reads (i := 0) rfl
      have x11_1 := (K3.out).reads (i := 1) rfl
      have x11_2 := (K3.out).reads (i := 2) rfl
      have x11_3 := (K3.out).reads (i := 3) rfl
      have x11_4 := (K3.out).reads (i := 4) rfl
      have x11_5 := (K3.out).reads (i := 5) rfl
      have x11_6 := (K3.out).reads (i := 6) rfl
      have x11_7 := (K3.out).reads (i := 7) rfl
      have x11_8 := (K3.out).reads (i := 8) rfl
      have x12_0 := (K4.out).reads (i := 0) rfl
      have x12_1 := (K4.out).reads (i := 1) rfl
      have x12_2 := (K4.out).reads (i := 2) rfl
      have x12_3 := (K4.out).reads (i := 3) rfl
      have x12_4 := (K4.out).reads (i := 4) rfl
      have x12_5 := (K4.out).reads (i := 5) rfl
      have x12_6 := (K4.out).reads (i := 6) rfl
      have x12_7 := (K4.out).reads (i := 7) rfl
      have x12_8 := (K4.out).reads (i := 8) rfl
      have x13_0 := (K11.out).reads (i := 0) rfl
      have x13_1 := (K11.out).reads (i := 1) rfl
      have x13_2 := (K11.out).reads (i := 2) rfl
      have x13_3 := (K11.out).reads (i := 3) rfl
      have x13_4 := (K11.out).reads (i := 4) rfl
      have x13_5 := (K11.out).reads (i := 5) rfl
      have x13_6 := (K11.out).reads (i := 6) rfl
      have x13_7 := (K11.out).reads (i := 7) rfl
      have x14_0 := (K5.out).reads (i := 0) rfl
      have x14_1 := (K5.out).reads (i := 1) rfl
      have x14_2 := (K5.out).reads (i := 2) rfl
      have x14_3 := (K5.out).reads (i := 3) rfl
      have x14_4 := (K5.out).reads (i := 4) rfl
      have x14_5 := (K5.out).reads (i := 5) rfl
      go_region_held3 (fun v => v.cell? ⟨w.heap.size, 0, none⟩ = some (.int .u8 a.c.b0) ∧ v.cell? ⟨w.heap.size, 1, none⟩ = some (.int .u8 a.c.b1) ∧ v.cell? ⟨w.heap.size, 2, none⟩ = some (.int .u8 a.c.b2) ∧ v.cell? ⟨w.heap.size, 3, none⟩ = some (.int .u8 a.c.b3) ∧ v.cell? ⟨w.heap.size, 4, none⟩ = some (.int .u8 a.c.b4) ∧ v.cell? ⟨w.heap.size, 5, none⟩ = some (.int .u8 a.c.b5) ∧ v.cell? ⟨w.heap.size, 6, none⟩ = some (.int .u8 a.c.b6) ∧ v.cell? ⟨w.heap.size, 7, none⟩ = some (.int .u8 a.c.b7) ∧ v.cell? ⟨w.heap.size, 8, none⟩ = some (.int .i64 a.n) ∧ v.cell? ⟨w.heap.size + 1, 0, none⟩ = some (.int .u8 b.c.b0) ∧ v.cell? ⟨w.heap.size + 1, 1, none⟩ = some (.int .u8 b.c.b1) ∧ v.cell? ⟨w.heap.size + 1, 2, none⟩ = some (.int .u8 b.c.b2) ∧ v.cell? ⟨w.heap.size + 1, 3, none⟩ = some (.int .u8 b.c.b3) ∧ v.cell? ⟨w.heap.size + 1, 4, none⟩ = some (.int .u8 b.c.b4) ∧ v.cell? ⟨w.heap.size + 1, 5, none⟩ = some (.int .u8 b.c.b5) ∧ v.cell? ⟨w.heap.size + 1, 6, none⟩ = some (.int .u8 b.c.b6) ∧ v.cell? ⟨w.heap.size + 1, 7, none⟩ = some (.int .u8 b.c.b7) ∧ v.cell? ⟨w.heap.size + 1, 8, none⟩ = some (.int .i64 b.n) ∧ v.cell? ⟨g11, 0, none⟩ = some (.int .u8 c0) ∧ v.cell? ⟨g11, 1, none⟩ = some (.int .u8 c1) ∧ v.cell? ⟨g11, 2, none⟩ = some (.int .u8 c2) ∧ v.cell? ⟨g11, 3, none⟩ = some (.int .u8 255) ∧ v.cell? ⟨g11, 4, none⟩ = some (.int .u8 254) ∧ v.cell? ⟨g11, 5, none⟩ = some (.int .u8 c3) ∧ v.cell? ⟨g11, 6, none⟩ = some (.int .u8 c4) ∧ v.cell? ⟨g11, 7, none⟩ = some (.int .u8 c5) ∧ v.cell? ⟨w.heap.size + 1 + 1, 0, none⟩ = some (.int .u8 c0) ∧ v.cell? ⟨w.heap.size + 1 + 1, 1, none⟩ = some (.int .u8 c1) ∧ v.cell? ⟨w.heap.size + 1 + 1, 2, none⟩ = some (.int .u8 c2) ∧ v.cell? ⟨w.heap.size + 1 + 1, 3, none⟩ = some (.int .u8 c3) ∧ v.cell? ⟨w.heap.size + 1 + 1, 4, none⟩ = some (.int .u8 c4) ∧ v.cell? ⟨w.heap.size + 1 + 1, 5, none⟩ = some (.int .u8 c5))
        (first | (with_reducible exact keep32 (by assumption) (by assumption)) | (with_reducible exact keep32 (bnew _ _) (by assumption)) | (exact ⟨x11_0, x11_1, x11_2, x11_3, x11_4, x11_5, x11_6, x11_7, x11_8, x12_0, x12_1, x12_2, x12_3, x12_4, x12_5, x12_6, x12_7, x12_8, x13_0, x13_1, x13_2, x13_3, x13_4, x13_5, x13_6, x13_7, x14_0, x14_1, x14_2, x14_3, x14_4, x14_5⟩) | go_keep)
        (first
          | (go_at_call 14; (with_reducible refine (alive4_any _).mono ?_); rintro e v15_0 ⟨rfl, hv15_0⟩)
          | (go_at_call 10; (with_reducible refine (C2.out _).mono ?_); rintro e v15_1 ⟨rfl, hv15_1⟩)
          | (go_at_call 18; (with_reducible refine (C3.out _).mono ?_); rintro e v15_2 ⟨rfl, hv15_2⟩)
          | (go_at_call 18; (with_reducible refine (C4.out _).mono ?_); rintro e v15_3 ⟨rfl, hv15_3⟩)
          | (go_at_call 25; (with_reducible refine (C6.out _).mono ?_); rintro e v15_4 ⟨rfl, hv15_4⟩))
      have HV16 := Lib.hid (bstep (bstep (bstep (bstep (bstep (bdrew (Below.refl (V9).heap.size V9)) hv15_0) hv15_1) hv15_2) hv15_3) hv15_4)
      clear x11_0 x11_1 x11_2 x11_3 x11_4 x11_5 x11_6 x11_7 x11_8 x12_0 x12_1 x12_2 x12_3 x12_4 x12_5 x12_6 x12_7 x12_8 x13_0 x13_1 x13_2 x13_3 x13_4 x13_5 x13_6 x13_7 x14_0 x14_1 x14_2 x14_3 x14_4 x14_5
      replace K3 := Lib.hid ((K3.out).keptB HV16.out)
      replace K4 := Lib.hid ((K4.out).keptB HV16.out)
      replace K5 := Lib.hid ((K5.out).keptB HV16.out)
      replace K11 := Lib.hid ((K11.out).keptB HV16.out)
      replace HB := Lib.hid (bstep HB.out HV16.out)
      clear hv15_0 hv15_1 hv15_2 hv15_3 hv15_4 HV16
      clear hl1 hl2 hq
      go_wp2
      go_ret
      exact ⟨rfl, HB.out⟩

end Go.Proofs.Ytbiglmpibdlhmaa
