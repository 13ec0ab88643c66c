/- The walk over the law HeadTurned. -/
import Derived.Test.YtfjbghenlchphaaDoorHeadWords2
namespace Go.Proofs.YtfjbghenlchphaaDoor
open Go.RowKit
set_option linter.unusedVariables false

set_option maxRecDepth 100000 in
set_option maxHeartbeats 4000000 in
theorem turned5_no (h : Hd) (hok : h.p.c.ok) (hf : In64 h.f) (hc : In64 h.c) (p q : Int) (w : World) (hl : Lens w) (hR : h.right = false) :
    Calls Tryd.prog 8 #[.agg #[.int .i64 h.t, .int .i64 h.d, .int .i64 h.f, .int .i64 h.c, .int .u8 h.p.c.b0, .int .u8 h.p.c.b1, .int .u8 h.p.c.b2, .int .u8 h.p.c.b3, .int .u8 h.p.c.b4, .int .u8 h.p.c.b5, .int .u8 h.p.c.b6, .int .u8 h.p.c.b7, .int .i64 h.p.n, .int .i64 h.s, .int .i64 h.l], .int .i64 p, .int .i64 q] w fun e w' => e = .returned (.bool true) ∧ Below w.heap.size w w' := by
  have HL := Lib.hid hl
  clear hl
  have C0 := Lib.hid (fun v (hv : Lens v) => encode_no h v hv hf.1 hf.2 hR)
  clear hok hf hc hR
  replace HL := Lib.hid ((HL.out).laid (.cells #[.int .i64 h.t, .int .i64 h.d, .int .i64 h.f, .int .i64 h.c, .int .u8 h.p.c.b0, .int .u8 h.p.c.b1, .int .u8 h.p.c.b2, .int .u8 h.p.c.b3, .int .u8 h.p.c.b4, .int .u8 h.p.c.b5, .int .u8 h.p.c.b6, .int .u8 h.p.c.b7, .int .i64 h.p.n, .int .i64 h.s, .int .i64 h.l] 27))
  have KH := Lib.hid (Holds.fresh w 27 #[.int .i64 h.t, .int .i64 h.d, .int .i64 h.f, .int .i64 h.c, .int .u8 h.p.c.b0, .int .u8 h.p.c.b1, .int .u8 h.p.c.b2, .int .u8 h.p.c.b3, .int .u8 h.p.c.b4, .int .u8 h.p.c.b5, .int .u8 h.p.c.b6, .int .u8 h.p.c.b7, .int .i64 h.p.n, .int .i64 h.s, .int .i64 h.l] (g := w.heap.size) (by simp))
  have HB := Lib.hid (bnew w (.cells #[.int .i64 h.t, .int .i64 h.d, .int .i64 h.f, .int .i64 h.c, .int .u8 h.p.c.b0, .int .u8 h.p.c.b1, .int .u8 h.p.c.b2, .int .u8 h.p.c.b3, .int .u8 h.p.c.b4, .int .u8 h.p.c.b5, .int .u8 h.p.c.b6, .int .u8 h.p.c.b7, .int .i64 h.p.n, .int .i64 h.s, .int .i64 h.l] 27))
  go_enter Tryd.func8, Tryd.ntmps8
  go_wp2_with fail
  generalize (w.alloc (.cells #[.int .i64 h.t, .int .i64 h.d, .int .i64 h.f, .int .i64 h.c, .int .u8 h.p.c.b0, .int .u8 h.p.c.b1, .int .u8 h.p.c.b2, .int .u8 h.p.c.b3, .int .u8 h.p.c.b4, .int .u8 h.p.c.b5, .int .u8 h.p.c.b6, .int .u8 h.p.c.b7, .int .i64 h.p.n, .int .i64 h.s, .int .i64 h.l] 27)) = W0 at *
  have x1_0 := (KH.out).reads (i := 0) rfl
  have x1_1 := (KH.out).reads (i := 1) rfl
  have x1_2 := (KH.out).reads (i := 2) rfl
  have x1_3 := (KH.out).reads (i := 3) rfl
  have x1_4 := (KH.out).reads (i := 4) rfl
  have x1_5 := (KH.out).reads (i := 5) rfl
  have x1_6 := (KH.out).reads (i := 6) rfl
  have x1_7 := (KH.out).reads (i := 7) rfl
  have x1_8 := (KH.out).reads (i := 8) rfl
  have x1_9 := (KH.out).reads (i := 9) rfl
  have x1_10 := (KH.out).reads (i := 10) rfl
  have x1_11 := (KH.out).reads (i := 11) rfl
  have x1_12 := (KH.out).reads (i := 12) rfl
  have x1_13 := (KH.out).reads (i := 13) rfl
  have x1_14 := (KH.out).reads (i := 14) rfl
  refine (C0.out _ HL.out).mono ?_
  rintro e w2 ⟨rfl, hw2⟩
  clear x1_0 x1_1 x1_2 x1_3 x1_4 x1_5 x1_6 x1_7 x1_8 x1_9 x1_10 x1_11 x1_12 x1_13 x1_14
  replace HL := Lib.hid ((HL.out).keptB hw2)
  replace KH := Lib.hid ((KH.out).keptB hw2)
  replace HB := Lib.hid (bstep HB.out hw2)
  clear hw2
  go_wp2_with fail
  refine (alive5_any _ HL.out).mono ?_
  rintro e w3 ⟨rfl, hw3⟩
  replace HL := Lib.hid ((HL.out).keptB hw3)
  replace KH := Lib.hid ((KH.out).keptB hw3)
  replace HB := Lib.hid (bstep HB.out hw3)
  clear hw3
  go_wp2
  go_ret
  exact ⟨rfl, HB.out⟩
set_option maxRecDepth 100000 in
set_option maxHeartbeats 4000000 in
theorem turned5_d0 (h : Hd) (hok : h.p.c.ok) (hf : In64 h.f) (hc : In64 h.c) (p q : Int) (w : World) (hl : Lens w) (hR : h.right = true) (c : p < 0) :
    Calls Tryd.prog 8 #[.agg #[.int .i64 h.t, .int .i64 h.d, .int .i64 h.f, .int .i64 h.c, .int .u8 h.p.c.b0, .int .u8 h.p.c.b1, .int .u8 h.p.c.b2, .int .u8 h.p.c.b3, .int .u8 h.p.c.b4, .int .u8 h.p.c.b5, .int .u8 h.p.c.b6, .int .u8 h.p.c.b7, .int .i64 h.p.n, .int .i64 h.s, .int .i64 h.l], .int .i64 p, .int .i64 q] w fun e w' => e = .returned (.bool true) ∧ Below w.heap.size w w' := by
  have HL := Lib.hid hl
  clear hl
  have C0 := Lib.hid (fun v (hv : Lens v) => encode_yes h v hv hR)
  have d1 : decide (p < 0) = true := by simpa using c
  clear hok hf hc hR
  replace HL := Lib.hid ((HL.out).laid (.cells #[.int .i64 h.t, .int .i64 h.d, .int .i64 h.f, .int .i64 h.c, .int .u8 h.p.c.b0, .int .u8 h.p.c.b1, .int .u8 h.p.c.b2, .int .u8 h.p.c.b3, .int .u8 h.p.c.b4, .int .u8 h.p.c.b5, .int .u8 h.p.c.b6, .int .u8 h.p.c.b7, .int .i64 h.p.n, .int .i64 h.s, .int .i64 h.l] 27))
  have KH := Lib.hid (Holds.fresh w 27 #[.int .i64 h.t, .int .i64 h.d, .int .i64 h.f, .int .i64 h.c, .int .u8 h.p.c.b0, .int .u8 h.p.c.b1, .int .u8 h.p.c.b2, .int .u8 h.p.c.b3, .int .u8 h.p.c.b4, .int .u8 h.p.c.b5, .int .u8 h.p.c.b6, .int .u8 h.p.c.b7, .int .i64 h.p.n, .int .i64 h.s, .int .i64 h.l] (g := w.heap.size) (by simp))
  have HB := Lib.hid (bnew w (.cells #[.int .i64 h.t, .int .i64 h.d, .int .i64 h.f, .int .i64 h.c, .int .u8 h.p.c.b0, .int .u8 h.p.c.b1, .int .u8 h.p.c.b2, .int .u8 h.p.c.b3, .int .u8 h.p.c.b4, .int .u8 h.p.c.b5, .int .u8 h.p.c.b6, .int .u8 h.p.c.b7, .int .i64 h.p.n, .int .i64 h.s, .int .i64 h.l] 27))
  go_enter Tryd.func8, Tryd.ntmps8
  go_wp2_with fail
  generalize (w.alloc (.cells #[.int .i64 h.t, .int .i64 h.d, .int .i64 h.f, .int .i64 h.c, .int .u8 h.p.c.b0, .int .u8 h.p.c.b1, .int .u8 h.p.c.b2, .int .u8 h.p.c.b3, .int .u8 h.p.c.b4, .int .u8 h.p.c.b5, .int .u8 h.p.c.b6, .int .u8 h.p.c.b7, .int .i64 h.p.n, .int .i64 h.s, .int .i64 h.l] 27)) = W0 at *
  have x1_0 := (KH.out).reads (i := 0) rfl
  have x1_1 := (KH.out).reads (i := 1) rfl
  have x1_2 := (KH.out).reads (i := 2) rfl
  have x1_3 := (KH.out).reads (i := 3) rfl
  have x1_4 := (KH.out).reads (i := 4) rfl
  have x1_5 := (KH.out).reads (i := 5) rfl
  have x1_6 := (KH.out).reads (i := 6) rfl
  have x1_7 := (KH.out).reads (i := 7) rfl
  have x1_8 := (KH.out).reads (i := 8) rfl
  have x1_9 := (KH.out).reads (i := 9) rfl
  have x1_10 := (KH.out).reads (i := 10) rfl
  have x1_11 := (KH.out).reads (i := 11) rfl
  have x1_12 := (KH.out).reads (i := 12) rfl
  have x1_13 := (KH.out).reads (i := 13) rfl
  have x1_14 := (KH.out).reads (i := 14) rfl
  refine (C0.out _ HL.out).mono ?_
  rintro e w2 ⟨g1, -, rfl, n_KG, hw2⟩
  clear x1_0 x1_1 x1_2 x1_3 x1_4 x1_5 x1_6 x1_7 x1_8 x1_9 x1_10 x1_11 x1_12 x1_13 x1_14
  replace HL := Lib.hid ((HL.out).keptB hw2)
  replace KH := Lib.hid ((KH.out).keptB hw2)
  replace HB := Lib.hid (bstep HB.out hw2)
  clear hw2
  go_wp2_with fail
  refine (alive5_any _ HL.out).mono ?_
  rintro e w3 ⟨rfl, hw3⟩
  replace HL := Lib.hid ((HL.out).keptB hw3)
  replace KH := Lib.hid ((KH.out).keptB hw3)
  replace HB := Lib.hid (bstep HB.out hw3)
  clear hw3
  go_wp2
  go_ret
  exact ⟨rfl, HB.out⟩
set_option maxRecDepth 100000 in
set_option maxHeartbeats 4000000 in
theorem turned5_d1 (h : Hd) (hok : h.p.c.ok) (hf : In64 h.f) (hc : In64 h.c) (p q : Int) (w : World) (hl : Lens w) (hR : h.right = true) (c0 : ¬ p < 0) (c : 33 < p) :
    Calls Tryd.prog 8 #[.agg #[.int .i64 h.t, .int .i64 h.d, .int .i64 h.f, .int .i64 h.c, .int .u8 h.p.c.b0, .int .u8 h.p.c.b1, .int .u8 h.p.c.b2, .int .u8 h.p.c.b3, .int .u8 h.p.c.b4, .int .u8 h.p.c.b5, .int .u8 h.p.c.b6, .int .u8 h.p.c.b7, .int .i64 h.p.n, .int .i64 h.s, .int .i64 h.l], .int .i64 p, .int .i64 q] w fun e w' => e = .returned (.bool true) ∧ Below w.heap.size w w' := by
  have HL := Lib.hid hl
  clear hl
  have C0 := Lib.hid (fun v (hv : Lens v) => encode_yes h v hv hR)
  have d1 : decide (p < 0) = false := by simp; omega
  have d2 : decide (33 < p) = true := by simpa using c
  clear hok hf hc hR
  replace HL := Lib.hid ((HL.out).laid (.cells #[.int .i64 h.t, .int .i64 h.d, .int .i64 h.f, .int .i64 h.c, .int .u8 h.p.c.b0, .int .u8 h.p.c.b1, .int .u8 h.p.c.b2, .int .u8 h.p.c.b3, .int .u8 h.p.c.b4, .int .u8 h.p.c.b5, .int .u8 h.p.c.b6, .int .u8 h.p.c.b7, .int .i64 h.p.n, .int .i64 h.s, .int .i64 h.l] 27))
  have KH := Lib.hid (Holds.fresh w 27 #[.int .i64 h.t, .int .i64 h.d, .int .i64 h.f, .int .i64 h.c, .int .u8 h.p.c.b0, .int .u8 h.p.c.b1, .int .u8 h.p.c.b2, .int .u8 h.p.c.b3, .int .u8 h.p.c.b4, .int .u8 h.p.c.b5, .int .u8 h.p.c.b6, .int .u8 h.p.c.b7, .int .i64 h.p.n, .int .i64 h.s, .int .i64 h.l] (g := w.heap.size) (by simp))
  have HB := Lib.hid (bnew w (.cells #[.int .i64 h.t, .int .i64 h.d, .int .i64 h.f, .int .i64 h.c, .int .u8 h.p.c.b0, .int .u8 h.p.c.b1, .int .u8 h.p.c.b2, .int .u8 h.p.c.b3, .int .u8 h.p.c.b4, .int .u8 h.p.c.b5, .int .u8 h.p.c.b6, .int .u8 h.p.c.b7, .int .i64 h.p.n, .int .i64 h.s, .int .i64 h.l] 27))
  go_enter Tryd.func8, Tryd.ntmps8
  go_wp2_with fail
  generalize (w.alloc (.cells #[.int .i64 h.t, .int .i64 h.d, .int .i64 h.f, .int .i64 h.c, .int .u8 h.p.c.b0, .int .u8 h.p.c.b1, .int .u8 h.p.c.b2, .int .u8 h.p.c.b3, .int .u8 h.p.c.b4, .int .u8 h.p.c.b5, .int .u8 h.p.c.b6, .int .u8 h.p.c.b7, .int .i64 h.p.n, .int .i64 h.s, .int .i64 h.l] 27)) = W0 at *
  have x1_0 := (KH.out).reads (i := 0) rfl
  have x1_1 := (KH.out).reads (i := 1) rfl
  have x1_2 := (KH.out).reads (i := 2) rfl
  have x1_3 := (KH.out).reads (i := 3) rfl
  have x1_4 := (KH.out).reads (i := 4) rfl
  have x1_5 := (KH.out).reads (i := 5) rfl
  have x1_6 := (KH.out).reads (i := 6) rfl
  have x1_7 := (KH.out).reads (i := 7) rfl
  have x1_8 := (KH.out).reads (i := 8) rfl
  have x1_9 := (KH.out).reads (i := 9) rfl
  have x1_10 := (KH.out).reads (i := 10) rfl
  have x1_11 := (KH.out).reads (i := 11) rfl
  have x1_12 := (KH.out).reads (i := 12) rfl
  have x1_13 := (KH.out).reads (i := 13) rfl
  have x1_14 := (KH.out).reads (i := 14) rfl
  refine (C0.out _ HL.out).mono ?_
  rintro e w2 ⟨g1, -, rfl, n_KG, hw2⟩
  clear x1_0 x1_1 x1_2 x1_3 x1_4 x1_5 x1_6 x1_7 x1_8 x1_9 x1_10 x1_11 x1_12 x1_13 x1_14
  replace HL := Lib.hid ((HL.out).keptB hw2)
  replace KH := Lib.hid ((KH.out).keptB hw2)
  replace HB := Lib.hid (bstep HB.out hw2)
  clear hw2
  go_wp2_with fail
  refine (alive5_any _ HL.out).mono ?_
  rintro e w3 ⟨rfl, hw3⟩
  replace HL := Lib.hid ((HL.out).keptB hw3)
  replace KH := Lib.hid ((KH.out).keptB hw3)
  replace HB := Lib.hid (bstep HB.out hw3)
  clear hw3
  go_wp2
  go_ret
  exact ⟨rfl, HB.out⟩
set_option maxRecDepth 100000 in
set_option maxHeartbeats 4000000 in
theorem turned5_d2 (h : Hd) (hok : h.p.c.ok) (hf : In64 h.f) (hc : In64 h.c) (p q : Int) (w : World) (hl : Lens w) (hR : h.right = true) (c0 : ¬ p < 0) (c1 : ¬ 33 < p) (c : q < 1) :
    Calls Tryd.prog 8 #[.agg #[.int .i64 h.t, .int .i64 h.d, .int .i64 h.f, .int .i64 h.c, .int .u8 h.p.c.b0, .int .u8 h.p.c.b1, .int .u8 h.p.c.b2, .int .u8 h.p.c.b3, .int .u8 h.p.c.b4, .int .u8 h.p.c.b5, .int .u8 h.p.c.b6, .int .u8 h.p.c.b7, .int .i64 h.p.n, .int .i64 h.s, .int .i64 h.l], .int .i64 p, .int .i64 q] w fun e w' => e = .returned (.bool true) ∧ Below w.heap.size w w' := by
  have HL := Lib.hid hl
  clear hl
  have C0 := Lib.hid (fun v (hv : Lens v) => encode_yes h v hv hR)
  have d1 : decide (p < 0) = false := by simp; omega
  have d2 : decide (33 < p) = false := by simp; omega
  have d3 : decide (q < 1) = true := by simpa using c
  clear hok hf hc hR
  replace HL := Lib.hid ((HL.out).laid (.cells #[.int .i64 h.t, .int .i64 h.d, .int .i64 h.f, .int .i64 h.c, .int .u8 h.p.c.b0, .int .u8 h.p.c.b1, .int .u8 h.p.c.b2, .int .u8 h.p.c.b3, .int .u8 h.p.c.b4, .int .u8 h.p.c.b5, .int .u8 h.p.c.b6, .int .u8 h.p.c.b7, .int .i64 h.p.n, .int .i64 h.s, .int .i64 h.l] 27))
  have KH := Lib.hid (Holds.fresh w 27 #[.int .i64 h.t, .int .i64 h.d, .int .i64 h.f, .int .i64 h.c, .int .u8 h.p.c.b0, .int .u8 h.p.c.b1, .int .u8 h.p.c.b2, .int .u8 h.p.c.b3, .int .u8 h.p.c.b4, .int .u8 h.p.c.b5, .int .u8 h.p.c.b6, .int .u8 h.p.c.b7, .int .i64 h.p.n, .int .i64 h.s, .int .i64 h.l] (g := w.heap.size) (by simp))
  have HB := Lib.hid (bnew w (.cells #[.int .i64 h.t, .int .i64 h.d, .int .i64 h.f, .int .i64 h.c, .int .u8 h.p.c.b0, .int .u8 h.p.c.b1, .int .u8 h.p.c.b2, .int .u8 h.p.c.b3, .int .u8 h.p.c.b4, .int .u8 h.p.c.b5, .int .u8 h.p.c.b6, .int .u8 h.p.c.b7, .int .i64 h.p.n, .int .i64 h.s, .int .i64 h.l] 27))
  go_enter Tryd.func8, Tryd.ntmps8
  go_wp2_with fail
  generalize (w.alloc (.cells #[.int .i64 h.t, .int .i64 h.d, .int .i64 h.f, .int .i64 h.c, .int .u8 h.p.c.b0, .int .u8 h.p.c.b1, .int .u8 h.p.c.b2, .int .u8 h.p.c.b3, .int .u8 h.p.c.b4, .int .u8 h.p.c.b5, .int .u8 h.p.c.b6, .int .u8 h.p.c.b7, .int .i64 h.p.n, .int .i64 h.s, .int .i64 h.l] 27)) = W0 at *
  have x1_0 := (KH.out).reads (i := 0) rfl
  have x1_1 := (KH.out).reads (i := 1) rfl
  have x1_2 := (KH.out).reads (i := 2) rfl
  have x1_3 := (KH.out).reads (i := 3) rfl
  have x1_4 := (KH.out).reads (i := 4) rfl
  have x1_5 := (KH.out).reads (i := 5) rfl
  have x1_6 := (KH.out).reads (i := 6) rfl
  have x1_7 := (KH.out).reads (i := 7) rfl
  have x1_8 := (KH.out).reads (i := 8) rfl
  have x1_9 := (KH.out).reads (i := 9) rfl
  have x1_10 := (KH.out).reads (i := 10) rfl
  have x1_11 := (KH.out).reads (i := 11) rfl
  have x1_12 := (KH.out).reads (i := 12) rfl
  have x1_13 := (KH.out).reads (i := 13) rfl
  have x1_14 := (KH.out).reads (i := 14) rfl
  refine (C0.out _ HL.out).mono ?_
  rintro e w2 ⟨g1, -, rfl, n_KG, hw2⟩
  clear x1_0 x1_1 x1_2 x1_3 x1_4 x1_5 x1_6 x1_7 x1_8 x1_9 x1_10 x1_11 x1_12 x1_13 x1_14
  replace HL := Lib.hid ((HL.out).keptB hw2)
  replace KH := Lib.hid ((KH.out).keptB hw2)
  replace HB := Lib.hid (bstep HB.out hw2)
  clear hw2
  go_wp2_with fail
  refine (alive5_any _ HL.out).mono ?_
  rintro e w3 ⟨rfl, hw3⟩
  replace HL := Lib.hid ((HL.out).keptB hw3)
  replace KH := Lib.hid ((KH.out).keptB hw3)
  replace HB := Lib.hid (bstep HB.out hw3)
  clear hw3
  go_wp2
  go_ret
  exact ⟨rfl, HB.out⟩
set_option maxRecDepth 100000 in
set_option maxHeartbeats 4000000 in
theorem turned5_d3 (h : Hd) (hok : h.p.c.ok) (hf : In64 h.f) (hc : In64 h.c) (p q : Int) (w : World) (hl : Lens w) (hR : h.right = true) (c0 : ¬ p < 0) (c1 : ¬ 33 < p) (c2 : ¬ q < 1) (c : 255 < q) :
    Calls Tryd.prog 8 #[.agg #[.int .i64 h.t, .int .i64 h.d, .int .i64 h.f, .int .i64 h.c, .int .u8 h.p.c.b0, .int .u8 h.p.c.b1, .int .u8 h.p.c.b2, .int .u8 h.p.c.b3, .int .u8 h.p.c.b4, .int .u8 h.p.c.b5, .int .u8 h.p.c.b6, .int .u8 h.p.c.b7, .int .i64 h.p.n, .int .i64 h.s, .int .i64 h.l], .int .i64 p, .int .i64 q] w fun e w' => e = .returned (.bool true) ∧ Below w.heap.size w w' := by
  have HL := Lib.hid hl
  clear hl
  have C0 := Lib.hid (fun v (hv : Lens v) => encode_yes h v hv hR)
  have d1 : decide (p < 0) = false := by simp; omega
  have d2 : decide (33 < p) = false := by simp; omega
  have d3 : decide (q < 1) = false := by simp; omega
  have d4 : decide (255 < q) = true := by simpa using c
  clear hok hf hc hR
  replace HL := Lib.hid ((HL.out).laid (.cells #[.int .i64 h.t, .int .i64 h.d, .int .i64 h.f, .int .i64 h.c, .int .u8 h.p.c.b0, .int .u8 h.p.c.b1, .int .u8 h.p.c.b2, .int .u8 h.p.c.b3, .int .u8 h.p.c.b4, .int .u8 h.p.c.b5, .int .u8 h.p.c.b6, .int .u8 h.p.c.b7, .int .i64 h.p.n, .int .i64 h.s, .int .i64 h.l] 27))
  have KH := Lib.hid (Holds.fresh w 27 #[.int .i64 h.t, .int .i64 h.d, .int .i64 h.f, .int .i64 h.c, .int .u8 h.p.c.b0, .int .u8 h.p.c.b1, .int .u8 h.p.c.b2, .int .u8 h.p.c.b3, .int .u8 h.p.c.b4, .int .u8 h.p.c.b5, .int .u8 h.p.c.b6, .int .u8 h.p.c.b7, .int .i64 h.p.n, .int .i64 h.s, .int .i64 h.l] (g := w.heap.size) (by simp))
  have HB := Lib.hid (bnew w (.cells #[.int .i64 h.t, .int .i64 h.d, .int .i64 h.f, .int .i64 h.c, .int .u8 h.p.c.b0, .int .u8 h.p.c.b1, .int .u8 h.p.c.b2, .int .u8 h.p.c.b3, .int .u8 h.p.c.b4, .int .u8 h.p.c.b5, .int .u8 h.p.c.b6, .int .u8 h.p.c.b7, .int .i64 h.p.n, .int .i64 h.s, .int .i64 h.l] 27))
  go_enter Tryd.func8, Tryd.ntmps8
  go_wp2_with fail
  generalize (w.alloc (.cells #[.int .i64 h.t, .int .i64 h.d, .int .i64 h.f, .int .i64 h.c, .int .u8 h.p.c.b0, .int .u8 h.p.c.b1, .int .u8 h.p.c.b2, .int .u8 h.p.c.b3, .int .u8 h.p.c.b4, .int .u8 h.p.c.b5, .int .u8 h.p.c.b6, .int .u8 h.p.c.b7, .int .i64 h.p.n, .int .i64 h.s, .int .i64 h.l] 27)) = W0 at *
  have x1_0 := (KH.out).reads (i := 0) rfl
  have x1_1 := (KH.out).reads (i := 1) rfl
  have x1_2 := (KH.out).reads (i := 2) rfl
  have x1_3 := (KH.out).reads (i := 3) rfl
  have x1_4 := (KH.out).reads (i := 4) rfl
  have x1_5 := (KH.out).reads (i := 5) rfl
  have x1_6 := (KH.out).reads (i := 6) rfl
  have x1_7 := (KH.out).reads (i := 7) rfl
  have x1_8 := (KH.out).reads (i := 8) rfl
  have x1_9 := (KH.out).reads (i := 9) rfl
  have x1_10 := (KH.out).reads (i := 10) rfl
  have x1_11 := (KH.out).reads (i := 11) rfl
  have x1_12 := (KH.out).reads (i := 12) rfl
  have x1_13 := (KH.out).reads (i := 13) rfl
  have x1_14 := (KH.out).reads (i := 14) rfl
  refine (C0.out _ HL.out).mono ?_
  rintro e w2 ⟨g1, -, rfl, n_KG, hw2⟩
  clear x1_0 x1_1 x1_2 x1_3 x1_4 x1_5 x1_6 x1_7 x1_8 x1_9 x1_10 x1_11 x1_12 x1_13 x1_14
  replace HL := Lib.hid ((HL.out).keptB hw2)
  replace KH := Lib.hid ((KH.out).keptB hw2)
  replace HB := Lib.hid (bstep HB.out hw2)
  clear hw2
  go_wp2_with fail
  refine (alive5_any _ HL.out).mono ?_
  rintro e w3 ⟨rfl, hw3⟩
  replace HL := Lib.hid ((HL.out).keptB hw3)
  replace KH := Lib.hid ((KH.out).keptB hw3)
  replace HB := Lib.hid (bstep HB.out hw3)
  clear hw3
  go_wp2
  go_ret
  exact ⟨rfl, HB.out⟩
set_option maxRecDepth 100000 in
set_option maxHeartbeats 4000000 in
theorem turned5_yes (h : Hd) (hok : h.p.c.ok) (hf : In64 h.f) (hc : In64 h.c) (k : Nat) (q : Int) (w : World) (hl : Lens w) (hR : h.right = true) (hk : k ≤ 33) (q0 : 1 ≤ q) (q1 : q ≤ 255) :
    Calls Tryd.prog 8 #[.agg #[.int .i64 h.t, .int .i64 h.d, .int .i64 h.f, .int .i64 h.c, .int .u8 h.p.c.b0, .int .u8 h.p.c.b1, .int .u8 h.p.c.b2, .int .u8 h.p.c.b3, .int .u8 h.p.c.b4, .int .u8 h.p.c.b5, .int .u8 h.p.c.b6, .int .u8 h.p.c.b7, .int .i64 h.p.n, .int .i64 h.s, .int .i64 h.l], .int .i64 (k : Int), .int .i64 q] w fun e w' => e = .returned (.bool true) ∧ Below w.heap.size w w' := by
  have HLw := Lib.hid hl
  have HL := Lib.hid hl
  obtain ⟨hln, _⟩ := Hd.right_iff.1 hR
  have hlb := longN_bd h.t
  have hlg := (longN_ne hln).2
  obtain ⟨n, hn⟩ : ∃ n : Nat, longN h.t = (n : Int) + 34 := ⟨(longN h.t - 34).toNat, by omega⟩
  have hn1 : 10 ≤ n := by omega
  have hn2 : n ≤ 30 := by omega
  have C0 := Lib.hid (fun v (hv : Lens v) => encode_yes h v hv hR)
  have C4 : Hid (∀ v, Calls Tryd.prog 16 #[.int .i64 h.t] v fun e w' => e = .returned (.int .i64 ((n : Int) + 34)) ∧ Below v.heap.size v w') := fun v => (rlong_any h.t v).mono fun _ _ ⟨he, hw⟩ => ⟨by rw [he, hn], hw ▸ Below.refl _ _⟩
  have d1 : decide ((k : Int) < 0) = false := by simp
  have d2 : decide (33 < (k : Int)) = false := by simp; omega
  have d3 : decide (q < 1) = false := by simp; omega
  have d4 : decide (255 < q) = false := by simp; omega
  have d5 : decide (34 + (n : Int) < 34) = false := by simp; omega
  have hbz : isByte ((encL h).getD k 0) := getD_byte (encL_byte hR hok) k
  obtain ⟨z, hz⟩ : ∃ z, (encL h).getD k 0 = z := ⟨_, rfl⟩
  rw [hz] at hbz
  obtain ⟨y, hy⟩ : ∃ y, bits .xor .u8 z q = y := ⟨_, rfl⟩
  have hxy := xor_byte z q hbz (by omega) (by omega)
  rw [hy] at hxy
  have hq8 : IntKind.u8.wrap q = q := by
    simp [IntKind.wrap, IntKind.bits, IntKind.signed]
    try omega
  have HY : Hid (∀ r : List Int, (encL h ++ List.replicate n 0 ++ r).set k y = (encL h ++ List.replicate n 0).set k y ++ r) := by
    intro r
    rw [List.set_append_left]
    rw [List.length_append, encL_length]; omega
  have HZ : Hid (∀ r : List Int, (encL h ++ r).getD k 0 = z) := by
    intro r
    rw [enc_at h r k (by omega), hz]
  have hlen : ((encL h ++ List.replicate n 0).set k y).length = 34 + n := by rw [List.length_set, List.length_append, encL_length, List.length_replicate]
  have hbb := set_byte (k := k) (app_byte (encL_byte hR hok) (rep_byte n)) hxy.1
  obtain ⟨e0, he0⟩ : ∃ e, faultN ((34 + n : Nat) : Int) ((encL h ++ List.replicate n 0).set k y) = e := ⟨_, rfl⟩
  obtain ⟨G, hG⟩ : ∃ G, decH ((34 + n : Nat) : Int) ((encL h ++ List.replicate n 0).set k y) = G := ⟨_, rfl⟩
  have C6 : Hid (∀ v g c, 34 + n ≤ c → c ≤ maxLen → Lens v → BytesAt v ⟨g, 0, none⟩ ((encL h ++ List.replicate n 0).set k y) → Calls Tryd.prog 17 #[.slice (some ⟨g, 0, none⟩) (34 + n) c] v fun e w' => e = .returned (.tuple #[.agg #[.int .i64 G.t, .int .i64 G.d, .int .i64 G.f, .int .i64 G.c, .int .u8 G.p.c.b0, .int .u8 G.p.c.b1, .int .u8 G.p.c.b2, .int .u8 G.p.c.b3, .int .u8 G.p.c.b4, .int .u8 G.p.c.b5, .int .u8 G.p.c.b6, .int .u8 G.p.c.b7, .int .i64 G.p.n, .int .i64 G.s, .int .i64 G.l], .int .i64 e0]) ∧ Below v.heap.size v w') := fun v g c h1 h2 hv hh => by
    have hq := decode_any ⟨g, 0, none⟩ (34 + n) c _ v hlen (by omega) h1 h2 hbb hh hv
    rw [he0, hG] at hq
    exact hq
  have HX : Hid ((e0 ≠ 0 ∧ G = zeroH) ∨ (e0 = 0 ∧ eqH G h = false)) := by
    by_cases hf : e0 = 0
    · right
      refine ⟨hf, ?_⟩
      rw [hf] at he0
      have e1 : G = hdOf ((encL h ++ List.replicate n 0).set k y) := by rw [← hG]; unfold decH; rw [if_pos he0]
      rw [e1]
      rw [← hlen] at he0
      exact turned_not (by omega) hbb (by rw [hz]; exact hxy.2) he0
    · left
      refine ⟨hf, ?_⟩
      rw [← hG]; unfold decH; rw [if_neg (by rw [he0]; exact hf)]
  have hneq := neq_rhead G h
  have hzer := zero_eq
  clear hln hlb hlg hn hxy hbz hz hlen hbb he0 hG hok hf hc hR hl
  replace HL := Lib.hid ((HL.out).laid (.cells #[.int .i64 h.t, .int .i64 h.d, .int .i64 h.f, .int .i64 h.c, .int .u8 h.p.c.b0, .int .u8 h.p.c.b1, .int .u8 h.p.c.b2, .int .u8 h.p.c.b3, .int .u8 h.p.c.b4, .int .u8 h.p.c.b5, .int .u8 h.p.c.b6, .int .u8 h.p.c.b7, .int .i64 h.p.n, .int .i64 h.s, .int .i64 h.l] 27))
  have KH := Lib.hid (Holds.fresh w 27 #[.int .i64 h.t, .int .i64 h.d, .int .i64 h.f, .int .i64 h.c, .int .u8 h.p.c.b0, .int .u8 h.p.c.b1, .int .u8 h.p.c.b2, .int .u8 h.p.c.b3, .int .u8 h.p.c.b4, .int .u8 h.p.c.b5, .int .u8 h.p.c.b6, .int .u8 h.p.c.b7, .int .i64 h.p.n, .int .i64 h.s, .int .i64 h.l] (g := w.heap.size) (by simp))
  have HB := Lib.hid (bnew w (.cells #[.int .i64 h.t, .int .i64 h.d, .int .i64 h.f, .int .i64 h.c, .int .u8 h.p.c.b0, .int .u8 h.p.c.b1, .int .u8 h.p.c.b2, .int .u8 h.p.c.b3, .int .u8 h.p.c.b4, .int .u8 h.p.c.b5, .int .u8 h.p.c.b6, .int .u8 h.p.c.b7, .int .i64 h.p.n, .int .i64 h.s, .int .i64 h.l] 27))
  go_enter Tryd.func8, Tryd.ntmps8
  go_wp2_with fail
  generalize (w.alloc (.cells #[.int .i64 h.t, .int .i64 h.d, .int .i64 h.f, .int .i64 h.c, .int .u8 h.p.c.b0, .int .u8 h.p.c.b1, .int .u8 h.p.c.b2, .int .u8 h.p.c.b3, .int .u8 h.p.c.b4, .int .u8 h.p.c.b5, .int .u8 h.p.c.b6, .int .u8 h.p.c.b7, .int .i64 h.p.n, .int .i64 h.s, .int .i64 h.l] 27)) = W0 at *
  have hb0 := (HB.out).size
  have x1_0 := (KH.out).reads (i := 0) rfl
  have x1_1 := (KH.out).reads (i := 1) rfl
  have x1_2 := (KH.out).reads (i := 2) rfl
  have x1_3 := (KH.out).reads (i := 3) rfl
  have x1_4 := (KH.out).reads (i := 4) rfl
  have x1_5 := (KH.out).reads (i := 5) rfl
  have x1_6 := (KH.out).reads (i := 6) rfl
  have x1_7 := (KH.out).reads (i := 7) rfl
  have x1_8 := (KH.out).reads (i := 8) rfl
  have x1_9 := (KH.out).reads (i := 9) rfl
  have x1_10 := (KH.out).reads (i := 10) rfl
  have x1_11 := (KH.out).reads (i := 11) rfl
  have x1_12 := (KH.out).reads (i := 12) rfl
  have x1_13 := (KH.out).reads (i := 13) rfl
  have x1_14 := (KH.out).reads (i := 14) rfl
  refine (C0.out _ HL.out).mono ?_
  rintro e w2 ⟨g1, n_hg, rfl, n_KG, hw2⟩
  clear x1_0 x1_1 x1_2 x1_3 x1_4 x1_5 x1_6 x1_7 x1_8 x1_9 x1_10 x1_11 x1_12 x1_13 x1_14
  replace HL := Lib.hid ((HL.out).keptB hw2)
  replace KH := Lib.hid ((KH.out).keptB hw2)
  replace HB := Lib.hid (bstep HB.out hw2)
  have KG := Lib.hid (show Holds w2 g1 5 (byteCells (encL h)) from n_KG)
  clear n_KG
  clear hw2
  clear n_hg hb0
  have x3_0 := (KH.out).reads (i := 0) rfl
  have x3_1 := (KH.out).reads (i := 1) rfl
  have x3_2 := (KH.out).reads (i := 2) rfl
  have x3_3 := (KH.out).reads (i := 3) rfl
  have x3_4 := (KH.out).reads (i := 4) rfl
  have x3_5 := (KH.out).reads (i := 5) rfl
  have x3_6 := (KH.out).reads (i := 6) rfl
  have x3_7 := (KH.out).reads (i := 7) rfl
  have x3_8 := (KH.out).reads (i := 8) rfl
  have x3_9 := (KH.out).reads (i := 9) rfl
  have x3_10 := (KH.out).reads (i := 10) rfl
  have x3_11 := (KH.out).reads (i := 11) rfl
  have x3_12 := (KH.out).reads (i := 12) rfl
  have x3_13 := (KH.out).reads (i := 13) rfl
  have x3_14 := (KH.out).reads (i := 14) rfl
  go_wp2_with fail
  refine (C4.out _).mono ?_
  rintro e w4 ⟨rfl, hw4⟩
  clear x3_0 x3_1 x3_2 x3_3 x3_4 x3_5 x3_6 x3_7 x3_8 x3_9 x3_10 x3_11 x3_12 x3_13 x3_14
  replace HL := Lib.hid ((HL.out).keptB hw4)
  replace KH := Lib.hid ((KH.out).keptB hw4)
  replace KG := Lib.hid ((KG.out).keptB hw4)
  replace HB := Lib.hid (bstep HB.out hw4)
  clear hw4
  have hsz := (HB.out).size
  have hin := (KH.out).inside
  go_upto_region 7 with (at_builtin; refine wpList_append_zeros rfl _ _ rfl g1 34 (encL h) (encL_length h) (by omega) KG.out n (by omega) (by omega) rfl (by first | rfl | (go_simp; done) | (congr 1; rw [IntKind.wrap_i64]; omega) | (congr 1; omega)) ?_; intro cap w8 hcap1 hcap2 hrow hb8)
  replace HL := Lib.hid ((HL.out).keptB hb8)
  replace KH := Lib.hid ((KH.out).keptB hb8)
  replace KG := Lib.hid ((KG.out).keptB hb8)
  replace HB := Lib.hid (bstep HB.out hb8)
  rw [enc_zeros h cap n hcap1] at hrow
  have KR := Lib.hid hrow
  have hc0 := row_cells hrow k (by rw [List.length_append, List.length_append, encL_length]; omega)
  rw [List.append_assoc, HZ.out] at hc0
  have hf0 := hrow.open_ k
  clear hrow hb8 KG
  obtain ⟨g8, hg8⟩ : ∃ g, (w4).heap.size = g := ⟨_, rfl⟩
  rw [hg8] at KR hc0 hf0 hsz hin ⊢
  clear hg8
  go_wp2_with fail
  have KR2 := Lib.hid ((KR.out).put k (.int .u8 y))
  rw [set_cells, HY.out] at KR2
  have HB2 := Lib.hid ((HB.out).setCell (p := ⟨g8, k, none⟩) hsz (.int .u8 y))
  have KH2 := Lib.hid ((KH.out).aside (p := ⟨g8, k, none⟩) (show g8 ≠ w.heap.size by omega) (.int .u8 y))
  have HL2 := Lib.hid ((HLw.out).keep HB2.out)
  generalize w8.setCell ⟨g8, k, none⟩ (.int .u8 y) = w9 at *
  have HR := Lib.hid (row_bytes KR2.out).front
  clear KR KR2 HB KH HL hc0 hf0 hsz hin
  have HB := HB2
  have KH := KH2
  have HL := HL2
  clear HB2 KH2 HL2
  refine (C6.out _ _ cap hcap1 hcap2 HL.out HR.out).mono ?_
  rintro e w10 ⟨rfl, hw10⟩
  replace HL := Lib.hid ((HL.out).keptB hw10)
  replace KH := Lib.hid ((KH.out).keptB hw10)
  replace HB := Lib.hid (bstep HB.out hw10)
  clear hw10
  clear HR
  rcases HX.out with ⟨he, rfl⟩ | ⟨rfl, hne⟩
  · have de : (e0 == 0) = false := by simpa using he
    have de2 : (e0 != 0) = true := by simpa using he
    have de3 : decide (e0 = 0) = false := by simpa using he
    clear HX hneq
    replace HL := Lib.hid ((HL.out).laid (.cells #[.int .i64 0, .int .i64 0, .int .i64 0, .int .i64 0, .int .u8 0, .int .u8 0, .int .u8 0, .int .u8 0, .int .u8 0, .int .u8 0, .int .u8 0, .int .u8 0, .int .i64 0, .int .i64 0, .int .i64 0] 31))
    replace KH := Lib.hid ((KH.out).laid (.cells #[.int .i64 0, .int .i64 0, .int .i64 0, .int .i64 0, .int .u8 0, .int .u8 0, .int .u8 0, .int .u8 0, .int .u8 0, .int .u8 0, .int .u8 0, .int .u8 0, .int .i64 0, .int .i64 0, .int .i64 0] 31))
    have KB := Lib.hid (Holds.fresh w10 31 #[.int .i64 0, .int .i64 0, .int .i64 0, .int .i64 0, .int .u8 0, .int .u8 0, .int .u8 0, .int .u8 0, .int .u8 0, .int .u8 0, .int .u8 0, .int .u8 0, .int .i64 0, .int .i64 0, .int .i64 0] (g := (w10).heap.size) rfl)
    replace HB := Lib.hid (bstep HB.out (bnew _ (.cells #[.int .i64 0, .int .i64 0, .int .i64 0, .int .i64 0, .int .u8 0, .int .u8 0, .int .u8 0, .int .u8 0, .int .u8 0, .int .u8 0, .int .u8 0, .int .u8 0, .int .i64 0, .int .i64 0, .int .i64 0] 31)))
    go_wp2_with fail
    refine (alive5_any _ HL.out).mono ?_
    rintro e w11 ⟨rfl, hw11⟩
    replace HL := Lib.hid ((HL.out).keptB hw11)
    replace KH := Lib.hid ((KH.out).keptB hw11)
    replace KB := Lib.hid ((KB.out).keptB hw11)
    replace HB := Lib.hid (bstep HB.out hw11)
    clear hw11
    have x12_0 := (KB.out).reads (i := 0) rfl
    have x12_1 := (KB.out).reads (i := 1) rfl
    have x12_2 := (KB.out).reads (i := 2) rfl
    have x12_3 := (KB.out).reads (i := 3) rfl
    have x12_4 := (KB.out).reads (i := 4) rfl
    have x12_5 := (KB.out).reads (i := 5) rfl
    have x12_6 := (KB.out).reads (i := 6) rfl
    have x12_7 := (KB.out).reads (i := 7) rfl
    have x12_8 := (KB.out).reads (i := 8) rfl
    have x12_9 := (KB.out).reads (i := 9) rfl
    have x12_10 := (KB.out).reads (i := 10) rfl
    have x12_11 := (KB.out).reads (i := 11) rfl
    have x12_12 := (KB.out).reads (i := 12) rfl
    have x12_13 := (KB.out).reads (i := 13) rfl
    have x12_14 := (KB.out).reads (i := 14) rfl
    go_wp2
    go_ret
    exact ⟨rfl, HB.out⟩
  · rw [hne] at hneq
    clear HX hne hzer
    replace HL := Lib.hid ((HL.out).laid (.cells #[.int .i64 G.t, .int .i64 G.d, .int .i64 G.f, .int .i64 G.c, .int .u8 G.p.c.b0, .int .u8 G.p.c.b1, .int .u8 G.p.c.b2, .int .u8 G.p.c.b3, .int .u8 G.p.c.b4, .int .u8 G.p.c.b5, .int .u8 G.p.c.b6, .int .u8 G.p.c.b7, .int .i64 G.p.n, .int .i64 G.s, .int .i64 G.l] 31))
    replace KH := Lib.hid ((KH.out).laid (.cells #[.int .i64 G.t, .int .i64 G.d, .int .i64 G.f, .int .i64 G.c, .int .u8 G.p.c.b0, .int .u8 G.p.c.b1, .int .u8 G.p.c.b2, .int .u8 G.p.c.b3, .int .u8 G.p.c.b4, .int .u8 G.p.c.b5, .int .u8 G.p.c.b6, .int .u8 G.p.c.b7, .int .i64 G.p.n, .int .i64 G.s, .int .i64 G.l] 31))
    have KB := Lib.hid (Holds.fresh w10 31 #[.int .i64 G.t, .int .i64 G.d, .int .i64 G.f, .int .i64 G.c, .int .u8 G.p.c.b0, .int .u8 G.p.c.b1, .int .u8 G.p.c.b2, .int .u8 G.p.c.b3, .int .u8 G.p.c.b4, .int .u8 G.p.c.b5, .int .u8 G.p.c.b6, .int .u8 G.p.c.b7, .int .i64 G.p.n, .int .i64 G.s, .int .i64 G.l] (g := (w10).heap.size) rfl)
    replace HB := Lib.hid (bstep HB.out (bnew _ (.cells #[.int .i64 G.t, .int .i64 G.d, .int .i64 G.f, .int .i64 G.c, .int .u8 G.p.c.b0, .int .u8 G.p.c.b1, .int .u8 G.p.c.b2, .int .u8 G.p.c.b3, .int .u8 G.p.c.b4, .int .u8 G.p.c.b5, .int .u8 G.p.c.b6, .int .u8 G.p.c.b7, .int .i64 G.p.n, .int .i64 G.s, .int .i64 G.l] 31)))
    go_wp2_with fail
    refine (alive5_any _ HL.out).mono ?_
    rintro e w11 ⟨rfl, hw11⟩
    replace HL := Lib.hid ((HL.out).keptB hw11)
    replace KH := Lib.hid ((KH.out).keptB hw11)
    replace KB := Lib.hid ((KB.out).keptB hw11)
    replace HB := Lib.hid (bstep HB.out hw11)
    clear hw11
    have x12_0 := (KB.out).reads (i := 0) rfl
    have x12_1 := (KB.out).reads (i := 1) rfl
    have x12_2 := (KB.out).reads (i := 2) rfl
    have x12_3 := (KB.out).reads (i := 3) rfl
    have x12_4 := (KB.out).reads (i := 4) rfl
    have x12_5 := (KB.out).reads (i := 5) rfl
    have x12_6 := (KB.out).reads (i := 6) rfl
    have x12_7 := (KB.out).reads (i := 7) rfl
    have x12_8 := (KB.out).reads (i := 8) rfl
    have x12_9 := (KB.out).reads (i := 9) rfl
    have x12_10 := (KB.out).reads (i := 10) rfl
    have x12_11 := (KB.out).reads (i := 11) rfl
    have x12_12 := (KB.out).reads (i := 12) rfl
    have x12_13 := (KB.out).reads (i := 13) rfl
    have x12_14 := (KB.out).reads (i := 14) rfl
    have x13_0 := (KH.out).reads (i := 0) rfl
    have x13_1 := (KH.out).reads (i := 1) rfl
    have x13_2 := (KH.out).reads (i := 2) rfl
    have x13_3 := (KH.out).reads (i := 3) rfl
    have x13_4 := (KH.out).reads (i := 4) rfl
    have x13_5 := (KH.out).reads (i := 5) rfl
    have x13_6 := (KH.out).reads (i := 6) rfl
    have x13_7 := (KH.out).reads (i := 7) rfl
    have x13_8 := (KH.out).reads (i := 8) rfl
    have x13_9 := (KH.out).reads (i := 9) rfl
    have x13_10 := (KH.out).reads (i := 10) rfl
    have x13_11 := (KH.out).reads (i := 11) rfl
    have x13_12 := (KH.out).reads (i := 12) rfl
    have x13_13 := (KH.out).reads (i := 13) rfl
    have x13_14 := (KH.out).reads (i := 14) rfl
    go_wp2
    go_ret
    exact ⟨rfl, HB.out⟩
theorem turned5_walk (h : Hd) (hok : h.p.c.ok) (hf : In64 h.f) (hc : In64 h.c) (p q : Int) (w : World) (hl : Lens w) :
    Calls Tryd.prog 8 #[.agg #[.int .i64 h.t, .int .i64 h.d, .int .i64 h.f, .int .i64 h.c, .int .u8 h.p.c.b0, .int .u8 h.p.c.b1, .int .u8 h.p.c.b2, .int .u8 h.p.c.b3, .int .u8 h.p.c.b4, .int .u8 h.p.c.b5, .int .u8 h.p.c.b6, .int .u8 h.p.c.b7, .int .i64 h.p.n, .int .i64 h.s, .int .i64 h.l], .int .i64 p, .int .i64 q] w fun e w' => e = .returned (.bool true) ∧ Below w.heap.size w w' := by
  cases hR : h.right
  · exact turned5_no h hok hf hc p q w hl hR
  by_cases c0 : p < 0
  · exact turned5_d0 h hok hf hc p q w hl hR c0
  by_cases c1 : 33 < p
  · exact turned5_d1 h hok hf hc p q w hl hR c0 c1
  by_cases c2 : q < 1
  · exact turned5_d2 h hok hf hc p q w hl hR c0 c1 c2
  by_cases c3 : 255 < q
  · exact turned5_d3 h hok hf hc p q w hl hR c0 c1 c2 c3
  obtain ⟨k, rfl⟩ := Int.eq_ofNat_of_zero_le (show 0 ≤ p by omega)
  exact turned5_yes h hok hf hc k q w hl hR (by omega) (by omega) (by omega)

end Go.Proofs.YtfjbghenlchphaaDoor
