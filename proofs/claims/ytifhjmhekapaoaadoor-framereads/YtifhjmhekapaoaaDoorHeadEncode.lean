/- The walk over head.Encode. -/
import Derived.Test.YtifhjmhekapaoaaDoorHeadLay
import Derived.Test.YtifhjmhekapaoaaDoorByHand
import Derived.Test.YtifhjmhekapaoaaDoorKeep2
namespace Go.Proofs.YtifhjmhekapaoaaDoor
set_option maxRecDepth 100000
open Go.RowKit
set_option linter.unusedVariables false

set_option maxRecDepth 100000 in
set_option maxHeartbeats 1000000 in
theorem encode_no (h : Hd) (w : World) (hl : Lens w) (f0 : -9223372036854775808 ≤ h.f) (f1 : h.f ≤ 9223372036854775807) (hr : h.right = false) :
    Calls Tryd.prog 29 #[.agg #[.int .i64 h.t, .int .i64 h.d, .int .i64 h.f, .int .i64 h.c, .int .u8 h.p.c.b0, .int .u8 h.p.c.b1, .int .u8 h.p.c.b2, .int .u8 h.p.c.b3, .int .u8 h.p.c.b4, .int .u8 h.p.c.b5, .int .u8 h.p.c.b6, .int .u8 h.p.c.b7, .int .i64 h.p.n, .int .i64 h.s, .int .i64 h.l]] w fun e w' => e = .returned (.tuple #[.slice none 0 0, .bool false]) ∧ Below w.heap.size w w' := by
  have LN := Lib.hid hl
  clear hl
  have HR := Lib.hid hr
  clear hr
  by_cases hf : fitB h.p.n = true
  · have HF := Lib.hid hf
    clear hf
    have K1 := Lib.hid (Holds.fresh w 28 #[.int .i64 h.t, .int .i64 h.d, .int .i64 h.f, .int .i64 h.c, .int .u8 h.p.c.b0, .int .u8 h.p.c.b1, .int .u8 h.p.c.b2, .int .u8 h.p.c.b3, .int .u8 h.p.c.b4, .int .u8 h.p.c.b5, .int .u8 h.p.c.b6, .int .u8 h.p.c.b7, .int .i64 h.p.n, .int .i64 h.s, .int .i64 h.l] (g := w.heap.size) (by simp))
    have HB := Lib.hid (bnew w (.cells #[.int .i64 h.t, .int .i64 h.d, .int .i64 h.f, .int .i64 h.c, .int .u8 h.p.c.b0, .int .u8 h.p.c.b1, .int .u8 h.p.c.b2, .int .u8 h.p.c.b3, .int .u8 h.p.c.b4, .int .u8 h.p.c.b5, .int .u8 h.p.c.b6, .int .u8 h.p.c.b7, .int .i64 h.p.n, .int .i64 h.s, .int .i64 h.l] 28))
    go_enter Tryd.func29, Tryd.ntmps29
    go_wp2_with fail
    have LN0 := Lib.hid (((LN.out).laid (.cells #[.int .i64 h.t, .int .i64 h.d, .int .i64 h.f, .int .i64 h.c, .int .u8 h.p.c.b0, .int .u8 h.p.c.b1, .int .u8 h.p.c.b2, .int .u8 h.p.c.b3, .int .u8 h.p.c.b4, .int .u8 h.p.c.b5, .int .u8 h.p.c.b6, .int .u8 h.p.c.b7, .int .i64 h.p.n, .int .i64 h.s, .int .i64 h.l] 28)))
    generalize (w.alloc (.cells #[.int .i64 h.t, .int .i64 h.d, .int .i64 h.f, .int .i64 h.c, .int .u8 h.p.c.b0, .int .u8 h.p.c.b1, .int .u8 h.p.c.b2, .int .u8 h.p.c.b3, .int .u8 h.p.c.b4, .int .u8 h.p.c.b5, .int .u8 h.p.c.b6, .int .u8 h.p.c.b7, .int .i64 h.p.n, .int .i64 h.s, .int .i64 h.l] 28)) = W0 at *
    have x1_0 := (K1.out).reads (i := 0) rfl
    have x1_1 := (K1.out).reads (i := 1) rfl
    have x1_2 := (K1.out).reads (i := 2) rfl
    have x1_3 := (K1.out).reads (i := 3) rfl
    have x1_4 := (K1.out).reads (i := 4) rfl
    have x1_5 := (K1.out).reads (i := 5) rfl
    have x1_6 := (K1.out).reads (i := 6) rfl
    have x1_7 := (K1.out).reads (i := 7) rfl
    have x1_8 := (K1.out).reads (i := 8) rfl
    have x1_9 := (K1.out).reads (i := 9) rfl
    have x1_10 := (K1.out).reads (i := 10) rfl
    have x1_11 := (K1.out).reads (i := 11) rfl
    have x1_12 := (K1.out).reads (i := 12) rfl
    have x1_13 := (K1.out).reads (i := 13) rfl
    have x1_14 := (K1.out).reads (i := 14) rfl
    refine (idput_yes h.p _ HF.out).mono ?_
    rintro e w1 ⟨g, hg, hh, hb1, rfl⟩
    clear x1_0 x1_1 x1_2 x1_3 x1_4 x1_5 x1_6 x1_7 x1_8 x1_9 x1_10 x1_11 x1_12 x1_13 x1_14
    replace K1 := Lib.hid ((K1.out).keptB hb1)
    replace HB := Lib.hid (bstep HB.out hb1)
    replace LN := Lib.hid ((LN0.out).keep hb1)
    clear hb1 hh
    have x2_0 := (K1.out).reads (i := 0) rfl
    have x2_1 := (K1.out).reads (i := 1) rfl
    have x2_2 := (K1.out).reads (i := 2) rfl
    have x2_3 := (K1.out).reads (i := 3) rfl
    have x2_4 := (K1.out).reads (i := 4) rfl
    have x2_5 := (K1.out).reads (i := 5) rfl
    have x2_6 := (K1.out).reads (i := 6) rfl
    have x2_7 := (K1.out).reads (i := 7) rfl
    have x2_8 := (K1.out).reads (i := 8) rfl
    have x2_9 := (K1.out).reads (i := 9) rfl
    have x2_10 := (K1.out).reads (i := 10) rfl
    have x2_11 := (K1.out).reads (i := 11) rfl
    have x2_12 := (K1.out).reads (i := 12) rfl
    have x2_13 := (K1.out).reads (i := 13) rfl
    have x2_14 := (K1.out).reads (i := 14) rfl
    go_wp2_with fail
    refine (right5_any h _ LN.out f0 f1).mono ?_
    rintro e w2 ⟨rfl, hb2⟩
    rw [HR.out]
    clear x2_0 x2_1 x2_2 x2_3 x2_4 x2_5 x2_6 x2_7 x2_8 x2_9 x2_10 x2_11 x2_12 x2_13 x2_14
    replace HB := Lib.hid (bstep HB.out hb2)
    clear hb2
    go_wp2
    go_ret2
    exact ⟨rfl, HB.out⟩
  · have HF := Lib.hid (show fitB h.p.n = false by simpa using hf)
    clear hf
    have K1 := Lib.hid (Holds.fresh w 28 #[.int .i64 h.t, .int .i64 h.d, .int .i64 h.f, .int .i64 h.c, .int .u8 h.p.c.b0, .int .u8 h.p.c.b1, .int .u8 h.p.c.b2, .int .u8 h.p.c.b3, .int .u8 h.p.c.b4, .int .u8 h.p.c.b5, .int .u8 h.p.c.b6, .int .u8 h.p.c.b7, .int .i64 h.p.n, .int .i64 h.s, .int .i64 h.l] (g := w.heap.size) (by simp))
    have HB := Lib.hid (bnew w (.cells #[.int .i64 h.t, .int .i64 h.d, .int .i64 h.f, .int .i64 h.c, .int .u8 h.p.c.b0, .int .u8 h.p.c.b1, .int .u8 h.p.c.b2, .int .u8 h.p.c.b3, .int .u8 h.p.c.b4, .int .u8 h.p.c.b5, .int .u8 h.p.c.b6, .int .u8 h.p.c.b7, .int .i64 h.p.n, .int .i64 h.s, .int .i64 h.l] 28))
    go_enter Tryd.func29, Tryd.ntmps29
    go_wp2_with fail
    generalize (w.alloc (.cells #[.int .i64 h.t, .int .i64 h.d, .int .i64 h.f, .int .i64 h.c, .int .u8 h.p.c.b0, .int .u8 h.p.c.b1, .int .u8 h.p.c.b2, .int .u8 h.p.c.b3, .int .u8 h.p.c.b4, .int .u8 h.p.c.b5, .int .u8 h.p.c.b6, .int .u8 h.p.c.b7, .int .i64 h.p.n, .int .i64 h.s, .int .i64 h.l] 28)) = W0 at *
    have x1_0 := (K1.out).reads (i := 0) rfl
    have x1_1 := (K1.out).reads (i := 1) rfl
    have x1_2 := (K1.out).reads (i := 2) rfl
    have x1_3 := (K1.out).reads (i := 3) rfl
    have x1_4 := (K1.out).reads (i := 4) rfl
    have x1_5 := (K1.out).reads (i := 5) rfl
    have x1_6 := (K1.out).reads (i := 6) rfl
    have x1_7 := (K1.out).reads (i := 7) rfl
    have x1_8 := (K1.out).reads (i := 8) rfl
    have x1_9 := (K1.out).reads (i := 9) rfl
    have x1_10 := (K1.out).reads (i := 10) rfl
    have x1_11 := (K1.out).reads (i := 11) rfl
    have x1_12 := (K1.out).reads (i := 12) rfl
    have x1_13 := (K1.out).reads (i := 13) rfl
    have x1_14 := (K1.out).reads (i := 14) rfl
    refine (idput_no h.p _ HF.out).mono ?_
    rintro e w1 ⟨rfl, hb1⟩
    clear x1_0 x1_1 x1_2 x1_3 x1_4 x1_5 x1_6 x1_7 x1_8 x1_9 x1_10 x1_11 x1_12 x1_13 x1_14
    replace HB := Lib.hid (bstep HB.out hb1)
    clear hb1
    go_wp2
    go_ret2
    exact ⟨rfl, HB.out⟩

theorem beL_byte1 (z : Int) (h0 : 0 ≤ z) (h1 : z ≤ 255) : beL 1 z = [z] := by
  simp only [beL, List.nil_append]; congr 1; omega
/-- the pieces are the head's bytes -/
theorem enc_pieces (h : Hd) (hr : h.right = true) (g2 g3 g7 g10 g11 g14 g17 g18 gS g22 g23 g26 : Nat) : flatL [(g2, beL 1 h.t), (g3, beL 1 2), (g7, beL 2 (longN h.t)), (g10, beL 1 h.d), (g11, beL 1 0), (g14, beL 2 h.f), (g17, beL 8 h.c), (g18, beL 4 0), (gS, ptL h.p), (g22, beL 2 h.s), (g23, beL 1 0), (g26, beL 1 h.l)] = encL h := by
  obtain ⟨h1, ⟨d0, d1⟩, hfl, _, _, l0, l1⟩ := Hd.right_iff.1 hr
  have hb := (longN_ne h1).1
  simp only [flatL, List.flatMap_cons, List.flatMap_nil, List.append_nil, encL, List.append_assoc]
  rw [beL_byte1 h.t (by omega) (by omega), beL_byte1 h.d d0 d1]
  rfl
theorem enc_len (h : Hd) (g2 g3 g7 g10 g11 g14 g17 g18 gS g22 g23 g26 : Nat) : (flatL [(g2, beL 1 h.t), (g3, beL 1 2), (g7, beL 2 (longN h.t)), (g10, beL 1 h.d), (g11, beL 1 0), (g14, beL 2 h.f), (g17, beL 8 h.c), (g18, beL 4 0), (gS, ptL h.p), (g22, beL 2 h.s), (g23, beL 1 0), (g26, beL 1 h.l)]).length = 34 := by
  simp [flatL, beL_length, ptL_length]

set_option maxRecDepth 100000 in
set_option maxHeartbeats 4000000 in
theorem encode_yes (h : Hd) (w : World) (hl : Lens w) (hr : h.right = true) :
    Calls Tryd.prog 29 #[.agg #[.int .i64 h.t, .int .i64 h.d, .int .i64 h.f, .int .i64 h.c, .int .u8 h.p.c.b0, .int .u8 h.p.c.b1, .int .u8 h.p.c.b2, .int .u8 h.p.c.b3, .int .u8 h.p.c.b4, .int .u8 h.p.c.b5, .int .u8 h.p.c.b6, .int .u8 h.p.c.b7, .int .i64 h.p.n, .int .i64 h.s, .int .i64 h.l]] w fun e w' => ∃ g, w.heap.size ≤ g ∧ e = .returned (.tuple #[.slice (some ⟨g, 0, none⟩) 34 34, .bool true]) ∧ Holds w' g 5 (byteCells (encL h)) ∧ Below w.heap.size w w' := by
  have LN := Lib.hid hl
  clear hl
  have hri := Hd.right_iff.1 hr
  obtain ⟨_, ⟨d0, d1⟩, hfl, ⟨p0, p1⟩, ⟨s0, s1⟩, l0, l1⟩ := hri
  have hfb := flagB_bd hfl
  have HF := Lib.hid (show fitB h.p.n = true from fitB_iff.2 ⟨by omega, by omega⟩)
  have f0 : -9223372036854775808 ≤ h.f := by omega
  have f1 : h.f ≤ 9223372036854775807 := by omega
  have HR := Lib.hid hr
  have HT := Lib.hid (enc_pieces h hr)
  clear hr d0 d1 hfl p0 p1 s0 s1 l0 l1 hfb
  have K1 := Lib.hid (Holds.fresh w 28 #[.int .i64 h.t, .int .i64 h.d, .int .i64 h.f, .int .i64 h.c, .int .u8 h.p.c.b0, .int .u8 h.p.c.b1, .int .u8 h.p.c.b2, .int .u8 h.p.c.b3, .int .u8 h.p.c.b4, .int .u8 h.p.c.b5, .int .u8 h.p.c.b6, .int .u8 h.p.c.b7, .int .i64 h.p.n, .int .i64 h.s, .int .i64 h.l] (g := w.heap.size) (by simp))
  have HB := Lib.hid (bnew w (.cells #[.int .i64 h.t, .int .i64 h.d, .int .i64 h.f, .int .i64 h.c, .int .u8 h.p.c.b0, .int .u8 h.p.c.b1, .int .u8 h.p.c.b2, .int .u8 h.p.c.b3, .int .u8 h.p.c.b4, .int .u8 h.p.c.b5, .int .u8 h.p.c.b6, .int .u8 h.p.c.b7, .int .i64 h.p.n, .int .i64 h.s, .int .i64 h.l] 28))
  go_enter Tryd.func29, Tryd.ntmps29
  go_wp2_with fail
  have LN0 := Lib.hid (((LN.out).laid (.cells #[.int .i64 h.t, .int .i64 h.d, .int .i64 h.f, .int .i64 h.c, .int .u8 h.p.c.b0, .int .u8 h.p.c.b1, .int .u8 h.p.c.b2, .int .u8 h.p.c.b3, .int .u8 h.p.c.b4, .int .u8 h.p.c.b5, .int .u8 h.p.c.b6, .int .u8 h.p.c.b7, .int .i64 h.p.n, .int .i64 h.s, .int .i64 h.l] 28)))
  generalize (w.alloc (.cells #[.int .i64 h.t, .int .i64 h.d, .int .i64 h.f, .int .i64 h.c, .int .u8 h.p.c.b0, .int .u8 h.p.c.b1, .int .u8 h.p.c.b2, .int .u8 h.p.c.b3, .int .u8 h.p.c.b4, .int .u8 h.p.c.b5, .int .u8 h.p.c.b6, .int .u8 h.p.c.b7, .int .i64 h.p.n, .int .i64 h.s, .int .i64 h.l] 28)) = W0 at *
  have x1_0 := (K1.out).reads (i := 0) rfl
  have x1_1 := (K1.out).reads (i := 1) rfl
  have x1_2 := (K1.out).reads (i := 2) rfl
  have x1_3 := (K1.out).reads (i := 3) rfl
  have x1_4 := (K1.out).reads (i := 4) rfl
  have x1_5 := (K1.out).reads (i := 5) rfl
  have x1_6 := (K1.out).reads (i := 6) rfl
  have x1_7 := (K1.out).reads (i := 7) rfl
  have x1_8 := (K1.out).reads (i := 8) rfl
  have x1_9 := (K1.out).reads (i := 9) rfl
  have x1_10 := (K1.out).reads (i := 10) rfl
  have x1_11 := (K1.out).reads (i := 11) rfl
  have x1_12 := (K1.out).reads (i := 12) rfl
  have x1_13 := (K1.out).reads (i := 13) rfl
  have x1_14 := (K1.out).reads (i := 14) rfl
  refine (idput_yes h.p _ HF.out).mono ?_
  rintro e w1 ⟨gS, hgS, NS, hb1, rfl⟩
  replace NS := Lib.hid NS
  clear x1_0 x1_1 x1_2 x1_3 x1_4 x1_5 x1_6 x1_7 x1_8 x1_9 x1_10 x1_11 x1_12 x1_13 x1_14
  replace K1 := Lib.hid ((K1.out).keptB hb1)
  replace HB := Lib.hid (bstep HB.out hb1)
  replace LN := Lib.hid ((LN0.out).keep hb1)
  clear hb1 LN0
  have x2_0 := (K1.out).reads (i := 0) rfl
  have x2_1 := (K1.out).reads (i := 1) rfl
  have x2_2 := (K1.out).reads (i := 2) rfl
  have x2_3 := (K1.out).reads (i := 3) rfl
  have x2_4 := (K1.out).reads (i := 4) rfl
  have x2_5 := (K1.out).reads (i := 5) rfl
  have x2_6 := (K1.out).reads (i := 6) rfl
  have x2_7 := (K1.out).reads (i := 7) rfl
  have x2_8 := (K1.out).reads (i := 8) rfl
  have x2_9 := (K1.out).reads (i := 9) rfl
  have x2_10 := (K1.out).reads (i := 10) rfl
  have x2_11 := (K1.out).reads (i := 11) rfl
  have x2_12 := (K1.out).reads (i := 12) rfl
  have x2_13 := (K1.out).reads (i := 13) rfl
  have x2_14 := (K1.out).reads (i := 14) rfl
  go_wp2_with fail
  refine (right5_any h _ LN.out f0 f1).mono ?_
  rintro e w2 ⟨rfl, hb2⟩
  rw [HR.out]
  clear x2_0 x2_1 x2_2 x2_3 x2_4 x2_5 x2_6 x2_7 x2_8 x2_9 x2_10 x2_11 x2_12 x2_13 x2_14
  replace K1 := Lib.hid ((K1.out).keptB hb2)
  replace HB := Lib.hid (bstep HB.out hb2)
  replace NS := Lib.hid ((NS.out).keptB hb2)
  replace LN := Lib.hid ((LN.out).keep hb2)
  clear hb2
  go_wp2_with fail
  refine wp_region_held_drew (S := fun v => v.cell? ⟨w.heap.size, 0, none⟩ = some (.int .i64 h.t) ∧ v.cell? ⟨w.heap.size, 1, none⟩ = some (.int .i64 h.d) ∧ v.cell? ⟨w.heap.size, 2, none⟩ = some (.int .i64 h.f) ∧ v.cell? ⟨w.heap.size, 3, none⟩ = some (.int .i64 h.c) ∧ v.cell? ⟨w.heap.size, 13, none⟩ = some (.int .i64 h.s) ∧ v.cell? ⟨w.heap.size, 14, none⟩ = some (.int .i64 h.l)) (by kernel_rfl) ?_ (fun hHeld => ?_)
  · exact ⟨(K1.out).reads (i := 0) rfl, (K1.out).reads (i := 1) rfl, (K1.out).reads (i := 2) rfl, (K1.out).reads (i := 3) rfl, (K1.out).reads (i := 13) rfl, (K1.out).reads (i := 14) rfl⟩
  replace K1 := Lib.hid (K1.out).drew
  replace NS := Lib.hid (NS.out).drew
  replace LN := Lib.hid (LN.out).drew
  replace HB := Lib.hid (bdrew HB.out)
  refine wpAnyH_take (i := 0) (v := .pointer (some ⟨w.heap.size, 0, none⟩)) (at_list rfl) (by kernel_rfl) (by kernel_rfl) (by kernel_rfl) (fun _ _ _ h => h) (Or.inl ⟨by rfl, ?_⟩) (by assumption) ?_
  · intro v hSv
    obtain ⟨q0, q1, q2, q3, q4, q5⟩ := hSv
    go_simp
  try simp only [Act.put, List.setIfInBounds_toArray, List.set_cons_zero, List.set_cons_succ]
  refine wpAnyH_take (i := 1) (v := .int .i64 h.t) (at_list rfl) (by kernel_rfl) (by kernel_rfl) (by kernel_rfl) (fun _ _ _ h => h) (Or.inl ⟨by rfl, ?_⟩) (by assumption) ?_
  · intro v hSv
    obtain ⟨q0, q1, q2, q3, q4, q5⟩ := hSv
    go_simp
  try simp only [Act.put, List.setIfInBounds_toArray, List.set_cons_zero, List.set_cons_succ]
  refine wpAnyH_take (i := 4) (v := .pointer (some ⟨w.heap.size, 0, none⟩)) (at_list rfl) (by kernel_rfl) (by kernel_rfl) (by kernel_rfl) (fun _ _ _ h => h) (Or.inl ⟨by rfl, ?_⟩) (by assumption) ?_
  · intro v hSv
    obtain ⟨q0, q1, q2, q3, q4, q5⟩ := hSv
    go_simp
  try simp only [Act.put, List.setIfInBounds_toArray, List.set_cons_zero, List.set_cons_succ]
  refine wpAnyH_take (i := 5) (v := .int .i64 h.t) (at_list rfl) (by kernel_rfl) (by kernel_rfl) (by kernel_rfl) (fun _ _ _ h => h) (Or.inl ⟨by rfl, ?_⟩) (by assumption) ?_
  · intro v hSv
    obtain ⟨q0, q1, q2, q3, q4, q5⟩ := hSv
    go_simp
  try simp only [Act.put, List.setIfInBounds_toArray, List.set_cons_zero, List.set_cons_succ]
  refine wpAnyH_take (i := 8) (v := .pointer (some ⟨w.heap.size, 1, none⟩)) (at_list rfl) (by kernel_rfl) (by kernel_rfl) (by kernel_rfl) (fun _ _ _ h => h) (Or.inl ⟨by rfl, ?_⟩) (by assumption) ?_
  · intro v hSv
    obtain ⟨q0, q1, q2, q3, q4, q5⟩ := hSv
    go_simp
  try simp only [Act.put, List.setIfInBounds_toArray, List.set_cons_zero, List.set_cons_succ]
  refine wpAnyH_take (i := 9) (v := .int .i64 h.d) (at_list rfl) (by kernel_rfl) (by kernel_rfl) (by kernel_rfl) (fun _ _ _ h => h) (Or.inl ⟨by rfl, ?_⟩) (by assumption) ?_
  · intro v hSv
    obtain ⟨q0, q1, q2, q3, q4, q5⟩ := hSv
    go_simp
  try simp only [Act.put, List.setIfInBounds_toArray, List.set_cons_zero, List.set_cons_succ]
  refine wpAnyH_take (i := 12) (v := .pointer (some ⟨w.heap.size, 2, none⟩)) (at_list rfl) (by kernel_rfl) (by kernel_rfl) (by kernel_rfl) (fun _ _ _ h => h) (Or.inl ⟨by rfl, ?_⟩) (by assumption) ?_
  · intro v hSv
    obtain ⟨q0, q1, q2, q3, q4, q5⟩ := hSv
    go_simp
  try simp only [Act.put, List.setIfInBounds_toArray, List.set_cons_zero, List.set_cons_succ]
  refine wpAnyH_take (i := 13) (v := .int .i64 h.f) (at_list rfl) (by kernel_rfl) (by kernel_rfl) (by kernel_rfl) (fun _ _ _ h => h) (Or.inl ⟨by rfl, ?_⟩) (by assumption) ?_
  · intro v hSv
    obtain ⟨q0, q1, q2, q3, q4, q5⟩ := hSv
    go_simp
  try simp only [Act.put, List.setIfInBounds_toArray, List.set_cons_zero, List.set_cons_succ]
  refine wpAnyH_take (i := 15) (v := .pointer (some ⟨w.heap.size, 3, none⟩)) (at_list rfl) (by kernel_rfl) (by kernel_rfl) (by kernel_rfl) (fun _ _ _ h => h) (Or.inl ⟨by rfl, ?_⟩) (by assumption) ?_
  · intro v hSv
    obtain ⟨q0, q1, q2, q3, q4, q5⟩ := hSv
    go_simp
  try simp only [Act.put, List.setIfInBounds_toArray, List.set_cons_zero, List.set_cons_succ]
  refine wpAnyH_take (i := 16) (v := .int .i64 h.c) (at_list rfl) (by kernel_rfl) (by kernel_rfl) (by kernel_rfl) (fun _ _ _ h => h) (Or.inl ⟨by rfl, ?_⟩) (by assumption) ?_
  · intro v hSv
    obtain ⟨q0, q1, q2, q3, q4, q5⟩ := hSv
    go_simp
  try simp only [Act.put, List.setIfInBounds_toArray, List.set_cons_zero, List.set_cons_succ]
  refine wpAnyH_take (i := 20) (v := .pointer (some ⟨w.heap.size, 13, none⟩)) (at_list rfl) (by kernel_rfl) (by kernel_rfl) (by kernel_rfl) (fun _ _ _ h => h) (Or.inl ⟨by rfl, ?_⟩) (by assumption) ?_
  · intro v hSv
    obtain ⟨q0, q1, q2, q3, q4, q5⟩ := hSv
    go_simp
  try simp only [Act.put, List.setIfInBounds_toArray, List.set_cons_zero, List.set_cons_succ]
  refine wpAnyH_take (i := 21) (v := .int .i64 h.s) (at_list rfl) (by kernel_rfl) (by kernel_rfl) (by kernel_rfl) (fun _ _ _ h => h) (Or.inl ⟨by rfl, ?_⟩) (by assumption) ?_
  · intro v hSv
    obtain ⟨q0, q1, q2, q3, q4, q5⟩ := hSv
    go_simp
  try simp only [Act.put, List.setIfInBounds_toArray, List.set_cons_zero, List.set_cons_succ]
  refine wpAnyH_take (i := 24) (v := .pointer (some ⟨w.heap.size, 14, none⟩)) (at_list rfl) (by kernel_rfl) (by kernel_rfl) (by kernel_rfl) (fun _ _ _ h => h) (Or.inl ⟨by rfl, ?_⟩) (by assumption) ?_
  · intro v hSv
    obtain ⟨q0, q1, q2, q3, q4, q5⟩ := hSv
    go_simp
  try simp only [Act.put, List.setIfInBounds_toArray, List.set_cons_zero, List.set_cons_succ]
  refine wpAnyH_take (i := 25) (v := .int .i64 h.l) (at_list rfl) (by kernel_rfl) (by kernel_rfl) (by kernel_rfl) (fun _ _ _ h => h) (Or.inl ⟨by rfl, ?_⟩) (by assumption) ?_
  · intro v hSv
    obtain ⟨q0, q1, q2, q3, q4, q5⟩ := hSv
    go_simp
  try simp only [Act.put, List.setIfInBounds_toArray, List.set_cons_zero, List.set_cons_succ]
  refine wpAnyH_take (i := 19) (v := .slice (some ⟨gS, 0, none⟩) 10 10) (at_list rfl) (by kernel_rfl) (by kernel_rfl) (by kernel_rfl) (fun _ _ _ h => h) (Or.inl ⟨by rfl, ?_⟩) (by assumption) ?_
  · intro v hSv
    obtain ⟨q0, q1, q2, q3, q4, q5⟩ := hSv
    go_simp
  try simp only [Act.put, List.setIfInBounds_toArray, List.set_cons_zero, List.set_cons_succ]
  refine wpAnyH_ready (rs := [2]) (by kernel_rfl) (by simp) ?_
  refine AllReadyH.cons (at_list rfl) (fun K hK => ?_) AllReadyH.nil
  go_simp
  refine (number1_any h.t _).mono ?_
  rintro e v2 ⟨g2, hg2, rfl, N2, hv2⟩
  replace NS := Lib.hid ((NS.out).keptB hv2)
  replace N2 := Lib.hid N2
  replace HB := Lib.hid (bstep HB.out hv2)
  replace LN := Lib.hid ((LN.out).keep hv2)
  go_wp2_with fail
  refine hK.out _ _ ?_ (fun hHeld => ?_)
  · exact keep6 hv2 (by assumption)
  clear hK K hv2 hg2
  try simp only [Act.put, List.setIfInBounds_toArray, List.set_cons_zero, List.set_cons_succ]
  refine wpAnyH_ready (rs := [3]) (by kernel_rfl) (by simp) ?_
  refine AllReadyH.cons (at_list rfl) (fun K hK => ?_) AllReadyH.nil
  go_simp
  refine (number1_any 2 _).mono ?_
  rintro e v3 ⟨g3, hg3, rfl, N3, hv3⟩
  replace NS := Lib.hid ((NS.out).keptB hv3)
  replace N2 := Lib.hid ((N2.out).keptB hv3)
  replace N3 := Lib.hid N3
  replace HB := Lib.hid (bstep HB.out hv3)
  replace LN := Lib.hid ((LN.out).keep hv3)
  go_wp2_with fail
  refine hK.out _ _ ?_ (fun hHeld => ?_)
  · exact keep6 hv3 (by assumption)
  clear hK K hv3 hg3
  try simp only [Act.put, List.setIfInBounds_toArray, List.set_cons_zero, List.set_cons_succ]
  refine wpAnyH_ready (rs := [6]) (by kernel_rfl) (by simp) ?_
  refine AllReadyH.cons (at_list rfl) (fun K hK => ?_) AllReadyH.nil
  go_simp
  refine (long_any h.t _ LN.out).mono ?_
  rintro e v6 ⟨rfl, rfl⟩
  go_wp2_with fail
  refine hK.out _ _ ?_ (fun hHeld => ?_)
  · assumption
  clear hK K
  try simp only [Act.put, List.setIfInBounds_toArray, List.set_cons_zero, List.set_cons_succ]
  refine wpAnyH_ready (rs := [7]) (by kernel_rfl) (by simp) ?_
  refine AllReadyH.cons (at_list rfl) (fun K hK => ?_) AllReadyH.nil
  go_simp
  refine (number2_any (longN h.t) _).mono ?_
  rintro e v7 ⟨g7, hg7, rfl, N7, hv7⟩
  replace NS := Lib.hid ((NS.out).keptB hv7)
  replace N2 := Lib.hid ((N2.out).keptB hv7)
  replace N3 := Lib.hid ((N3.out).keptB hv7)
  replace N7 := Lib.hid N7
  replace HB := Lib.hid (bstep HB.out hv7)
  replace LN := Lib.hid ((LN.out).keep hv7)
  go_wp2_with fail
  refine hK.out _ _ ?_ (fun hHeld => ?_)
  · exact keep6 hv7 (by assumption)
  clear hK K hv7 hg7
  try simp only [Act.put, List.setIfInBounds_toArray, List.set_cons_zero, List.set_cons_succ]
  refine wpAnyH_ready (rs := [10]) (by kernel_rfl) (by simp) ?_
  refine AllReadyH.cons (at_list rfl) (fun K hK => ?_) AllReadyH.nil
  go_simp
  refine (number1_any h.d _).mono ?_
  rintro e v10 ⟨g10, hg10, rfl, N10, hv10⟩
  replace NS := Lib.hid ((NS.out).keptB hv10)
  replace N2 := Lib.hid ((N2.out).keptB hv10)
  replace N3 := Lib.hid ((N3.out).keptB hv10)
  replace N7 := Lib.hid ((N7.out).keptB hv10)
  replace N10 := Lib.hid N10
  replace HB := Lib.hid (bstep HB.out hv10)
  replace LN := Lib.hid ((LN.out).keep hv10)
  go_wp2_with fail
  refine hK.out _ _ ?_ (fun hHeld => ?_)
  · exact keep6 hv10 (by assumption)
  clear hK K hv10 hg10
  try simp only [Act.put, List.setIfInBounds_toArray, List.set_cons_zero, List.set_cons_succ]
  refine wpAnyH_ready (rs := [11]) (by kernel_rfl) (by simp) ?_
  refine AllReadyH.cons (at_list rfl) (fun K hK => ?_) AllReadyH.nil
  go_simp
  refine (number1_any 0 _).mono ?_
  rintro e v11 ⟨g11, hg11, rfl, N11, hv11⟩
  replace NS := Lib.hid ((NS.out).keptB hv11)
  replace N2 := Lib.hid ((N2.out).keptB hv11)
  replace N3 := Lib.hid ((N3.out).keptB hv11)
  replace N7 := Lib.hid ((N7.out).keptB hv11)
  replace N10 := Lib.hid ((N10.out).keptB hv11)
  replace N11 := Lib.hid N11
  replace HB := Lib.hid (bstep HB.out hv11)
  replace LN := Lib.hid ((LN.out).keep hv11)
  go_wp2_with fail
  refine hK.out _ _ ?_ (fun hHeld => ?_)
  · exact keep6 hv11 (by assumption)
  clear hK K hv11 hg11
  try simp only [Act.put, List.setIfInBounds_toArray, List.set_cons_zero, List.set_cons_succ]
  refine wpAnyH_ready (rs := [14]) (by kernel_rfl) (by simp) ?_
  refine AllReadyH.cons (at_list rfl) (fun K hK => ?_) AllReadyH.nil
  go_simp
  refine (number2_any h.f _).mono ?_
  rintro e v14 ⟨g14, hg14, rfl, N14, hv14⟩
  replace NS := Lib.hid ((NS.out).keptB hv14)
  replace N2 := Lib.hid ((N2.out).keptB hv14)
  replace N3 := Lib.hid ((N3.out).keptB hv14)
  replace N7 := Lib.hid ((N7.out).keptB hv14)
  replace N10 := Lib.hid ((N10.out).keptB hv14)
  replace N11 := Lib.hid ((N11.out).keptB hv14)
  replace N14 := Lib.hid N14
  replace HB := Lib.hid (bstep HB.out hv14)
  replace LN := Lib.hid ((LN.out).keep hv14)
  go_wp2_with fail
  refine hK.out _ _ ?_ (fun hHeld => ?_)
  · exact keep6 hv14 (by assumption)
  clear hK K hv14 hg14
  try simp only [Act.put, List.setIfInBounds_toArray, List.set_cons_zero, List.set_cons_succ]
  refine wpAnyH_ready (rs := [17]) (by kernel_rfl) (by simp) ?_
  refine AllReadyH.cons (at_list rfl) (fun K hK => ?_) AllReadyH.nil
  go_simp
  refine (number8_any h.c _).mono ?_
  rintro e v17 ⟨g17, hg17, rfl, N17, hv17⟩
  replace NS := Lib.hid ((NS.out).keptB hv17)
  replace N2 := Lib.hid ((N2.out).keptB hv17)
  replace N3 := Lib.hid ((N3.out).keptB hv17)
  replace N7 := Lib.hid ((N7.out).keptB hv17)
  replace N10 := Lib.hid ((N10.out).keptB hv17)
  replace N11 := Lib.hid ((N11.out).keptB hv17)
  replace N14 := Lib.hid ((N14.out).keptB hv17)
  replace N17 := Lib.hid N17
  replace HB := Lib.hid (bstep HB.out hv17)
  replace LN := Lib.hid ((LN.out).keep hv17)
  go_wp2_with fail
  refine hK.out _ _ ?_ (fun hHeld => ?_)
  · exact keep6 hv17 (by assumption)
  clear hK K hv17 hg17
  try simp only [Act.put, List.setIfInBounds_toArray, List.set_cons_zero, List.set_cons_succ]
  refine wpAnyH_ready (rs := [18]) (by kernel_rfl) (by simp) ?_
  refine AllReadyH.cons (at_list rfl) (fun K hK => ?_) AllReadyH.nil
  go_simp
  refine (number4_any 0 _).mono ?_
  rintro e v18 ⟨g18, hg18, rfl, N18, hv18⟩
  replace NS := Lib.hid ((NS.out).keptB hv18)
  replace N2 := Lib.hid ((N2.out).keptB hv18)
  replace N3 := Lib.hid ((N3.out).keptB hv18)
  replace N7 := Lib.hid ((N7.out).keptB hv18)
  replace N10 := Lib.hid ((N10.out).keptB hv18)
  replace N11 := Lib.hid ((N11.out).keptB hv18)
  replace N14 := Lib.hid ((N14.out).keptB hv18)
  replace N17 := Lib.hid ((N17.out).keptB hv18)
  replace N18 := Lib.hid N18
  replace HB := Lib.hid (bstep HB.out hv18)
  replace LN := Lib.hid ((LN.out).keep hv18)
  go_wp2_with fail
  refine hK.out _ _ ?_ (fun hHeld => ?_)
  · exact keep6 hv18 (by assumption)
  clear hK K hv18 hg18
  try simp only [Act.put, List.setIfInBounds_toArray, List.set_cons_zero, List.set_cons_succ]
  refine wpAnyH_ready (rs := [22]) (by kernel_rfl) (by simp) ?_
  refine AllReadyH.cons (at_list rfl) (fun K hK => ?_) AllReadyH.nil
  go_simp
  refine (number2_any h.s _).mono ?_
  rintro e v22 ⟨g22, hg22, rfl, N22, hv22⟩
  replace NS := Lib.hid ((NS.out).keptB hv22)
  replace N2 := Lib.hid ((N2.out).keptB hv22)
  replace N3 := Lib.hid ((N3.out).keptB hv22)
  replace N7 := Lib.hid ((N7.out).keptB hv22)
  replace N10 := Lib.hid ((N10.out).keptB hv22)
  replace N11 := Lib.hid ((N11.out).keptB hv22)
  replace N14 := Lib.hid ((N14.out).keptB hv22)
  replace N17 := Lib.hid ((N17.out).keptB hv22)
  replace N18 := Lib.hid ((N18.out).keptB hv22)
  replace N22 := Lib.hid N22
  replace HB := Lib.hid (bstep HB.out hv22)
  replace LN := Lib.hid ((LN.out).keep hv22)
  go_wp2_with fail
  refine hK.out _ _ ?_ (fun hHeld => ?_)
  · exact keep6 hv22 (by assumption)
  clear hK K hv22 hg22
  try simp only [Act.put, List.setIfInBounds_toArray, List.set_cons_zero, List.set_cons_succ]
  refine wpAnyH_ready (rs := [23]) (by kernel_rfl) (by simp) ?_
  refine AllReadyH.cons (at_list rfl) (fun K hK => ?_) AllReadyH.nil
  go_simp
  refine (number1_any 0 _).mono ?_
  rintro e v23 ⟨g23, hg23, rfl, N23, hv23⟩
  replace NS := Lib.hid ((NS.out).keptB hv23)
  replace N2 := Lib.hid ((N2.out).keptB hv23)
  replace N3 := Lib.hid ((N3.out).keptB hv23)
  replace N7 := Lib.hid ((N7.out).keptB hv23)
  replace N10 := Lib.hid ((N10.out).keptB hv23)
  replace N11 := Lib.hid ((N11.out).keptB hv23)
  replace N14 := Lib.hid ((N14.out).keptB hv23)
  replace N17 := Lib.hid ((N17.out).keptB hv23)
  replace N18 := Lib.hid ((N18.out).keptB hv23)
  replace N22 := Lib.hid ((N22.out).keptB hv23)
  replace N23 := Lib.hid N23
  replace HB := Lib.hid (bstep HB.out hv23)
  replace LN := Lib.hid ((LN.out).keep hv23)
  go_wp2_with fail
  refine hK.out _ _ ?_ (fun hHeld => ?_)
  · exact keep6 hv23 (by assumption)
  clear hK K hv23 hg23
  try simp only [Act.put, List.setIfInBounds_toArray, List.set_cons_zero, List.set_cons_succ]
  refine wpAnyH_ready (rs := [26]) (by kernel_rfl) (by simp) ?_
  refine AllReadyH.cons (at_list rfl) (fun K hK => ?_) AllReadyH.nil
  go_simp
  refine (number1_any h.l _).mono ?_
  rintro e v26 ⟨g26, hg26, rfl, N26, hv26⟩
  replace NS := Lib.hid ((NS.out).keptB hv26)
  replace N2 := Lib.hid ((N2.out).keptB hv26)
  replace N3 := Lib.hid ((N3.out).keptB hv26)
  replace N7 := Lib.hid ((N7.out).keptB hv26)
  replace N10 := Lib.hid ((N10.out).keptB hv26)
  replace N11 := Lib.hid ((N11.out).keptB hv26)
  replace N14 := Lib.hid ((N14.out).keptB hv26)
  replace N17 := Lib.hid ((N17.out).keptB hv26)
  replace N18 := Lib.hid ((N18.out).keptB hv26)
  replace N22 := Lib.hid ((N22.out).keptB hv26)
  replace N23 := Lib.hid ((N23.out).keptB hv26)
  replace N26 := Lib.hid N26
  replace HB := Lib.hid (bstep HB.out hv26)
  replace LN := Lib.hid ((LN.out).keep hv26)
  go_wp2_with fail
  refine hK.out _ _ ?_ (fun hHeld => ?_)
  · exact keep6 hv26 (by assumption)
  clear hK K hv26 hg26
  try simp only [Act.put, List.setIfInBounds_toArray, List.set_cons_zero, List.set_cons_succ]
  refine wpAnyH_ready (rs := [27]) (by kernel_rfl) (by simp) ?_
  refine AllReadyH.cons (at_list rfl) (fun K hK => ?_) AllReadyH.nil
  go_simp
  refine hK.out _ _ ?_ (fun hHeld => ?_)
  · exact keep6 (bnew _ _) (by assumption)
  clear hK K
  try simp only [Act.put, List.setIfInBounds_toArray, List.set_cons_zero, List.set_cons_succ]
  have KB := Lib.hid (Holds.fresh v26 22 #[.slice (some ⟨g2, 0, none⟩) 1 1, .slice (some ⟨g3, 0, none⟩) 1 1, .slice (some ⟨g7, 0, none⟩) 2 2, .slice (some ⟨g10, 0, none⟩) 1 1, .slice (some ⟨g11, 0, none⟩) 1 1, .slice (some ⟨g14, 0, none⟩) 2 2, .slice (some ⟨g17, 0, none⟩) 8 8, .slice (some ⟨g18, 0, none⟩) 4 4, .slice (some ⟨gS, 0, none⟩) 10 10, .slice (some ⟨g22, 0, none⟩) 2 2, .slice (some ⟨g23, 0, none⟩) 1 1, .slice (some ⟨g26, 0, none⟩) 1 1] rfl)
  replace HB := Lib.hid (bstep HB.out (bnew _ (.cells #[.slice (some ⟨g2, 0, none⟩) 1 1, .slice (some ⟨g3, 0, none⟩) 1 1, .slice (some ⟨g7, 0, none⟩) 2 2, .slice (some ⟨g10, 0, none⟩) 1 1, .slice (some ⟨g11, 0, none⟩) 1 1, .slice (some ⟨g14, 0, none⟩) 2 2, .slice (some ⟨g17, 0, none⟩) 8 8, .slice (some ⟨g18, 0, none⟩) 4 4, .slice (some ⟨gS, 0, none⟩) 10 10, .slice (some ⟨g22, 0, none⟩) 2 2, .slice (some ⟨g23, 0, none⟩) 1 1, .slice (some ⟨g26, 0, none⟩) 1 1] 22)))
  replace NS := Lib.hid ((NS.out).laid (.cells #[.slice (some ⟨g2, 0, none⟩) 1 1, .slice (some ⟨g3, 0, none⟩) 1 1, .slice (some ⟨g7, 0, none⟩) 2 2, .slice (some ⟨g10, 0, none⟩) 1 1, .slice (some ⟨g11, 0, none⟩) 1 1, .slice (some ⟨g14, 0, none⟩) 2 2, .slice (some ⟨g17, 0, none⟩) 8 8, .slice (some ⟨g18, 0, none⟩) 4 4, .slice (some ⟨gS, 0, none⟩) 10 10, .slice (some ⟨g22, 0, none⟩) 2 2, .slice (some ⟨g23, 0, none⟩) 1 1, .slice (some ⟨g26, 0, none⟩) 1 1] 22))
  replace N2 := Lib.hid ((N2.out).laid (.cells #[.slice (some ⟨g2, 0, none⟩) 1 1, .slice (some ⟨g3, 0, none⟩) 1 1, .slice (some ⟨g7, 0, none⟩) 2 2, .slice (some ⟨g10, 0, none⟩) 1 1, .slice (some ⟨g11, 0, none⟩) 1 1, .slice (some ⟨g14, 0, none⟩) 2 2, .slice (some ⟨g17, 0, none⟩) 8 8, .slice (some ⟨g18, 0, none⟩) 4 4, .slice (some ⟨gS, 0, none⟩) 10 10, .slice (some ⟨g22, 0, none⟩) 2 2, .slice (some ⟨g23, 0, none⟩) 1 1, .slice (some ⟨g26, 0, none⟩) 1 1] 22))
  replace N3 := Lib.hid ((N3.out).laid (.cells #[.slice (some ⟨g2, 0, none⟩) 1 1, .slice (some ⟨g3, 0, none⟩) 1 1, .slice (some ⟨g7, 0, none⟩) 2 2, .slice (some ⟨g10, 0, none⟩) 1 1, .slice (some ⟨g11, 0, none⟩) 1 1, .slice (some ⟨g14, 0, none⟩) 2 2, .slice (some ⟨g17, 0, none⟩) 8 8, .slice (some ⟨g18, 0, none⟩) 4 4, .slice (some ⟨gS, 0, none⟩) 10 10, .slice (some ⟨g22, 0, none⟩) 2 2, .slice (some ⟨g23, 0, none⟩) 1 1, .slice (some ⟨g26, 0, none⟩) 1 1] 22))
  replace N7 := Lib.hid ((N7.out).laid (.cells #[.slice (some ⟨g2, 0, none⟩) 1 1, .slice (some ⟨g3, 0, none⟩) 1 1, .slice (some ⟨g7, 0, none⟩) 2 2, .slice (some ⟨g10, 0, none⟩) 1 1, .slice (some ⟨g11, 0, none⟩) 1 1, .slice (some ⟨g14, 0, none⟩) 2 2, .slice (some ⟨g17, 0, none⟩) 8 8, .slice (some ⟨g18, 0, none⟩) 4 4, .slice (some ⟨gS, 0, none⟩) 10 10, .slice (some ⟨g22, 0, none⟩) 2 2, .slice (some ⟨g23, 0, none⟩) 1 1, .slice (some ⟨g26, 0, none⟩) 1 1] 22))
  replace N10 := Lib.hid ((N10.out).laid (.cells #[.slice (some ⟨g2, 0, none⟩) 1 1, .slice (some ⟨g3, 0, none⟩) 1 1, .slice (some ⟨g7, 0, none⟩) 2 2, .slice (some ⟨g10, 0, none⟩) 1 1, .slice (some ⟨g11, 0, none⟩) 1 1, .slice (some ⟨g14, 0, none⟩) 2 2, .slice (some ⟨g17, 0, none⟩) 8 8, .slice (some ⟨g18, 0, none⟩) 4 4, .slice (some ⟨gS, 0, none⟩) 10 10, .slice (some ⟨g22, 0, none⟩) 2 2, .slice (some ⟨g23, 0, none⟩) 1 1, .slice (some ⟨g26, 0, none⟩) 1 1] 22))
  replace N11 := Lib.hid ((N11.out).laid (.cells #[.slice (some ⟨g2, 0, none⟩) 1 1, .slice (some ⟨g3, 0, none⟩) 1 1, .slice (some ⟨g7, 0, none⟩) 2 2, .slice (some ⟨g10, 0, none⟩) 1 1, .slice (some ⟨g11, 0, none⟩) 1 1, .slice (some ⟨g14, 0, none⟩) 2 2, .slice (some ⟨g17, 0, none⟩) 8 8, .slice (some ⟨g18, 0, none⟩) 4 4, .slice (some ⟨gS, 0, none⟩) 10 10, .slice (some ⟨g22, 0, none⟩) 2 2, .slice (some ⟨g23, 0, none⟩) 1 1, .slice (some ⟨g26, 0, none⟩) 1 1] 22))
  replace N14 := Lib.hid ((N14.out).laid (.cells #[.slice (some ⟨g2, 0, none⟩) 1 1, .slice (some ⟨g3, 0, none⟩) 1 1, .slice (some ⟨g7, 0, none⟩) 2 2, .slice (some ⟨g10, 0, none⟩) 1 1, .slice (some ⟨g11, 0, none⟩) 1 1, .slice (some ⟨g14, 0, none⟩) 2 2, .slice (some ⟨g17, 0, none⟩) 8 8, .slice (some ⟨g18, 0, none⟩) 4 4, .slice (some ⟨gS, 0, none⟩) 10 10, .slice (some ⟨g22, 0, none⟩) 2 2, .slice (some ⟨g23, 0, none⟩) 1 1, .slice (some ⟨g26, 0, none⟩) 1 1] 22))
  replace N17 := Lib.hid ((N17.out).laid (.cells #[.slice (some ⟨g2, 0, none⟩) 1 1, .slice (some ⟨g3, 0, none⟩) 1 1, .slice (some ⟨g7, 0, none⟩) 2 2, .slice (some ⟨g10, 0, none⟩) 1 1, .slice (some ⟨g11, 0, none⟩) 1 1, .slice (some ⟨g14, 0, none⟩) 2 2, .slice (some ⟨g17, 0, none⟩) 8 8, .slice (some ⟨g18, 0, none⟩) 4 4, .slice (some ⟨gS, 0, none⟩) 10 10, .slice (some ⟨g22, 0, none⟩) 2 2, .slice (some ⟨g23, 0, none⟩) 1 1, .slice (some ⟨g26, 0, none⟩) 1 1] 22))
  replace N18 := Lib.hid ((N18.out).laid (.cells #[.slice (some ⟨g2, 0, none⟩) 1 1, .slice (some ⟨g3, 0, none⟩) 1 1, .slice (some ⟨g7, 0, none⟩) 2 2, .slice (some ⟨g10, 0, none⟩) 1 1, .slice (some ⟨g11, 0, none⟩) 1 1, .slice (some ⟨g14, 0, none⟩) 2 2, .slice (some ⟨g17, 0, none⟩) 8 8, .slice (some ⟨g18, 0, none⟩) 4 4, .slice (some ⟨gS, 0, none⟩) 10 10, .slice (some ⟨g22, 0, none⟩) 2 2, .slice (some ⟨g23, 0, none⟩) 1 1, .slice (some ⟨g26, 0, none⟩) 1 1] 22))
  replace N22 := Lib.hid ((N22.out).laid (.cells #[.slice (some ⟨g2, 0, none⟩) 1 1, .slice (some ⟨g3, 0, none⟩) 1 1, .slice (some ⟨g7, 0, none⟩) 2 2, .slice (some ⟨g10, 0, none⟩) 1 1, .slice (some ⟨g11, 0, none⟩) 1 1, .slice (some ⟨g14, 0, none⟩) 2 2, .slice (some ⟨g17, 0, none⟩) 8 8, .slice (some ⟨g18, 0, none⟩) 4 4, .slice (some ⟨gS, 0, none⟩) 10 10, .slice (some ⟨g22, 0, none⟩) 2 2, .slice (some ⟨g23, 0, none⟩) 1 1, .slice (some ⟨g26, 0, none⟩) 1 1] 22))
  replace N23 := Lib.hid ((N23.out).laid (.cells #[.slice (some ⟨g2, 0, none⟩) 1 1, .slice (some ⟨g3, 0, none⟩) 1 1, .slice (some ⟨g7, 0, none⟩) 2 2, .slice (some ⟨g10, 0, none⟩) 1 1, .slice (some ⟨g11, 0, none⟩) 1 1, .slice (some ⟨g14, 0, none⟩) 2 2, .slice (some ⟨g17, 0, none⟩) 8 8, .slice (some ⟨g18, 0, none⟩) 4 4, .slice (some ⟨gS, 0, none⟩) 10 10, .slice (some ⟨g22, 0, none⟩) 2 2, .slice (some ⟨g23, 0, none⟩) 1 1, .slice (some ⟨g26, 0, none⟩) 1 1] 22))
  replace N26 := Lib.hid ((N26.out).laid (.cells #[.slice (some ⟨g2, 0, none⟩) 1 1, .slice (some ⟨g3, 0, none⟩) 1 1, .slice (some ⟨g7, 0, none⟩) 2 2, .slice (some ⟨g10, 0, none⟩) 1 1, .slice (some ⟨g11, 0, none⟩) 1 1, .slice (some ⟨g14, 0, none⟩) 2 2, .slice (some ⟨g17, 0, none⟩) 8 8, .slice (some ⟨g18, 0, none⟩) 4 4, .slice (some ⟨gS, 0, none⟩) 10 10, .slice (some ⟨g22, 0, none⟩) 2 2, .slice (some ⟨g23, 0, none⟩) 1 1, .slice (some ⟨g26, 0, none⟩) 1 1] 22))
  refine wpAnyH_ready (rs := [28]) (by kernel_rfl) (by simp) ?_
  refine AllReadyH.cons (at_list rfl) (fun K hK => ?_) AllReadyH.nil
  go_simp
  refine (lay_any _ _ 12 22 [(g2, beL 1 h.t), (g3, beL 1 2), (g7, beL 2 (longN h.t)), (g10, beL 1 h.d), (g11, beL 1 0), (g14, beL 2 h.f), (g17, beL 8 h.c), (g18, beL 4 0), (gS, ptL h.p), (g22, beL 2 h.s), (g23, beL 1 0), (g26, beL 1 h.l)] _ rfl (by omega) KB.out ?_ ?_).mono ?_
  · intro p hp
    simp only [List.mem_cons, List.not_mem_nil, or_false] at hp
    rcases hp with rfl | rfl | rfl | rfl | rfl | rfl | rfl | rfl | rfl | rfl | rfl | rfl
    · exact ⟨by simp [beL_length], N2.out⟩
    · exact ⟨by simp [beL_length], N3.out⟩
    · exact ⟨by simp [beL_length], N7.out⟩
    · exact ⟨by simp [beL_length], N10.out⟩
    · exact ⟨by simp [beL_length], N11.out⟩
    · exact ⟨by simp [beL_length], N14.out⟩
    · exact ⟨by simp [beL_length], N17.out⟩
    · exact ⟨by simp [beL_length], N18.out⟩
    · exact ⟨by simp [ptL_length], NS.out⟩
    · exact ⟨by simp [beL_length], N22.out⟩
    · exact ⟨by simp [beL_length], N23.out⟩
    · exact ⟨by simp [beL_length], N26.out⟩
  · exact enc_len h g2 g3 g7 g10 g11 g14 g17 g18 gS g22 g23 g26
  rintro e v28 ⟨gR, hgR, rfl, NR, hv28⟩
  have hs28 := Nat.le_trans (HB.out).size hgR
  replace HB := Lib.hid (bstep HB.out hv28)
  replace NR := Lib.hid NR
  go_wp2_with fail
  refine hK.out _ _ ?_ (fun hHeld => ?_)
  · exact keep6 hv28 (by assumption)
  clear hK K
  try simp only [Act.put, List.setIfInBounds_toArray, List.set_cons_zero, List.set_cons_succ]
  refine wpAnyH_take (i := 29) (v := .slice (some ⟨gR, 0, none⟩) 34 34) (at_list rfl) (by kernel_rfl) (by kernel_rfl) (by kernel_rfl) (fun _ _ _ h => h) (Or.inl ⟨by rfl, ?_⟩) (by assumption) ?_
  · intro v hSv
    obtain ⟨q0, q1, q2, q3, q4, q5⟩ := hSv
    go_simp
  try simp only [Act.put, List.setIfInBounds_toArray, List.set_cons_zero, List.set_cons_succ]
  refine wpAnyH_take (i := 30) (v := .bool true) (at_list rfl) (by kernel_rfl) (by kernel_rfl) (by kernel_rfl) (fun _ _ _ h => h) (Or.inl ⟨by rfl, ?_⟩) (by assumption) ?_
  · intro v hSv
    obtain ⟨q0, q1, q2, q3, q4, q5⟩ := hSv
    go_simp
  try simp only [Act.put, List.setIfInBounds_toArray, List.set_cons_zero, List.set_cons_succ]
  refine wpAnyH_done (by kernel_rfl) ?_ _
  go_wp2
  go_ret2
  refine ⟨gR, ?_, rfl, ?_, HB.out⟩
  · exact hs28
  · rw [← HT.out g2 g3 g7 g10 g11 g14 g17 g18 gS g22 g23 g26]; exact NR.out

end Go.Proofs.YtifhjmhekapaoaaDoor
