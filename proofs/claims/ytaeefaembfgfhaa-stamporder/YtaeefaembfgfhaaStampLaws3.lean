/- The walk over the law StampTimes. -/
import Derived.Test.YtaeefaembfgfhaaStampLaws2
namespace Go.Proofs.Ytaeefaembfgfhaa
open Go.RowKit
set_option linter.unusedVariables false

theorem keep1 {W w' : World} {p : Addr} {v : Value} (hb : Below W.heap.size W w') (h : W.cell? p = some v) : w'.cell? p = some v :=
  (hb.cell (World.block_lt_of_cell? W _ h)).trans h
theorem keep8 {W w' : World} {p1 p2 p3 p4 p5 p6 p7 p8 : Addr} {v1 v2 v3 v4 v5 v6 v7 v8 : Value} (hb : Below W.heap.size W w')
    (h : W.cell? p1 = some v1 ∧ W.cell? p2 = some v2 ∧ W.cell? p3 = some v3 ∧ W.cell? p4 = some v4 ∧ W.cell? p5 = some v5 ∧ W.cell? p6 = some v6 ∧ W.cell? p7 = some v7 ∧ W.cell? p8 = some v8) :
    w'.cell? p1 = some v1 ∧ w'.cell? p2 = some v2 ∧ w'.cell? p3 = some v3 ∧ w'.cell? p4 = some v4 ∧ w'.cell? p5 = some v5 ∧ w'.cell? p6 = some v6 ∧ w'.cell? p7 = some v7 ∧ w'.cell? p8 = some v8 := by
  obtain ⟨h1, h2, h3, h4, h5, h6, h7, h8⟩ := h
  exact ⟨keep1 hb h1, keep1 hb h2, keep1 hb h3, keep1 hb h4, keep1 hb h5, keep1 hb h6, keep1 hb h7, keep1 hb h8⟩

set_option maxHeartbeats 2000000 in
theorem times_walk (n a0 a1 b0 b1 : Int) (w : World) :
    Calls Try.prog 3 #[.int .i64 n, .agg #[.int .i64 a0, .int .i64 a1], .agg #[.int .i64 b0, .int .i64 b1]] w fun e w' => e = .returned (.bool true) ∧ Below w.heap.size w w' := by
  obtain ⟨s, Hs⟩ : ∃ X, Hid (told (ofB n) (n / 1000000000) = X) := ⟨_, Lib.hid rfl⟩
  obtain ⟨t, Ht⟩ : ∃ X, Hid (told (ofB n) (n % 1000000000) = X) := ⟨_, Lib.hid rfl⟩
  obtain ⟨O, HO⟩ : ∃ X, Hid (ofB n = X) := ⟨_, Lib.hid rfl⟩
  obtain ⟨x, Hx⟩ : ∃ X, Hid (told (nanB a0 a1) (a0 * 1000000000 + a1) = X) := ⟨_, Lib.hid rfl⟩
  obtain ⟨N, HN⟩ : ∃ X, Hid (nanB a0 a1 = X) := ⟨_, Lib.hid rfl⟩
  obtain ⟨R, HR⟩ : ∃ X, Hid (rightB a0 a1 = X) := ⟨_, Lib.hid rfl⟩
  obtain ⟨E, HE⟩ : ∃ X, Hid (lessB a0 a1 b0 b1 = X) := ⟨_, Lib.hid rfl⟩
  have C1 : Hid (∀ w, Calls Try.prog 16 #[.agg #[.int .i64 a0, .int .i64 a1]] w fun e w' => e = .returned (.bool R) ∧ Below w.heap.size w w') := by rw [← HR.out]; exact right_any a0 a1
  have C2 : Hid (∀ w, Calls Try.prog 17 #[.agg #[.int .i64 a0, .int .i64 a1]] w fun e w' => e = .returned (.bool R) ∧ Below w.heap.size w w') := by rw [← HR.out]; exact rright_any a0 a1
  have C3 : Hid (∀ w, Calls Try.prog 18 #[.agg #[.int .i64 a0, .int .i64 a1], .agg #[.int .i64 b0, .int .i64 b1]] w fun e w' => e = .returned (.bool E) ∧ Below w.heap.size w w') := by rw [← HE.out]; exact less_any a0 a1 b0 b1
  have C4 : Hid (∀ w, Calls Try.prog 19 #[.agg #[.int .i64 a0, .int .i64 a1], .agg #[.int .i64 b0, .int .i64 b1]] w fun e w' => e = .returned (.bool E) ∧ Below w.heap.size w w') := by rw [← HE.out]; exact rless_any a0 a1 b0 b1
  have heq := eql_rstamp
  have hsame := sameB_refl s t
  go_enter Try.func3, Try.ntmps3
  go_wp2_with fail
  refine (of_any n _).mono ?_
  rintro e w1 ⟨rfl, hb1⟩
  rw [Hs.out, Ht.out, HO.out]
  have K4 := Lib.hid (((Holds.fresh w 23 #[.int .i64 a0, .int .i64 a1] rfl).laid (.cells #[.int .i64 b0, .int .i64 b1] 23)).kept hb1 (by simp; omega))
  have K5 := Lib.hid ((Holds.fresh (w.alloc (.cells #[.int .i64 a0, .int .i64 a1] 23)) 23 #[.int .i64 b0, .int .i64 b1] (g := w.heap.size + 1) (by simp)).kept hb1 (by simp))
  have HB := Lib.hid (bstep (bstep (bnew _ _) (bnew _ _)) hb1)
  clear hb1
  go_wp2_with fail
  refine (rof_any n _).mono ?_
  rintro e w2 ⟨rfl, hb2⟩
  rw [Hs.out, Ht.out, HO.out]
  have K7 := Lib.hid ((Holds.fresh w1 24 #[.int .i64 s, .int .i64 t] rfl).kept hb2 (by simp))
  replace K4 := Lib.hid (((K4.out).laid (.cells #[.int .i64 s, .int .i64 t] 24)).kept hb2 (by have := (K4.out).inside; simp; omega))
  replace K5 := Lib.hid (((K5.out).laid (.cells #[.int .i64 s, .int .i64 t] 24)).kept hb2 (by have := (K5.out).inside; simp; omega))
  replace HB := Lib.hid (bstep (bstep HB.out (bnew _ _)) hb2)
  clear hb2
  have c40 := ((K4.out).laid (.cells #[.int .i64 s, .int .i64 t] 23)).reads (i := 0) rfl
  have c41 := ((K4.out).laid (.cells #[.int .i64 s, .int .i64 t] 23)).reads (i := 1) rfl
  go_wp2_with fail
  refine (nanos_any a0 a1 _).mono ?_
  rintro e w3 ⟨rfl, hb3⟩
  rw [Hx.out, HN.out]
  have K9 := Lib.hid ((Holds.fresh w2 23 #[.int .i64 s, .int .i64 t] rfl).kept hb3 (by simp))
  replace K4 := Lib.hid (((K4.out).laid (.cells #[.int .i64 s, .int .i64 t] 23)).kept hb3 (by have := (K4.out).inside; simp; omega))
  replace K5 := Lib.hid (((K5.out).laid (.cells #[.int .i64 s, .int .i64 t] 23)).kept hb3 (by have := (K5.out).inside; simp; omega))
  replace K7 := Lib.hid (((K7.out).laid (.cells #[.int .i64 s, .int .i64 t] 23)).kept hb3 (by have := (K7.out).inside; simp; omega))
  replace HB := Lib.hid (bstep (bstep HB.out (bnew _ _)) hb3)
  clear hb3 c40 c41
  have c40 := (K4.out).reads (i := 0) rfl
  have c41 := (K4.out).reads (i := 1) rfl
  go_wp2_with fail
  refine (rnanos_any a0 a1 _).mono ?_
  rintro e w4 ⟨rfl, hb4⟩
  rw [Hx.out, HN.out]
  replace K4 := Lib.hid ((K4.out).kept hb4 (K4.out).inside)
  replace K5 := Lib.hid ((K5.out).kept hb4 (K5.out).inside)
  replace K7 := Lib.hid ((K7.out).kept hb4 (K7.out).inside)
  replace K9 := Lib.hid ((K9.out).kept hb4 (K9.out).inside)
  replace HB := Lib.hid (bstep HB.out hb4)
  clear hb4 c40 c41
  obtain ⟨g7, hg7⟩ : ∃ g, w1.heap.size = g := ⟨_, rfl⟩
  obtain ⟨g9, hg9⟩ : ∃ g, w2.heap.size = g := ⟨_, rfl⟩
  rw [hg7] at K7 ⊢
  rw [hg9] at K9 ⊢
  clear hg7 hg9
  go_wp2
  have c40 := (K4.out).reads (i := 0) rfl
  have c41 := (K4.out).reads (i := 1) rfl
  have c50 := (K5.out).reads (i := 0) rfl
  have c51 := (K5.out).reads (i := 1) rfl
  have c70 := (K7.out).reads (i := 0) rfl
  have c71 := (K7.out).reads (i := 1) rfl
  have c90 := (K9.out).reads (i := 0) rfl
  have c91 := (K9.out).reads (i := 1) rfl
  go_region_held3 (fun v => v.cell? ⟨w.heap.size, 0, none⟩ = some (.int .i64 a0) ∧ v.cell? ⟨w.heap.size, 1, none⟩ = some (.int .i64 a1) ∧ v.cell? ⟨w.heap.size + 1, 0, none⟩ = some (.int .i64 b0) ∧ v.cell? ⟨w.heap.size + 1, 1, none⟩ = some (.int .i64 b1) ∧ v.cell? ⟨g7, 0, none⟩ = some (.int .i64 s) ∧ v.cell? ⟨g7, 1, none⟩ = some (.int .i64 t) ∧ v.cell? ⟨g9, 0, none⟩ = some (.int .i64 s) ∧ v.cell? ⟨g9, 1, none⟩ = some (.int .i64 t))
    (first | (exact keep8 (by assumption) (by assumption)) | go_keep)
    (first
      | (go_at_call 15; (with_reducible refine (alive2_any _).mono ?_); rintro e v1 ⟨rfl, hv1⟩)
      | (go_at_call 16; (with_reducible refine (C1.out _).mono ?_); rintro e v2 ⟨rfl, hv2⟩)
      | (go_at_call 17; (with_reducible refine (C2.out _).mono ?_); rintro e v3 ⟨rfl, hv3⟩)
      | (go_at_call 18; (with_reducible refine (C3.out _).mono ?_); rintro e v4 ⟨rfl, hv4⟩)
      | (go_at_call 19; (with_reducible refine (C4.out _).mono ?_); rintro e v5 ⟨rfl, hv5⟩))
  have HBE := Lib.hid (bstep (bstep (bstep (bstep (bstep (bdrew HB.out) hv1) hv2) hv3) hv4) hv5)
  clear hv1 hv2 hv3 hv4 hv5 c40 c41 c50 c51 c70 c71 c90 c91
  go_wp2
  go_ret
  exact ⟨rfl, HBE.out⟩

end Go.Proofs.Ytaeefaembfgfhaa
