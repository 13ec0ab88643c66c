/- The walk over the law SpanWidens. -/
import Derived.Test.YtcjfiipcmaegnaaSpanLawWords
namespace Go.Proofs.Ytcjfiipcmaegnaa
open Go.RowKit
set_option linter.unusedVariables false

set_option maxHeartbeats 4000000 in
theorem spanwidens_walk (s : Sp) (p q : Int) (hp : In64 p) (w : World) :
    Calls Try.prog 4 #[.agg #[.int .i64 (s).lo, .int .i64 (s).hi, .bool (s).k], .int .i64 p, .int .i64 q] w fun e w' => e = .returned (.bool true) ∧ Below w.heap.size w w' := by
  obtain ⟨X1, HX1⟩ : ∃ X1, Hid (widerS s p q = X1) := ⟨_, Lib.hid rfl⟩
  have PX1 := Lib.hid (wider3_any s p q)
  rw [HX1.out] at PX1
  have RX1 := Lib.hid (rwider3_any s p q)
  rw [HX1.out] at RX1
  have SX1 := Lib.hid (same3_eq X1)
  obtain ⟨X2, HX2⟩ : ∃ X2, Hid (driftS s p q = X2) := ⟨_, Lib.hid rfl⟩
  have PX2 := Lib.hid (fun w => drift3_any s p q w hp)
  rw [HX2.out] at PX2
  have RX2 := Lib.hid (fun w => rdrift3_any s p q w hp)
  rw [HX2.out] at RX2
  have SX2 := Lib.hid (same3_eq X2)
  obtain ⟨X3, HX3⟩ : ∃ X3, Hid (scaleS s p = X3) := ⟨_, Lib.hid rfl⟩
  have PX3 := Lib.hid (scale3_any s p)
  rw [HX3.out] at PX3
  have RX3 := Lib.hid (rscale3_any s p)
  rw [HX3.out] at RX3
  have SX3 := Lib.hid (same3_eq X3)
  obtain ⟨X4, HX4⟩ : ∃ X4, Hid (ofS p q = X4) := ⟨_, Lib.hid rfl⟩
  have PX4 := Lib.hid (of3_any p q)
  rw [HX4.out] at PX4
  have RX4 := Lib.hid (rof3_any p q)
  rw [HX4.out] at RX4
  have SX4 := Lib.hid (same3_eq X4)
  clear HX1 HX2 HX3 HX4 hp
  have K0 := Lib.hid (Holds.fresh w 23 #[.int .i64 s.lo, .int .i64 s.hi, .bool s.k] (g := w.heap.size) (by simp))
  have HB := Lib.hid (bnew w (.cells #[.int .i64 s.lo, .int .i64 s.hi, .bool s.k] 23))
  go_enter Try.func4, Try.ntmps4
  have x1_0 := (K0.out).reads (i := 0) rfl
  have x1_1 := (K0.out).reads (i := 1) rfl
  have x1_2 := (K0.out).reads (i := 2) rfl
  go_wp2_with fail
  refine (own3_any s _).mono ?_
  rintro e w2 ⟨rfl, hw2⟩
  clear x1_0 x1_1 x1_2
  replace K0 := Lib.hid ((K0.out).keptB hw2)
  replace HB := Lib.hid (bstep HB.out hw2)
  clear hw2
  replace K0 := Lib.hid ((K0.out).laid (.cells #[.int .i64 s.lo, .int .i64 s.hi, .bool s.k] 24))
  have K7 := Lib.hid (Holds.fresh w2 24 #[.int .i64 s.lo, .int .i64 s.hi, .bool s.k] (g := (w2).heap.size) rfl)
  replace HB := Lib.hid (bstep HB.out (bnew _ (.cells #[.int .i64 s.lo, .int .i64 s.hi, .bool s.k] 24)))
  go_wp2_with fail
  have x3_0 := (K7.out).reads (i := 0) rfl
  have x3_1 := (K7.out).reads (i := 1) rfl
  have x3_2 := (K7.out).reads (i := 2) rfl
  have x4_0 := (K0.out).reads (i := 0) rfl
  have x4_1 := (K0.out).reads (i := 1) rfl
  have x4_2 := (K0.out).reads (i := 2) rfl
  go_region_held3 (fun v => v.cell? ⟨(w2).heap.size, 0, none⟩ = some (.int .i64 s.lo) ∧ v.cell? ⟨(w2).heap.size, 1, none⟩ = some (.int .i64 s.hi) ∧ v.cell? ⟨(w2).heap.size, 2, none⟩ = some (.bool s.k) ∧ v.cell? ⟨w.heap.size, 0, none⟩ = some (.int .i64 s.lo) ∧ v.cell? ⟨w.heap.size, 1, none⟩ = some (.int .i64 s.hi) ∧ v.cell? ⟨w.heap.size, 2, none⟩ = some (.bool s.k))
    (first | (with_reducible exact keep6 (by assumption) (by assumption)) | (with_reducible exact keep6 (bnew _ _) (by assumption)) | (exact ⟨x3_0, x3_1, x3_2, x4_0, x4_1, x4_2⟩) | go_keep)
    (first
      | (go_at_call 23; (with_reducible refine (alive3_any _).mono ?_); rintro e v5_0 ⟨rfl, hv5_0⟩)
      | (go_at_call 32; (with_reducible refine (PX1.out _).mono ?_); rintro e v5_1 ⟨rfl, hv5_1⟩)
      | (go_at_call 33; (with_reducible refine (RX1.out _).mono ?_); rintro e v5_2 ⟨rfl, hv5_2⟩)
      | (go_at_call 12; (with_reducible refine (SX1.out _).mono ?_); rintro e v5_3 ⟨rfl, hv5_3⟩)
      | (go_at_call 34; (with_reducible refine (PX2.out _).mono ?_); rintro e v5_4 ⟨rfl, hv5_4⟩)
      | (go_at_call 35; (with_reducible refine (RX2.out _).mono ?_); rintro e v5_5 ⟨rfl, hv5_5⟩)
      | (go_at_call 12; (with_reducible refine (SX2.out _).mono ?_); rintro e v5_6 ⟨rfl, hv5_6⟩)
      | (go_at_call 36; (with_reducible refine (PX3.out _).mono ?_); rintro e v5_7 ⟨rfl, hv5_7⟩)
      | (go_at_call 37; (with_reducible refine (RX3.out _).mono ?_); rintro e v5_8 ⟨rfl, hv5_8⟩)
      | (go_at_call 12; (with_reducible refine (SX3.out _).mono ?_); rintro e v5_9 ⟨rfl, hv5_9⟩)
      | (go_at_call 38; (with_reducible refine (PX4.out _).mono ?_); rintro e v5_10 ⟨rfl, hv5_10⟩)
      | (go_at_call 25; (with_reducible refine (RX4.out _).mono ?_); rintro e v5_11 ⟨rfl, hv5_11⟩)
      | (go_at_call 12; (with_reducible refine (SX4.out _).mono ?_); rintro e v5_12 ⟨rfl, hv5_12⟩))
  have HV6 := Lib.hid (bstep (bstep (bstep (bstep (bstep (bstep (bstep (bstep (bstep (bstep (bstep (bstep (bstep (bdrew (Below.refl ((w2.alloc (.cells #[.int .i64 s.lo, .int .i64 s.hi, .bool s.k] 24))).heap.size (w2.alloc (.cells #[.int .i64 s.lo, .int .i64 s.hi, .bool s.k] 24)))) hv5_0) hv5_1) hv5_2) hv5_3) hv5_4) hv5_5) hv5_6) hv5_7) hv5_8) hv5_9) hv5_10) hv5_11) hv5_12)
  clear x3_0 x3_1 x3_2 x4_0 x4_1 x4_2
  replace K0 := Lib.hid ((K0.out).keptB HV6.out)
  replace K7 := Lib.hid ((K7.out).keptB HV6.out)
  replace HB := Lib.hid (bstep HB.out HV6.out)
  clear hv5_0 hv5_1 hv5_2 hv5_3 hv5_4 hv5_5 hv5_6 hv5_7 hv5_8 hv5_9 hv5_10 hv5_11 hv5_12 HV6
  go_wp2
  go_ret
  exact ⟨rfl, HB.out⟩

end Go.Proofs.Ytcjfiipcmaegnaa
