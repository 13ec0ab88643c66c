/- The walk over the law IdentOrders. -/
import Derived.Test.YtbiglmpibdlhmaaIdentAlive
namespace Go.Proofs.Ytbiglmpibdlhmaa
open Go.RowKit
set_option linter.unusedVariables false

set_option maxRecDepth 100000 in
set_option maxHeartbeats 4000000 in
theorem orders4_walk (a b : Pt) (ha : a.c.ok) (hb : b.c.ok) (w : World) :
    Calls Try.prog 3 #[.agg #[.int .u8 a.c.b0, .int .u8 a.c.b1, .int .u8 a.c.b2, .int .u8 a.c.b3, .int .u8 a.c.b4, .int .u8 a.c.b5, .int .u8 a.c.b6, .int .u8 a.c.b7, .int .i64 a.n], .agg #[.int .u8 b.c.b0, .int .u8 b.c.b1, .int .u8 b.c.b2, .int .u8 b.c.b3, .int .u8 b.c.b4, .int .u8 b.c.b5, .int .u8 b.c.b6, .int .u8 b.c.b7, .int .i64 b.n]] w fun e w' => e = .returned (.bool true) ∧ Below w.heap.size w w' := by
  obtain ⟨n, Hn⟩ : ∃ n, Hid (cmpC a.c b.c = n) := ⟨_, Lib.hid rfl⟩
  obtain ⟨m, Hm⟩ : ∃ m, Hid (cmpP a b = m) := ⟨_, Lib.hid rfl⟩
  obtain ⟨E1, HE1⟩ : ∃ E1, Hid (eqC a.c b.c = E1) := ⟨_, Lib.hid rfl⟩
  obtain ⟨E2, HE2⟩ : ∃ E2, Hid (eqP a b = E2) := ⟨_, Lib.hid rfl⟩
  obtain ⟨E3, HE3⟩ : ∃ E3, Hid (eqC a.c zeroC = E3) := ⟨_, Lib.hid rfl⟩
  have C1 : Hid (∀ v, Calls Try.prog 10 #[.agg #[.int .u8 a.c.b0, .int .u8 a.c.b1, .int .u8 a.c.b2, .int .u8 a.c.b3, .int .u8 a.c.b4, .int .u8 a.c.b5, .int .u8 a.c.b6, .int .u8 a.c.b7], .agg #[.int .u8 b.c.b0, .int .u8 b.c.b1, .int .u8 b.c.b2, .int .u8 b.c.b3, .int .u8 b.c.b4, .int .u8 b.c.b5, .int .u8 b.c.b6, .int .u8 b.c.b7]] v fun e w' => e = .returned (.int .i64 (n)) ∧ Below v.heap.size v w') := by
    rw [← Hn.out]; exact fun v => compare_any a.c b.c v
  have C2 : Hid (∀ v, Calls Try.prog 12 #[.agg #[.int .u8 a.c.b0, .int .u8 a.c.b1, .int .u8 a.c.b2, .int .u8 a.c.b3, .int .u8 a.c.b4, .int .u8 a.c.b5, .int .u8 a.c.b6, .int .u8 a.c.b7], .agg #[.int .u8 b.c.b0, .int .u8 b.c.b1, .int .u8 b.c.b2, .int .u8 b.c.b3, .int .u8 b.c.b4, .int .u8 b.c.b5, .int .u8 b.c.b6, .int .u8 b.c.b7]] v fun e w' => e = .returned (.int .i64 (n)) ∧ Below v.heap.size v w') := by
    rw [← Hn.out]; exact fun v => rcompare_any a.c b.c v
  have C3 : Hid (∀ v, Calls Try.prog 11 #[.agg #[.int .u8 a.c.b0, .int .u8 a.c.b1, .int .u8 a.c.b2, .int .u8 a.c.b3, .int .u8 a.c.b4, .int .u8 a.c.b5, .int .u8 a.c.b6, .int .u8 a.c.b7, .int .i64 a.n], .agg #[.int .u8 b.c.b0, .int .u8 b.c.b1, .int .u8 b.c.b2, .int .u8 b.c.b3, .int .u8 b.c.b4, .int .u8 b.c.b5, .int .u8 b.c.b6, .int .u8 b.c.b7, .int .i64 b.n]] v fun e w' => e = .returned (.int .i64 (m)) ∧ Below v.heap.size v w') := by
    rw [← Hm.out]; exact fun v => ports_any a b v ha hb
  have C4 : Hid (∀ v, Calls Try.prog 13 #[.agg #[.int .u8 a.c.b0, .int .u8 a.c.b1, .int .u8 a.c.b2, .int .u8 a.c.b3, .int .u8 a.c.b4, .int .u8 a.c.b5, .int .u8 a.c.b6, .int .u8 a.c.b7, .int .i64 a.n], .agg #[.int .u8 b.c.b0, .int .u8 b.c.b1, .int .u8 b.c.b2, .int .u8 b.c.b3, .int .u8 b.c.b4, .int .u8 b.c.b5, .int .u8 b.c.b6, .int .u8 b.c.b7, .int .i64 b.n]] v fun e w' => e = .returned (.int .i64 (m)) ∧ Below v.heap.size v w') := by
    rw [← Hm.out]; exact fun v => rports_any a b v ha hb
  have C5 : Hid (∀ v, Calls Try.prog 11 #[.agg #[.int .u8 b.c.b0, .int .u8 b.c.b1, .int .u8 b.c.b2, .int .u8 b.c.b3, .int .u8 b.c.b4, .int .u8 b.c.b5, .int .u8 b.c.b6, .int .u8 b.c.b7, .int .i64 b.n], .agg #[.int .u8 a.c.b0, .int .u8 a.c.b1, .int .u8 a.c.b2, .int .u8 a.c.b3, .int .u8 a.c.b4, .int .u8 a.c.b5, .int .u8 a.c.b6, .int .u8 a.c.b7, .int .i64 a.n]] v fun e w' => e = .returned (.int .i64 (-m)) ∧ Below v.heap.size v w') := by
    rw [← Hm.out, ← cmpP_neg b a]; exact fun v => ports_any b a v hb ha
  have C6 : Hid (∀ v, Calls Try.prog 10 #[.agg #[.int .u8 b.c.b0, .int .u8 b.c.b1, .int .u8 b.c.b2, .int .u8 b.c.b3, .int .u8 b.c.b4, .int .u8 b.c.b5, .int .u8 b.c.b6, .int .u8 b.c.b7], .agg #[.int .u8 a.c.b0, .int .u8 a.c.b1, .int .u8 a.c.b2, .int .u8 a.c.b3, .int .u8 a.c.b4, .int .u8 a.c.b5, .int .u8 a.c.b6, .int .u8 a.c.b7]] v fun e w' => e = .returned (.int .i64 (-n)) ∧ Below v.heap.size v w') := by
    rw [← Hn.out, ← cmpC_neg b.c a.c]; exact fun v => compare_any b.c a.c v
  have C7 : Hid (∀ v, Calls Try.prog 15 #[.agg #[.int .u8 a.c.b0, .int .u8 a.c.b1, .int .u8 a.c.b2, .int .u8 a.c.b3, .int .u8 a.c.b4, .int .u8 a.c.b5, .int .u8 a.c.b6, .int .u8 a.c.b7]] v fun e w' => e = .returned (.bool E3) ∧ Below v.heap.size v w') := by rw [← HE3.out]; exact fun v => zero_any a.c v
  have HN : Hid ((n == 0) = E1) := by rw [Hid, ← Hn.out, ← HE1.out]; exact eqC_cmp ha hb
  have HM : Hid ((m == 0) = E2) := by rw [Hid, ← Hm.out, ← HE2.out]; exact eqP_cmp ha hb
  have bn := cmpL_bd a.c.l b.c.l
  have bm := cmpP_bd a b
  change -1 ≤ cmpC a.c b.c ∧ cmpC a.c b.c ≤ 1 at bn
  rw [Hn.out] at bn
  rw [Hm.out] at bm
  obtain ⟨bn0, bn1⟩ := bn
  obtain ⟨bm0, bm1⟩ := bm
  have HQ1 := Lib.hid (eql_clock a.c b.c)
  have HQ2 := Lib.hid (eql_port a b)
  have HQ3 : Hid (∀ w, (binOp .eql 23 (.agg #[.int .u8 a.c.b0, .int .u8 a.c.b1, .int .u8 a.c.b2, .int .u8 a.c.b3, .int .u8 a.c.b4, .int .u8 a.c.b5, .int .u8 a.c.b6, .int .u8 a.c.b7]) (.agg #[.int .u8 0, .int .u8 0, .int .u8 0, .int .u8 0, .int .u8 0, .int .u8 0, .int .u8 0, .int .u8 0])).run Try.prog w = .ok (.bool E3) w) := by rw [← HE3.out]; exact eql_clock a.c zeroC
  rw [HE1.out] at HQ1
  rw [HE2.out] at HQ2
  clear ha hb
  have K2 := Lib.hid (Holds.fresh w 25 #[.int .u8 a.c.b0, .int .u8 a.c.b1, .int .u8 a.c.b2, .int .u8 a.c.b3, .int .u8 a.c.b4, .int .u8 a.c.b5, .int .u8 a.c.b6, .int .u8 a.c.b7, .int .i64 a.n] (g := w.heap.size) (by simp))
  replace K2 := Lib.hid ((K2.out).laid (.cells #[.int .u8 b.c.b0, .int .u8 b.c.b1, .int .u8 b.c.b2, .int .u8 b.c.b3, .int .u8 b.c.b4, .int .u8 b.c.b5, .int .u8 b.c.b6, .int .u8 b.c.b7, .int .i64 b.n] 25))
  have K3 := Lib.hid (Holds.fresh (w.alloc (.cells #[.int .u8 a.c.b0, .int .u8 a.c.b1, .int .u8 a.c.b2, .int .u8 a.c.b3, .int .u8 a.c.b4, .int .u8 a.c.b5, .int .u8 a.c.b6, .int .u8 a.c.b7, .int .i64 a.n] 25)) 25 #[.int .u8 b.c.b0, .int .u8 b.c.b1, .int .u8 b.c.b2, .int .u8 b.c.b3, .int .u8 b.c.b4, .int .u8 b.c.b5, .int .u8 b.c.b6, .int .u8 b.c.b7, .int .i64 b.n] (g := w.heap.size + 1) (by simp))
  have HB := Lib.hid (bstep (bnew w (.cells #[.int .u8 a.c.b0, .int .u8 a.c.b1, .int .u8 a.c.b2, .int .u8 a.c.b3, .int .u8 a.c.b4, .int .u8 a.c.b5, .int .u8 a.c.b6, .int .u8 a.c.b7, .int .i64 a.n] 25)) (bnew _ (.cells #[.int .u8 b.c.b0, .int .u8 b.c.b1, .int .u8 b.c.b2, .int .u8 b.c.b3, .int .u8 b.c.b4, .int .u8 b.c.b5, .int .u8 b.c.b6, .int .u8 b.c.b7, .int .i64 b.n] 25)))
  go_enter Try.func3, Try.ntmps3
  go_wp2_with fail
  generalize ((w.alloc (.cells #[.int .u8 a.c.b0, .int .u8 a.c.b1, .int .u8 a.c.b2, .int .u8 a.c.b3, .int .u8 a.c.b4, .int .u8 a.c.b5, .int .u8 a.c.b6, .int .u8 a.c.b7, .int .i64 a.n] 25)).alloc (.cells #[.int .u8 b.c.b0, .int .u8 b.c.b1, .int .u8 b.c.b2, .int .u8 b.c.b3, .int .u8 b.c.b4, .int .u8 b.c.b5, .int .u8 b.c.b6, .int .u8 b.c.b7, .int .i64 b.n] 25)) = W0 at *
  have x1_0 := (K2.out).reads (i := 0) rfl
  have x1_1 := (K2.out).reads (i := 1) rfl
  have x1_2 := (K2.out).reads (i := 2) rfl
  have x1_3 := (K2.out).reads (i := 3) rfl
  have x1_4 := (K2.out).reads (i := 4) rfl
  have x1_5 := (K2.out).reads (i := 5) rfl
  have x1_6 := (K2.out).reads (i := 6) rfl
  have x1_7 := (K2.out).reads (i := 7) rfl
  have x1_8 := (K2.out).reads (i := 8) rfl
  have x2_0 := (K3.out).reads (i := 0) rfl
  have x2_1 := (K3.out).reads (i := 1) rfl
  have x2_2 := (K3.out).reads (i := 2) rfl
  have x2_3 := (K3.out).reads (i := 3) rfl
  have x2_4 := (K3.out).reads (i := 4) rfl
  have x2_5 := (K3.out).reads (i := 5) rfl
  have x2_6 := (K3.out).reads (i := 6) rfl
  have x2_7 := (K3.out).reads (i := 7) rfl
  have x2_8 := (K3.out).reads (i := 8) rfl
  go_region_held3 (fun v => v.cell? ⟨w.heap.size, 0, none⟩ = some (.int .u8 a.c.b0) ∧ v.cell? ⟨w.heap.size, 1, none⟩ = some (.int .u8 a.c.b1) ∧ v.cell? ⟨w.heap.size, 2, none⟩ = some (.int .u8 a.c.b2) ∧ v.cell? ⟨w.heap.size, 3, none⟩ = some (.int .u8 a.c.b3) ∧ v.cell? ⟨w.heap.size, 4, none⟩ = some (.int .u8 a.c.b4) ∧ v.cell? ⟨w.heap.size, 5, none⟩ = some (.int .u8 a.c.b5) ∧ v.cell? ⟨w.heap.size, 6, none⟩ = some (.int .u8 a.c.b6) ∧ v.cell? ⟨w.heap.size, 7, none⟩ = some (.int .u8 a.c.b7) ∧ v.cell? ⟨w.heap.size, 8, none⟩ = some (.int .i64 a.n) ∧ v.cell? ⟨w.heap.size + 1, 0, none⟩ = some (.int .u8 b.c.b0) ∧ v.cell? ⟨w.heap.size + 1, 1, none⟩ = some (.int .u8 b.c.b1) ∧ v.cell? ⟨w.heap.size + 1, 2, none⟩ = some (.int .u8 b.c.b2) ∧ v.cell? ⟨w.heap.size + 1, 3, none⟩ = some (.int .u8 b.c.b3) ∧ v.cell? ⟨w.heap.size + 1, 4, none⟩ = some (.int .u8 b.c.b4) ∧ v.cell? ⟨w.heap.size + 1, 5, none⟩ = some (.int .u8 b.c.b5) ∧ v.cell? ⟨w.heap.size + 1, 6, none⟩ = some (.int .u8 b.c.b6) ∧ v.cell? ⟨w.heap.size + 1, 7, none⟩ = some (.int .u8 b.c.b7) ∧ v.cell? ⟨w.heap.size + 1, 8, none⟩ = some (.int .i64 b.n))
    (first | (with_reducible exact keep18 (by assumption) (by assumption)) | (with_reducible exact keep18 (bnew _ _) (by assumption)) | (exact ⟨x1_0, x1_1, x1_2, x1_3, x1_4, x1_5, x1_6, x1_7, x1_8, x2_0, x2_1, x2_2, x2_3, x2_4, x2_5, x2_6, x2_7, x2_8⟩) | go_keep)
    (first
      | (go_at_call 10; (with_reducible refine (C1.out _).mono ?_); rintro e v3_0 ⟨rfl, hv3_0⟩)
      | (go_at_call 11; (with_reducible refine (C3.out _).mono ?_); rintro e v3_1 ⟨rfl, hv3_1⟩))
  have HV4 := Lib.hid (bstep (bstep (bdrew (Below.refl (W0).heap.size W0)) hv3_0) hv3_1)
  clear x1_0 x1_1 x1_2 x1_3 x1_4 x1_5 x1_6 x1_7 x1_8 x2_0 x2_1 x2_2 x2_3 x2_4 x2_5 x2_6 x2_7 x2_8
  replace K2 := Lib.hid ((K2.out).keptB HV4.out)
  replace K3 := Lib.hid ((K3.out).keptB HV4.out)
  replace HB := Lib.hid (bstep HB.out HV4.out)
  clear hv3_0 hv3_1 HV4
  have x5_0 := (K2.out).reads (i := 0) rfl
  have x5_1 := (K2.out).reads (i := 1) rfl
  have x5_2 := (K2.out).reads (i := 2) rfl
  have x5_3 := (K2.out).reads (i := 3) rfl
  have x5_4 := (K2.out).reads (i := 4) rfl
  have x5_5 := (K2.out).reads (i := 5) rfl
  have x5_6 := (K2.out).reads (i := 6) rfl
  have x5_7 := (K2.out).reads (i := 7) rfl
  have x5_8 := (K2.out).reads (i := 8) rfl
  have x6_0 := (K3.out).reads (i := 0) rfl
  have x6_1 := (K3.out).reads (i := 1) rfl
  have x6_2 := (K3.out).reads (i := 2) rfl
  have x6_3 := (K3.out).reads (i := 3) rfl
  have x6_4 := (K3.out).reads (i := 4) rfl
  have x6_5 := (K3.out).reads (i := 5) rfl
  have x6_6 := (K3.out).reads (i := 6) rfl
  have x6_7 := (K3.out).reads (i := 7) rfl
  have x6_8 := (K3.out).reads (i := 8) rfl
  go_wp2_with fail
  refine (C2.out _).mono ?_
  rintro e w7 ⟨rfl, hw7⟩
  clear x5_0 x5_1 x5_2 x5_3 x5_4 x5_5 x5_6 x5_7 x5_8 x6_0 x6_1 x6_2 x6_3 x6_4 x6_5 x6_6 x6_7 x6_8
  replace K2 := Lib.hid ((K2.out).keptB hw7)
  replace K3 := Lib.hid ((K3.out).keptB hw7)
  replace HB := Lib.hid (bstep HB.out hw7)
  clear hw7
  have x8_0 := (K2.out).reads (i := 0) rfl
  have x8_1 := (K2.out).reads (i := 1) rfl
  have x8_2 := (K2.out).reads (i := 2) rfl
  have x8_3 := (K2.out).reads (i := 3) rfl
  have x8_4 := (K2.out).reads (i := 4) rfl
  have x8_5 := (K2.out).reads (i := 5) rfl
  have x8_6 := (K2.out).reads (i := 6) rfl
  have x8_7 := (K2.out).reads (i := 7) rfl
  have x8_8 := (K2.out).reads (i := 8) rfl
  have x9_0 := (K3.out).reads (i := 0) rfl
  have x9_1 := (K3.out).reads (i := 1) rfl
  have x9_2 := (K3.out).reads (i := 2) rfl
  have x9_3 := (K3.out).reads (i := 3) rfl
  have x9_4 := (K3.out).reads (i := 4) rfl
  have x9_5 := (K3.out).reads (i := 5) rfl
  have x9_6 := (K3.out).reads (i := 6) rfl
  have x9_7 := (K3.out).reads (i := 7) rfl
  have x9_8 := (K3.out).reads (i := 8) rfl
  go_wp2_with fail
  refine (C4.out _).mono ?_
  rintro e w10 ⟨rfl, hw10⟩
  clear x8_0 x8_1 x8_2 x8_3 x8_4 x8_5 x8_6 x8_7 x8_8 x9_0 x9_1 x9_2 x9_3 x9_4 x9_5 x9_6 x9_7 x9_8
  replace K2 := Lib.hid ((K2.out).keptB hw10)
  replace K3 := Lib.hid ((K3.out).keptB hw10)
  replace HB := Lib.hid (bstep HB.out hw10)
  clear hw10
  have x11_0 := (K2.out).reads (i := 0) rfl
  have x11_1 := (K2.out).reads (i := 1) rfl
  have x11_2 := (K2.out).reads (i := 2) rfl
  have x11_3 := (K2.out).reads (i := 3) rfl
  have x11_4 := (K2.out).reads (i := 4) rfl
  have x11_5 := (K2.out).reads (i := 5) rfl
  have x11_6 := (K2.out).reads (i := 6) rfl
  have x11_7 := (K2.out).reads (i := 7) rfl
  have x11_8 := (K2.out).reads (i := 8) rfl
  have x12_0 := (K3.out).reads (i := 0) rfl
  have x12_1 := (K3.out).reads (i := 1) rfl
  have x12_2 := (K3.out).reads (i := 2) rfl
  have x12_3 := (K3.out).reads (i := 3) rfl
  have x12_4 := (K3.out).reads (i := 4) rfl
  have x12_5 := (K3.out).reads (i := 5) rfl
  have x12_6 := (K3.out).reads (i := 6) rfl
  have x12_7 := (K3.out).reads (i := 7) rfl
  have x12_8 := (K3.out).reads (i := 8) rfl
  go_wp2_with fail
  refine (C5.out _).mono ?_
  rintro e w13 ⟨rfl, hw13⟩
  clear x11_0 x11_1 x11_2 x11_3 x11_4 x11_5 x11_6 x11_7 x11_8 x12_0 x12_1 x12_2 x12_3 x12_4 x12_5 x12_6 x12_7 x12_8
  replace K2 := Lib.hid ((K2.out).keptB hw13)
  replace K3 := Lib.hid ((K3.out).keptB hw13)
  replace HB := Lib.hid (bstep HB.out hw13)
  clear hw13
  have x14_0 := (K2.out).reads (i := 0) rfl
  have x14_1 := (K2.out).reads (i := 1) rfl
  have x14_2 := (K2.out).reads (i := 2) rfl
  have x14_3 := (K2.out).reads (i := 3) rfl
  have x14_4 := (K2.out).reads (i := 4) rfl
  have x14_5 := (K2.out).reads (i := 5) rfl
  have x14_6 := (K2.out).reads (i := 6) rfl
  have x14_7 := (K2.out).reads (i := 7) rfl
  have x14_8 := (K2.out).reads (i := 8) rfl
  have x15_0 := (K3.out).reads (i := 0) rfl
  have x15_1 := (K3.out).reads (i := 1) rfl
  have x15_2 := (K3.out).reads (i := 2) rfl
  have x15_3 := (K3.out).reads (i := 3) rfl
  have x15_4 := (K3.out).reads (i := 4) rfl
  have x15_5 := (K3.out).reads (i := 5) rfl
  have x15_6 := (K3.out).reads (i := 6) rfl
  have x15_7 := (K3.out).reads (i := 7) rfl
  have x15_8 := (K3.out).reads (i := 8) rfl
  go_wp2_with fail
  refine (C6.out _).mono ?_
  rintro e w16 ⟨rfl, hw16⟩
  clear x14_0 x14_1 x14_2 x14_3 x14_4 x14_5 x14_6 x14_7 x14_8 x15_0 x15_1 x15_2 x15_3 x15_4 x15_5 x15_6 x15_7 x15_8
  replace K2 := Lib.hid ((K2.out).keptB hw16)
  replace K3 := Lib.hid ((K3.out).keptB hw16)
  replace HB := Lib.hid (bstep HB.out hw16)
  clear hw16
  have hn := HN.out
  have hm := HM.out
  have hq1 := HQ1.out
  have hq2 := HQ2.out
  have hq3 := HQ3.out
  go_wp2_with fail
  have x17_0 := (K2.out).reads (i := 0) rfl
  have x17_1 := (K2.out).reads (i := 1) rfl
  have x17_2 := (K2.out).reads (i := 2) rfl
  have x17_3 := (K2.out).reads (i := 3) rfl
  have x17_4 := (K2.out).reads (i := 4) rfl
  have x17_5 := (K2.out).reads (i := 5) rfl
  have x17_6 := (K2.out).reads (i := 6) rfl
  have x17_7 := (K2.out).reads (i := 7) rfl
  have x17_8 := (K2.out).reads (i := 8) rfl
  have x18_0 := (K3.out).reads (i := 0) rfl
  have x18_1 := (K3.out).reads (i := 1) rfl
  have x18_2 := (K3.out).reads (i := 2) rfl
  have x18_3 := (K3.out).reads (i := 3) rfl
  have x18_4 := (K3.out).reads (i := 4) rfl
  have x18_5 := (K3.out).reads (i := 5) rfl
  have x18_6 := (K3.out).reads (i := 6) rfl
  have x18_7 := (K3.out).reads (i := 7) rfl
  have x18_8 := (K3.out).reads (i := 8) rfl
  go_region_held3 (fun v => v.cell? ⟨w.heap.size, 0, none⟩ = some (.int .u8 a.c.b0) ∧ v.cell? ⟨w.heap.size, 1, none⟩ = some (.int .u8 a.c.b1) ∧ v.cell? ⟨w.heap.size, 2, none⟩ = some (.int .u8 a.c.b2) ∧ v.cell? ⟨w.heap.size, 3, none⟩ = some (.int .u8 a.c.b3) ∧ v.cell? ⟨w.heap.size, 4, none⟩ = some (.int .u8 a.c.b4) ∧ v.cell? ⟨w.heap.size, 5, none⟩ = some (.int .u8 a.c.b5) ∧ v.cell? ⟨w.heap.size, 6, none⟩ = some (.int .u8 a.c.b6) ∧ v.cell? ⟨w.heap.size, 7, none⟩ = some (.int .u8 a.c.b7) ∧ v.cell? ⟨w.heap.size, 8, none⟩ = some (.int .i64 a.n) ∧ v.cell? ⟨w.heap.size + 1, 0, none⟩ = some (.int .u8 b.c.b0) ∧ v.cell? ⟨w.heap.size + 1, 1, none⟩ = some (.int .u8 b.c.b1) ∧ v.cell? ⟨w.heap.size + 1, 2, none⟩ = some (.int .u8 b.c.b2) ∧ v.cell? ⟨w.heap.size + 1, 3, none⟩ = some (.int .u8 b.c.b3) ∧ v.cell? ⟨w.heap.size + 1, 4, none⟩ = some (.int .u8 b.c.b4) ∧ v.cell? ⟨w.heap.size + 1, 5, none⟩ = some (.int .u8 b.c.b5) ∧ v.cell? ⟨w.heap.size + 1, 6, none⟩ = some (.int .u8 b.c.b6) ∧ v.cell? ⟨w.heap.size + 1, 7, none⟩ = some (.int .u8 b.c.b7) ∧ v.cell? ⟨w.heap.size + 1, 8, none⟩ = some (.int .i64 b.n))
    (first | (with_reducible exact keep18 (by assumption) (by assumption)) | (with_reducible exact keep18 (bnew _ _) (by assumption)) | (exact ⟨x17_0, x17_1, x17_2, x17_3, x17_4, x17_5, x17_6, x17_7, x17_8, x18_0, x18_1, x18_2, x18_3, x18_4, x18_5, x18_6, x18_7, x18_8⟩) | go_keep)
    (first
      | (go_at_call 14; (with_reducible refine (alive4_any _).mono ?_); rintro e v19_0 ⟨rfl, hv19_0⟩)
      | (go_at_call 15; (with_reducible refine (C7.out _).mono ?_); rintro e v19_1 ⟨rfl, hv19_1⟩))
  have HV20 := Lib.hid (bstep (bstep (bdrew (Below.refl (w16).heap.size w16)) hv19_0) hv19_1)
  clear x17_0 x17_1 x17_2 x17_3 x17_4 x17_5 x17_6 x17_7 x17_8 x18_0 x18_1 x18_2 x18_3 x18_4 x18_5 x18_6 x18_7 x18_8
  replace K2 := Lib.hid ((K2.out).keptB HV20.out)
  replace K3 := Lib.hid ((K3.out).keptB HV20.out)
  replace HB := Lib.hid (bstep HB.out HV20.out)
  clear hv19_0 hv19_1 HV20
  go_wp2
  go_ret
  exact ⟨rfl, HB.out⟩

end Go.Proofs.Ytbiglmpibdlhmaa
