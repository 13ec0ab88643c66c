/- The walk over the law IdentNames. -/
import Derived.Test.YtbiglmpibdlhmaaIdentAlive
namespace Go.Proofs.Ytbiglmpibdlhmaa
open Go.RowKit
set_option linter.unusedVariables false

/-- texts are the same just if the clocks are -/
theorem hex_beq {a b : Ck} (ha : a.ok) (hb : b.ok) : (hexL a.l == hexL b.l) = eqC a b := by
  rw [Bool.eq_iff_iff, beq_iff_eq, eqC_iff]
  constructor
  · intro h
    have h1 := (rd_hex ha).2
    rw [h, (rd_hex hb).2] at h1
    exact h1.symm
  · rintro rfl; rfl

set_option maxRecDepth 100000 in
set_option maxHeartbeats 4000000 in
theorem names4_walk (a b : Ck) (ha : a.ok) (hb : b.ok) (w : World) :
    Calls Try.prog 9 #[.agg #[.int .u8 a.b0, .int .u8 a.b1, .int .u8 a.b2, .int .u8 a.b3, .int .u8 a.b4, .int .u8 a.b5, .int .u8 a.b6, .int .u8 a.b7], .agg #[.int .u8 b.b0, .int .u8 b.b1, .int .u8 b.b2, .int .u8 b.b3, .int .u8 b.b4, .int .u8 b.b5, .int .u8 b.b6, .int .u8 b.b7]] w fun e w' => e = .returned (.bool true) ∧ Below w.heap.size w w' := by
  obtain ⟨S1, HS1⟩ : ∃ S1, Hid (strOfNums (hexL a.l) = S1) := ⟨_, Lib.hid rfl⟩
  obtain ⟨S2, HS2⟩ : ∃ S2, Hid (strOfNums (hexL b.l) = S2) := ⟨_, Lib.hid rfl⟩
  obtain ⟨E, HE⟩ : ∃ E, Hid (eqC a b = E) := ⟨_, Lib.hid rfl⟩
  have C1 : Hid (∀ v, Calls Try.prog 18 #[.agg #[.int .u8 a.b0, .int .u8 a.b1, .int .u8 a.b2, .int .u8 a.b3, .int .u8 a.b4, .int .u8 a.b5, .int .u8 a.b6, .int .u8 a.b7]] v fun e w' => e = .returned (.string S1) ∧ Below v.heap.size v w') := by rw [← HS1.out]; exact fun v => text_any a ha v
  have C2 : Hid (∀ v, Calls Try.prog 18 #[.agg #[.int .u8 b.b0, .int .u8 b.b1, .int .u8 b.b2, .int .u8 b.b3, .int .u8 b.b4, .int .u8 b.b5, .int .u8 b.b6, .int .u8 b.b7]] v fun e w' => e = .returned (.string S2) ∧ Below v.heap.size v w') := by rw [← HS2.out]; exact fun v => text_any b hb v
  have hq : (S1.toList == S2.toList) = E := by
    rw [← HS1.out, ← HS2.out, beq_str (hexL_byte ha) (hexL_byte hb), ← HE.out]
    exact hex_beq ha hb
  have hz : ((S1.size : Int) == 16) = true := by
    rw [← HS1.out, strOfNums_size, hexL_length, Ck.len]; rfl
  have heq := eql_clock a b
  rw [HE.out] at heq
  have HQ := Lib.hid hq
  have HZ := Lib.hid hz
  clear ha hb hq hz
  have K2 := Lib.hid (Holds.fresh w 23 #[.int .u8 a.b0, .int .u8 a.b1, .int .u8 a.b2, .int .u8 a.b3, .int .u8 a.b4, .int .u8 a.b5, .int .u8 a.b6, .int .u8 a.b7] (g := w.heap.size) (by simp))
  replace K2 := Lib.hid ((K2.out).laid (.cells #[.int .u8 b.b0, .int .u8 b.b1, .int .u8 b.b2, .int .u8 b.b3, .int .u8 b.b4, .int .u8 b.b5, .int .u8 b.b6, .int .u8 b.b7] 23))
  have K3 := Lib.hid (Holds.fresh (w.alloc (.cells #[.int .u8 a.b0, .int .u8 a.b1, .int .u8 a.b2, .int .u8 a.b3, .int .u8 a.b4, .int .u8 a.b5, .int .u8 a.b6, .int .u8 a.b7] 23)) 23 #[.int .u8 b.b0, .int .u8 b.b1, .int .u8 b.b2, .int .u8 b.b3, .int .u8 b.b4, .int .u8 b.b5, .int .u8 b.b6, .int .u8 b.b7] (g := w.heap.size + 1) (by simp))
  have HB := Lib.hid (bstep (bnew w (.cells #[.int .u8 a.b0, .int .u8 a.b1, .int .u8 a.b2, .int .u8 a.b3, .int .u8 a.b4, .int .u8 a.b5, .int .u8 a.b6, .int .u8 a.b7] 23)) (bnew _ (.cells #[.int .u8 b.b0, .int .u8 b.b1, .int .u8 b.b2, .int .u8 b.b3, .int .u8 b.b4, .int .u8 b.b5, .int .u8 b.b6, .int .u8 b.b7] 23)))
  go_enter Try.func9, Try.ntmps9
  go_wp2_with fail
  generalize ((w.alloc (.cells #[.int .u8 a.b0, .int .u8 a.b1, .int .u8 a.b2, .int .u8 a.b3, .int .u8 a.b4, .int .u8 a.b5, .int .u8 a.b6, .int .u8 a.b7] 23)).alloc (.cells #[.int .u8 b.b0, .int .u8 b.b1, .int .u8 b.b2, .int .u8 b.b3, .int .u8 b.b4, .int .u8 b.b5, .int .u8 b.b6, .int .u8 b.b7] 23)) = W0 at *
  have x1_0 := (K2.out).reads (i := 0) rfl
  have x1_1 := (K2.out).reads (i := 1) rfl
  have x1_2 := (K2.out).reads (i := 2) rfl
  have x1_3 := (K2.out).reads (i := 3) rfl
  have x1_4 := (K2.out).reads (i := 4) rfl
  have x1_5 := (K2.out).reads (i := 5) rfl
  have x1_6 := (K2.out).reads (i := 6) rfl
  have x1_7 := (K2.out).reads (i := 7) rfl
  have x2_0 := (K3.out).reads (i := 0) rfl
  have x2_1 := (K3.out).reads (i := 1) rfl
  have x2_2 := (K3.out).reads (i := 2) rfl
  have x2_3 := (K3.out).reads (i := 3) rfl
  have x2_4 := (K3.out).reads (i := 4) rfl
  have x2_5 := (K3.out).reads (i := 5) rfl
  have x2_6 := (K3.out).reads (i := 6) rfl
  have x2_7 := (K3.out).reads (i := 7) rfl
  go_region_held3 (fun v => v.cell? ⟨w.heap.size, 0, none⟩ = some (.int .u8 a.b0) ∧ v.cell? ⟨w.heap.size, 1, none⟩ = some (.int .u8 a.b1) ∧ v.cell? ⟨w.heap.size, 2, none⟩ = some (.int .u8 a.b2) ∧ v.cell? ⟨w.heap.size, 3, none⟩ = some (.int .u8 a.b3) ∧ v.cell? ⟨w.heap.size, 4, none⟩ = some (.int .u8 a.b4) ∧ v.cell? ⟨w.heap.size, 5, none⟩ = some (.int .u8 a.b5) ∧ v.cell? ⟨w.heap.size, 6, none⟩ = some (.int .u8 a.b6) ∧ v.cell? ⟨w.heap.size, 7, none⟩ = some (.int .u8 a.b7) ∧ v.cell? ⟨w.heap.size + 1, 0, none⟩ = some (.int .u8 b.b0) ∧ v.cell? ⟨w.heap.size + 1, 1, none⟩ = some (.int .u8 b.b1) ∧ v.cell? ⟨w.heap.size + 1, 2, none⟩ = some (.int .u8 b.b2) ∧ v.cell? ⟨w.heap.size + 1, 3, none⟩ = some (.int .u8 b.b3) ∧ v.cell? ⟨w.heap.size + 1, 4, none⟩ = some (.int .u8 b.b4) ∧ v.cell? ⟨w.heap.size + 1, 5, none⟩ = some (.int .u8 b.b5) ∧ v.cell? ⟨w.heap.size + 1, 6, none⟩ = some (.int .u8 b.b6) ∧ v.cell? ⟨w.heap.size + 1, 7, none⟩ = some (.int .u8 b.b7))
    (first | (with_reducible exact keep16 (by assumption) (by assumption)) | (with_reducible exact keep16 (bnew _ _) (by assumption)) | (exact ⟨x1_0, x1_1, x1_2, x1_3, x1_4, x1_5, x1_6, x1_7, x2_0, x2_1, x2_2, x2_3, x2_4, x2_5, x2_6, x2_7⟩) | go_keep)
    (first
      | (go_at_call 18; (with_reducible refine (C1.out _).mono ?_); rintro e v3_0 ⟨rfl, hv3_0⟩)
      | (go_at_call 18; (with_reducible refine (C2.out _).mono ?_); rintro e v3_1 ⟨rfl, hv3_1⟩))
  have HV4 := Lib.hid (bstep (bstep (bdrew (Below.refl (W0).heap.size W0)) hv3_0) hv3_1)
  clear x1_0 x1_1 x1_2 x1_3 x1_4 x1_5 x1_6 x1_7 x2_0 x2_1 x2_2 x2_3 x2_4 x2_5 x2_6 x2_7
  replace K2 := Lib.hid ((K2.out).keptB HV4.out)
  replace K3 := Lib.hid ((K3.out).keptB HV4.out)
  replace HB := Lib.hid (bstep HB.out HV4.out)
  clear hv3_0 hv3_1 HV4
  have hq := HQ.out
  have hz := HZ.out
  go_wp2_with fail
  refine (alive4_any _).mono ?_
  rintro e w5 ⟨rfl, hw5⟩
  replace K2 := Lib.hid ((K2.out).keptB hw5)
  replace K3 := Lib.hid ((K3.out).keptB hw5)
  replace HB := Lib.hid (bstep HB.out hw5)
  clear hw5
  have x6_0 := (K2.out).reads (i := 0) rfl
  have x6_1 := (K2.out).reads (i := 1) rfl
  have x6_2 := (K2.out).reads (i := 2) rfl
  have x6_3 := (K2.out).reads (i := 3) rfl
  have x6_4 := (K2.out).reads (i := 4) rfl
  have x6_5 := (K2.out).reads (i := 5) rfl
  have x6_6 := (K2.out).reads (i := 6) rfl
  have x6_7 := (K2.out).reads (i := 7) rfl
  have x7_0 := (K3.out).reads (i := 0) rfl
  have x7_1 := (K3.out).reads (i := 1) rfl
  have x7_2 := (K3.out).reads (i := 2) rfl
  have x7_3 := (K3.out).reads (i := 3) rfl
  have x7_4 := (K3.out).reads (i := 4) rfl
  have x7_5 := (K3.out).reads (i := 5) rfl
  have x7_6 := (K3.out).reads (i := 6) rfl
  have x7_7 := (K3.out).reads (i := 7) rfl
  cases E
  all_goals
    go_wp2
    go_ret
    exact ⟨by simp, HB.out⟩

end Go.Proofs.Ytbiglmpibdlhmaa
