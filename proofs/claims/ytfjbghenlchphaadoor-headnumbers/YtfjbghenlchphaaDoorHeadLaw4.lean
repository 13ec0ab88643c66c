/- The walk over the law HeadNumbers. -/
import Derived.Test.YtfjbghenlchphaaDoorHeadAlive
import Derived.Test.YtfjbghenlchphaaDoorHeadRef
namespace Go.Proofs.YtfjbghenlchphaaDoor
open Go.RowKit
set_option linter.unusedVariables false

set_option maxRecDepth 100000 in
set_option maxHeartbeats 4000000 in
theorem numbers5_walk (a b : Int) (w : World) (hl : Lens w) :
    Calls Tryd.prog 6 #[.int .i64 a, .int .i64 b] w fun e w' => e = .returned (.bool true) ∧ Below w.heap.size w w' := by
  obtain ⟨m, Hm⟩ : ∃ m, Hid (nextN a = m) := ⟨_, Lib.hid rfl⟩
  obtain ⟨D, HD⟩ : ∃ D, Hid (behindB a b = D) := ⟨_, Lib.hid rfl⟩
  obtain ⟨E, HE⟩ : ∃ E, Hid (behindB b a = E) := ⟨_, Lib.hid rfl⟩
  obtain ⟨G, HG⟩ : ∃ G, Hid (behindB (nextN a) a = G) := ⟨_, Lib.hid rfl⟩
  have hDE : D = true → E = false := by
    intro h
    rw [← HD.out, behindB_iff] at h
    rw [← HE.out, ← Bool.not_eq_true, behindB_iff]
    omega
  have hDr : D = true → 0 ≤ a ∧ a ≤ 65535 := by
    intro h
    rw [← HD.out, behindB_iff] at h
    omega
  have hG : 0 ≤ a → a ≤ 65535 → G = true := by
    intro h0 h1
    rw [← HG.out]
    by_cases h : a = 65535
    · subst h; rfl
    · have e : nextN a = a + 1 := by unfold nextN; rw [if_pos ⟨inB_iff.2 ⟨h0, h1⟩, h⟩]
      rw [e, behindB_iff]
      omega
  have hAA : behindB a a = false := by
    rw [← Bool.not_eq_true, behindB_iff]
    omega
  have C1 : Hid (∀ v, Calls Tryd.prog 19 #[.int .i64 a] v fun e w' => e = .returned (.int .i64 m) ∧ Below v.heap.size v w') := fun v => (next_any a v).mono fun _ _ ⟨he, hw⟩ => ⟨by rw [he, Hm.out], hw ▸ Below.refl _ _⟩
  have C2 : Hid (∀ v, Calls Tryd.prog 20 #[.int .i64 a] v fun e w' => e = .returned (.int .i64 m) ∧ Below v.heap.size v w') := fun v => (rnext_any a v).mono fun _ _ ⟨he, hw⟩ => ⟨by rw [he, Hm.out], hw ▸ Below.refl _ _⟩
  have C3 : Hid (∀ v, Calls Tryd.prog 21 #[.int .i64 a, .int .i64 b] v fun e w' => e = .returned (.bool D) ∧ Below v.heap.size v w') := fun v => (behind_any a b v).mono fun _ _ ⟨he, hw⟩ => ⟨by rw [he, HD.out], hw ▸ Below.refl _ _⟩
  have C4 : Hid (∀ v, Calls Tryd.prog 22 #[.int .i64 a, .int .i64 b] v fun e w' => e = .returned (.bool D) ∧ Below v.heap.size v w') := fun v => (rbehind_any a b v).mono fun _ _ ⟨he, hw⟩ => ⟨by rw [he, HD.out], hw ▸ Below.refl _ _⟩
  have C5 : Hid (∀ v, Calls Tryd.prog 21 #[.int .i64 b, .int .i64 a] v fun e w' => e = .returned (.bool E) ∧ Below v.heap.size v w') := fun v => (behind_any b a v).mono fun _ _ ⟨he, hw⟩ => ⟨by rw [he, HE.out], hw ▸ Below.refl _ _⟩
  have C6 : Hid (∀ v, Calls Tryd.prog 21 #[.int .i64 m, .int .i64 a] v fun e w' => e = .returned (.bool G) ∧ Below v.heap.size v w') := fun v => (behind_any m a v).mono fun _ _ ⟨he, hw⟩ => ⟨by rw [he, ← HG.out, Hm.out], hw ▸ Below.refl _ _⟩
  have C7 : Hid (∀ v, Calls Tryd.prog 21 #[.int .i64 a, .int .i64 a] v fun e w' => e = .returned (.bool false) ∧ Below v.heap.size v w') := fun v => (behind_any a a v).mono fun _ _ ⟨he, hw⟩ => ⟨by rw [he, hAA], hw ▸ Below.refl _ _⟩
  have HL := Lib.hid hl
  have HB := Lib.hid (Below.refl w.heap.size w)
  clear hl hAA
  by_cases ha : a < 0
  · have d1 : decide (a < 0) = true := by simpa using ha
    have hD : D = false := by
      rw [← Bool.not_eq_true]
      intro h
      have := hDr h
      omega
    subst hD
    clear hDE hDr hG
    go_enter Tryd.func6, Tryd.ntmps6
    go_wp2_with fail
    refine (C1.out _).mono ?_
    rintro e w1 ⟨rfl, hw1⟩
    replace HL := Lib.hid ((HL.out).keptB hw1)
    replace HB := Lib.hid (bstep HB.out hw1)
    clear hw1
    go_wp2_with fail
    refine (C2.out _).mono ?_
    rintro e w2 ⟨rfl, hw2⟩
    replace HL := Lib.hid ((HL.out).keptB hw2)
    replace HB := Lib.hid (bstep HB.out hw2)
    clear hw2
    go_wp2_with fail
    refine (C3.out _).mono ?_
    rintro e w3 ⟨rfl, hw3⟩
    replace HL := Lib.hid ((HL.out).keptB hw3)
    replace HB := Lib.hid (bstep HB.out hw3)
    clear hw3
    go_wp2_with fail
    refine (C4.out _).mono ?_
    rintro e w4 ⟨rfl, hw4⟩
    replace HL := Lib.hid ((HL.out).keptB hw4)
    replace HB := Lib.hid (bstep HB.out hw4)
    clear hw4
    go_wp2_with fail
    refine (C3.out _).mono ?_
    rintro e w5 ⟨rfl, hw5⟩
    replace HL := Lib.hid ((HL.out).keptB hw5)
    replace HB := Lib.hid (bstep HB.out hw5)
    clear hw5
    go_wp2_with fail
    refine (alive5_any _ HL.out).mono ?_
    rintro e w6 ⟨rfl, hw6⟩
    replace HL := Lib.hid ((HL.out).keptB hw6)
    replace HB := Lib.hid (bstep HB.out hw6)
    clear hw6
    go_wp2_with fail
    refine (C7.out _).mono ?_
    rintro e w7 ⟨rfl, hw7⟩
    replace HL := Lib.hid ((HL.out).keptB hw7)
    replace HB := Lib.hid (bstep HB.out hw7)
    clear hw7
    go_wp2
    go_ret
    exact ⟨rfl, HB.out⟩
  have d1 : decide (a < 0) = false := by simpa using ha
  by_cases hb : 65535 < a
  · have d2 : decide (65535 < a) = true := by simpa using hb
    have hD : D = false := by
      rw [← Bool.not_eq_true]
      intro h
      have := hDr h
      omega
    subst hD
    clear hDE hDr hG
    go_enter Tryd.func6, Tryd.ntmps6
    go_wp2_with fail
    refine (C1.out _).mono ?_
    rintro e w1 ⟨rfl, hw1⟩
    replace HL := Lib.hid ((HL.out).keptB hw1)
    replace HB := Lib.hid (bstep HB.out hw1)
    clear hw1
    go_wp2_with fail
    refine (C2.out _).mono ?_
    rintro e w2 ⟨rfl, hw2⟩
    replace HL := Lib.hid ((HL.out).keptB hw2)
    replace HB := Lib.hid (bstep HB.out hw2)
    clear hw2
    go_wp2_with fail
    refine (C3.out _).mono ?_
    rintro e w3 ⟨rfl, hw3⟩
    replace HL := Lib.hid ((HL.out).keptB hw3)
    replace HB := Lib.hid (bstep HB.out hw3)
    clear hw3
    go_wp2_with fail
    refine (C4.out _).mono ?_
    rintro e w4 ⟨rfl, hw4⟩
    replace HL := Lib.hid ((HL.out).keptB hw4)
    replace HB := Lib.hid (bstep HB.out hw4)
    clear hw4
    go_wp2_with fail
    refine (C3.out _).mono ?_
    rintro e w5 ⟨rfl, hw5⟩
    replace HL := Lib.hid ((HL.out).keptB hw5)
    replace HB := Lib.hid (bstep HB.out hw5)
    clear hw5
    go_wp2_with fail
    refine (alive5_any _ HL.out).mono ?_
    rintro e w6 ⟨rfl, hw6⟩
    replace HL := Lib.hid ((HL.out).keptB hw6)
    replace HB := Lib.hid (bstep HB.out hw6)
    clear hw6
    go_wp2_with fail
    refine (C7.out _).mono ?_
    rintro e w7 ⟨rfl, hw7⟩
    replace HL := Lib.hid ((HL.out).keptB hw7)
    replace HB := Lib.hid (bstep HB.out hw7)
    clear hw7
    go_wp2
    go_ret
    exact ⟨rfl, HB.out⟩
  have d2 : decide (65535 < a) = false := by simpa using hb
  have hGt := hG (by omega) (by omega)
  subst hGt
  cases hD : D
  · subst hD
    clear hDE hDr hG
    go_enter Tryd.func6, Tryd.ntmps6
    go_wp2_with fail
    refine (C1.out _).mono ?_
    rintro e w1 ⟨rfl, hw1⟩
    replace HL := Lib.hid ((HL.out).keptB hw1)
    replace HB := Lib.hid (bstep HB.out hw1)
    clear hw1
    go_wp2_with fail
    refine (C2.out _).mono ?_
    rintro e w2 ⟨rfl, hw2⟩
    replace HL := Lib.hid ((HL.out).keptB hw2)
    replace HB := Lib.hid (bstep HB.out hw2)
    clear hw2
    go_wp2_with fail
    refine (C3.out _).mono ?_
    rintro e w3 ⟨rfl, hw3⟩
    replace HL := Lib.hid ((HL.out).keptB hw3)
    replace HB := Lib.hid (bstep HB.out hw3)
    clear hw3
    go_wp2_with fail
    refine (C4.out _).mono ?_
    rintro e w4 ⟨rfl, hw4⟩
    replace HL := Lib.hid ((HL.out).keptB hw4)
    replace HB := Lib.hid (bstep HB.out hw4)
    clear hw4
    go_wp2_with fail
    refine (C3.out _).mono ?_
    rintro e w5 ⟨rfl, hw5⟩
    replace HL := Lib.hid ((HL.out).keptB hw5)
    replace HB := Lib.hid (bstep HB.out hw5)
    clear hw5
    go_wp2_with fail
    refine (alive5_any _ HL.out).mono ?_
    rintro e w6 ⟨rfl, hw6⟩
    replace HL := Lib.hid ((HL.out).keptB hw6)
    replace HB := Lib.hid (bstep HB.out hw6)
    clear hw6
    go_wp2_with fail
    refine (C1.out _).mono ?_
    rintro e w7 ⟨rfl, hw7⟩
    replace HL := Lib.hid ((HL.out).keptB hw7)
    replace HB := Lib.hid (bstep HB.out hw7)
    clear hw7
    go_wp2_with fail
    refine (C6.out _).mono ?_
    rintro e w8 ⟨rfl, hw8⟩
    replace HL := Lib.hid ((HL.out).keptB hw8)
    replace HB := Lib.hid (bstep HB.out hw8)
    clear hw8
    go_wp2_with fail
    refine (C7.out _).mono ?_
    rintro e w9 ⟨rfl, hw9⟩
    replace HL := Lib.hid ((HL.out).keptB hw9)
    replace HB := Lib.hid (bstep HB.out hw9)
    clear hw9
    go_wp2
    go_ret
    exact ⟨rfl, HB.out⟩
  · have hE := hDE hD
    subst hD
    subst hE
    clear hDE hDr hG
    go_enter Tryd.func6, Tryd.ntmps6
    go_wp2_with fail
    refine (C1.out _).mono ?_
    rintro e w1 ⟨rfl, hw1⟩
    replace HL := Lib.hid ((HL.out).keptB hw1)
    replace HB := Lib.hid (bstep HB.out hw1)
    clear hw1
    go_wp2_with fail
    refine (C2.out _).mono ?_
    rintro e w2 ⟨rfl, hw2⟩
    replace HL := Lib.hid ((HL.out).keptB hw2)
    replace HB := Lib.hid (bstep HB.out hw2)
    clear hw2
    go_wp2_with fail
    refine (C3.out _).mono ?_
    rintro e w3 ⟨rfl, hw3⟩
    replace HL := Lib.hid ((HL.out).keptB hw3)
    replace HB := Lib.hid (bstep HB.out hw3)
    clear hw3
    go_wp2_with fail
    refine (C4.out _).mono ?_
    rintro e w4 ⟨rfl, hw4⟩
    replace HL := Lib.hid ((HL.out).keptB hw4)
    replace HB := Lib.hid (bstep HB.out hw4)
    clear hw4
    go_wp2_with fail
    refine (C3.out _).mono ?_
    rintro e w5 ⟨rfl, hw5⟩
    replace HL := Lib.hid ((HL.out).keptB hw5)
    replace HB := Lib.hid (bstep HB.out hw5)
    clear hw5
    go_wp2_with fail
    refine (C5.out _).mono ?_
    rintro e w6 ⟨rfl, hw6⟩
    replace HL := Lib.hid ((HL.out).keptB hw6)
    replace HB := Lib.hid (bstep HB.out hw6)
    clear hw6
    go_wp2_with fail
    refine (alive5_any _ HL.out).mono ?_
    rintro e w7 ⟨rfl, hw7⟩
    replace HL := Lib.hid ((HL.out).keptB hw7)
    replace HB := Lib.hid (bstep HB.out hw7)
    clear hw7
    go_wp2_with fail
    refine (C1.out _).mono ?_
    rintro e w8 ⟨rfl, hw8⟩
    replace HL := Lib.hid ((HL.out).keptB hw8)
    replace HB := Lib.hid (bstep HB.out hw8)
    clear hw8
    go_wp2_with fail
    refine (C6.out _).mono ?_
    rintro e w9 ⟨rfl, hw9⟩
    replace HL := Lib.hid ((HL.out).keptB hw9)
    replace HB := Lib.hid (bstep HB.out hw9)
    clear hw9
    go_wp2_with fail
    refine (C7.out _).mono ?_
    rintro e w10 ⟨rfl, hw10⟩
    replace HL := Lib.hid ((HL.out).keptB hw10)
    replace HB := Lib.hid (bstep HB.out hw10)
    clear hw10
    go_wp2
    go_ret
    exact ⟨rfl, HB.out⟩

end Go.Proofs.YtfjbghenlchphaaDoor
