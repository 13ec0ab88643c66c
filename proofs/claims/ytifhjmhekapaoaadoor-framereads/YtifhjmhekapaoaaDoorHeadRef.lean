/- The walks over the reference's plain functions of layer 5. -/
import Derived.Test.YtifhjmhekapaoaaDoorHeadRight
namespace Go.Proofs.YtifhjmhekapaoaaDoor
set_option maxRecDepth 100000
open Go.RowKit
set_option linter.unusedVariables false

set_option maxHeartbeats 400000 in
theorem rlong_any (t : Int) (w : World) :
    Calls Tryd.prog 27 #[.int .i64 t] w fun e w' => e = .returned (.int .i64 (longN t)) ∧ w = w' := by
  by_cases h0 : t = 0
  · have d0 : (t == 0) = true := by simp [h0]
    have HX := Lib.hid (show longN t = 44 by subst h0; rfl)
    clear h0
    go_enter Tryd.func27, Tryd.ntmps27
    go_wp2
    go_ret
    exact ⟨ret_int' HX.out.symm, rfl⟩
  · by_cases h1 : t = 1
    · have d0 : (t == 0) = false := by simp [h0]
      have d1 : (t == 1) = true := by simp [h1]
      have HX := Lib.hid (show longN t = 44 by subst h1; rfl)
      clear h0 h1
      go_enter Tryd.func27, Tryd.ntmps27
      go_wp2
      go_ret
      exact ⟨ret_int' HX.out.symm, rfl⟩
    · by_cases h2 : t = 8
      · have d0 : (t == 0) = false := by simp [h0]
        have d1 : (t == 1) = false := by simp [h1]
        have d2 : (t == 8) = true := by simp [h2]
        have HX := Lib.hid (show longN t = 44 by subst h2; rfl)
        clear h0 h1 h2
        go_enter Tryd.func27, Tryd.ntmps27
        go_wp2
        go_ret
        exact ⟨ret_int' HX.out.symm, rfl⟩
      · by_cases h3 : t = 9
        · have d0 : (t == 0) = false := by simp [h0]
          have d1 : (t == 1) = false := by simp [h1]
          have d2 : (t == 8) = false := by simp [h2]
          have d3 : (t == 9) = true := by simp [h3]
          have HX := Lib.hid (show longN t = 54 by subst h3; rfl)
          clear h0 h1 h2 h3
          go_enter Tryd.func27, Tryd.ntmps27
          go_wp2
          go_ret
          exact ⟨ret_int' HX.out.symm, rfl⟩
        · by_cases h4 : t = 11
          · have d0 : (t == 0) = false := by simp [h0]
            have d1 : (t == 1) = false := by simp [h1]
            have d2 : (t == 8) = false := by simp [h2]
            have d3 : (t == 9) = false := by simp [h3]
            have d4 : (t == 11) = true := by simp [h4]
            have HX := Lib.hid (show longN t = 64 by subst h4; rfl)
            clear h0 h1 h2 h3 h4
            go_enter Tryd.func27, Tryd.ntmps27
            go_wp2
            go_ret
            exact ⟨ret_int' HX.out.symm, rfl⟩
          · have d0 : (t == 0) = false := by simp [h0]
            have d1 : (t == 1) = false := by simp [h1]
            have d2 : (t == 8) = false := by simp [h2]
            have d3 : (t == 9) = false := by simp [h3]
            have d4 : (t == 11) = false := by simp [h4]
            have HX := Lib.hid (show longN t = 0 by unfold longN; simp [h0, h1, h2, h3, h4])
            clear h0 h1 h2 h3 h4
            go_enter Tryd.func27, Tryd.ntmps27
            go_wp2
            go_ret
            exact ⟨ret_int' HX.out.symm, rfl⟩

set_option maxHeartbeats 400000 in
theorem rflags_any (t f : Int) (w : World) :
    Calls Tryd.prog 28 #[.int .i64 t, .int .i64 f] w fun e w' => e = .returned (.bool (flagB t f)) ∧ w = w' := by
  by_cases h1 : t = 0
  · have d1 : (t == 0) = true := by simp [h1]
    by_cases h3 : f = 0
    · have d3 : (f == 0) = true := by simp [h3]
      have HX := Lib.hid (show flagB t f = true by unfold flagB; simp [h1, h3])
      clear h1 h3
      go_enter Tryd.func28, Tryd.ntmps28
      go_wp2
      go_ret
      exact ⟨ret_bool' HX.out.symm, rfl⟩
    · have d3 : (f == 0) = false := by simp [h3]
      have HX := Lib.hid (show flagB t f = (f == 512) by unfold flagB; simp [h1, h3])
      clear h1 h3
      go_enter Tryd.func28, Tryd.ntmps28
      go_wp2
      go_ret
      exact ⟨ret_bool' HX.out.symm, rfl⟩
  · have d1 : (t == 0) = false := by simp [h1]
    by_cases h2 : t = 11
    · have d2 : (t == 11) = true := by simp [h2]
      by_cases h3 : 0 ≤ f
      · have d3 : decide (0 ≤ f) = true := by simp [h3]
        have HX := Lib.hid (show flagB t f = decide (f ≤ 63) by unfold flagB inB; simp [h2, h3])
        clear h1 h2 h3
        go_enter Tryd.func28, Tryd.ntmps28
        go_wp2
        go_ret
        exact ⟨ret_bool' HX.out.symm, rfl⟩
      · have d3 : decide (0 ≤ f) = false := by simp [h3]
        have HX := Lib.hid (show flagB t f = false by unfold flagB inB; simp [h2, h3])
        clear h1 h2 h3
        go_enter Tryd.func28, Tryd.ntmps28
        go_wp2
        go_ret
        exact ⟨ret_bool' HX.out.symm, rfl⟩
    · have d2 : (t == 11) = false := by simp [h2]
      have HX := Lib.hid (show flagB t f = (f == 0) by unfold flagB; simp [h1, h2])
      clear h1 h2
      go_enter Tryd.func28, Tryd.ntmps28
      go_wp2
      go_ret
      exact ⟨ret_bool' HX.out.symm, rfl⟩

set_option maxRecDepth 100000 in
set_option maxHeartbeats 1000000 in
theorem rright5_any (h : Hd) (w : World) :
    Calls Tryd.prog 44 #[.agg #[.int .i64 h.t, .int .i64 h.d, .int .i64 h.f, .int .i64 h.c, .int .u8 h.p.c.b0, .int .u8 h.p.c.b1, .int .u8 h.p.c.b2, .int .u8 h.p.c.b3, .int .u8 h.p.c.b4, .int .u8 h.p.c.b5, .int .u8 h.p.c.b6, .int .u8 h.p.c.b7, .int .i64 h.p.n, .int .i64 h.s, .int .i64 h.l]] w fun e w' => e = .returned (.bool h.right) ∧ Below w.heap.size w w' := by
  by_cases c0 : longN h.t = 0
  · have HX : Hid (h.right = false) := by
      rw [Hid, ← Bool.not_eq_true, Hd.right_iff]
      intro hh
      obtain ⟨q1, q2, q3, q4, q5, q6⟩ := hh
      exact q1 c0
    have d0 : (longN h.t == 0) = true := by simpa using c0
    clear c0
    go_enter Tryd.func44, Tryd.ntmps44
    go_wp2_with fail
    refine (rlong_any h.t _).mono ?_
    rintro e w0 ⟨rfl, rfl⟩
    go_wp2
    go_ret
    exact ⟨ret_bool' HX.out.symm, bnew _ _⟩
  · by_cases c1 : h.d < 0
    · have HX : Hid (h.right = false) := by
        rw [Hid, ← Bool.not_eq_true, Hd.right_iff]
        intro hh
        obtain ⟨q1, q2, q3, q4, q5, q6⟩ := hh
        omega
      have d0 : (longN h.t == 0) = false := by simpa using c0
      have d1 : decide (h.d < 0) = true := by simp; omega
      clear c0 c1
      go_enter Tryd.func44, Tryd.ntmps44
      go_wp2_with fail
      refine (rlong_any h.t _).mono ?_
      rintro e w0 ⟨rfl, rfl⟩
      go_wp2
      go_ret
      exact ⟨ret_bool' HX.out.symm, bnew _ _⟩
    · by_cases c2 : 255 < h.d
      · have HX : Hid (h.right = false) := by
          rw [Hid, ← Bool.not_eq_true, Hd.right_iff]
          intro hh
          obtain ⟨q1, q2, q3, q4, q5, q6⟩ := hh
          omega
        have d0 : (longN h.t == 0) = false := by simpa using c0
        have d1 : decide (h.d < 0) = false := by simp; omega
        have d2 : decide (255 < h.d) = true := by simp; omega
        clear c0 c1 c2
        go_enter Tryd.func44, Tryd.ntmps44
        go_wp2_with fail
        refine (rlong_any h.t _).mono ?_
        rintro e w0 ⟨rfl, rfl⟩
        go_wp2
        go_ret
        exact ⟨ret_bool' HX.out.symm, bnew _ _⟩
      · by_cases c3 : flagB h.t h.f = false
        · have HX : Hid (h.right = false) := by
            rw [Hid, ← Bool.not_eq_true, Hd.right_iff]
            intro hh
            obtain ⟨q1, q2, q3, q4, q5, q6⟩ := hh
            rw [c3] at q3; cases q3
          have d0 : (longN h.t == 0) = false := by simpa using c0
          have d1 : decide (h.d < 0) = false := by simp; omega
          have d2 : decide (255 < h.d) = false := by simp; omega
          have e3 : flagB h.t h.f = false := by simpa using c3
          have E3 := Lib.hid e3
          clear e3
          clear c0 c1 c2 c3
          go_enter Tryd.func44, Tryd.ntmps44
          go_wp2_with fail
          refine (rlong_any h.t _).mono ?_
          rintro e w0 ⟨rfl, rfl⟩
          go_wp2_with fail
          refine (rflags_any h.t h.f _).mono ?_
          rintro e w1 ⟨rfl, rfl⟩
          rw [E3.out]
          go_wp2
          go_ret
          exact ⟨ret_bool' HX.out.symm, bnew _ _⟩
        · by_cases c4 : h.p.n < 1
          · have HX : Hid (h.right = false) := by
              rw [Hid, ← Bool.not_eq_true, Hd.right_iff]
              intro hh
              obtain ⟨q1, q2, q3, q4, q5, q6⟩ := hh
              omega
            have d0 : (longN h.t == 0) = false := by simpa using c0
            have d1 : decide (h.d < 0) = false := by simp; omega
            have d2 : decide (255 < h.d) = false := by simp; omega
            have e3 : flagB h.t h.f = true := by simpa using c3
            have d4 : decide (h.p.n < 1) = true := by simp; omega
            have E3 := Lib.hid e3
            clear e3
            clear c0 c1 c2 c3 c4
            go_enter Tryd.func44, Tryd.ntmps44
            go_wp2_with fail
            refine (rlong_any h.t _).mono ?_
            rintro e w0 ⟨rfl, rfl⟩
            go_wp2_with fail
            refine (rflags_any h.t h.f _).mono ?_
            rintro e w1 ⟨rfl, rfl⟩
            rw [E3.out]
            go_wp2
            go_ret
            exact ⟨ret_bool' HX.out.symm, bnew _ _⟩
          · by_cases c5 : 65534 < h.p.n
            · have HX : Hid (h.right = false) := by
                rw [Hid, ← Bool.not_eq_true, Hd.right_iff]
                intro hh
                obtain ⟨q1, q2, q3, q4, q5, q6⟩ := hh
                omega
              have d0 : (longN h.t == 0) = false := by simpa using c0
              have d1 : decide (h.d < 0) = false := by simp; omega
              have d2 : decide (255 < h.d) = false := by simp; omega
              have e3 : flagB h.t h.f = true := by simpa using c3
              have d4 : decide (h.p.n < 1) = false := by simp; omega
              have d5 : decide (65534 < h.p.n) = true := by simp; omega
              have E3 := Lib.hid e3
              clear e3
              clear c0 c1 c2 c3 c4 c5
              go_enter Tryd.func44, Tryd.ntmps44
              go_wp2_with fail
              refine (rlong_any h.t _).mono ?_
              rintro e w0 ⟨rfl, rfl⟩
              go_wp2_with fail
              refine (rflags_any h.t h.f _).mono ?_
              rintro e w1 ⟨rfl, rfl⟩
              rw [E3.out]
              go_wp2
              go_ret
              exact ⟨ret_bool' HX.out.symm, bnew _ _⟩
            · by_cases c6 : h.s < 0
              · have HX : Hid (h.right = false) := by
                  rw [Hid, ← Bool.not_eq_true, Hd.right_iff]
                  intro hh
                  obtain ⟨q1, q2, q3, q4, q5, q6⟩ := hh
                  omega
                have d0 : (longN h.t == 0) = false := by simpa using c0
                have d1 : decide (h.d < 0) = false := by simp; omega
                have d2 : decide (255 < h.d) = false := by simp; omega
                have e3 : flagB h.t h.f = true := by simpa using c3
                have d4 : decide (h.p.n < 1) = false := by simp; omega
                have d5 : decide (65534 < h.p.n) = false := by simp; omega
                have d6 : decide (h.s < 0) = true := by simp; omega
                have E3 := Lib.hid e3
                clear e3
                clear c0 c1 c2 c3 c4 c5 c6
                go_enter Tryd.func44, Tryd.ntmps44
                go_wp2_with fail
                refine (rlong_any h.t _).mono ?_
                rintro e w0 ⟨rfl, rfl⟩
                go_wp2_with fail
                refine (rflags_any h.t h.f _).mono ?_
                rintro e w1 ⟨rfl, rfl⟩
                rw [E3.out]
                go_wp2
                go_ret
                exact ⟨ret_bool' HX.out.symm, bnew _ _⟩
              · by_cases c7 : 65535 < h.s
                · have HX : Hid (h.right = false) := by
                    rw [Hid, ← Bool.not_eq_true, Hd.right_iff]
                    intro hh
                    obtain ⟨q1, q2, q3, q4, q5, q6⟩ := hh
                    omega
                  have d0 : (longN h.t == 0) = false := by simpa using c0
                  have d1 : decide (h.d < 0) = false := by simp; omega
                  have d2 : decide (255 < h.d) = false := by simp; omega
                  have e3 : flagB h.t h.f = true := by simpa using c3
                  have d4 : decide (h.p.n < 1) = false := by simp; omega
                  have d5 : decide (65534 < h.p.n) = false := by simp; omega
                  have d6 : decide (h.s < 0) = false := by simp; omega
                  have d7 : decide (65535 < h.s) = true := by simp; omega
                  have E3 := Lib.hid e3
                  clear e3
                  clear c0 c1 c2 c3 c4 c5 c6 c7
                  go_enter Tryd.func44, Tryd.ntmps44
                  go_wp2_with fail
                  refine (rlong_any h.t _).mono ?_
                  rintro e w0 ⟨rfl, rfl⟩
                  go_wp2_with fail
                  refine (rflags_any h.t h.f _).mono ?_
                  rintro e w1 ⟨rfl, rfl⟩
                  rw [E3.out]
                  go_wp2
                  go_ret
                  exact ⟨ret_bool' HX.out.symm, bnew _ _⟩
                · by_cases c8 : h.l < -128
                  · have HX : Hid (h.right = false) := by
                      rw [Hid, ← Bool.not_eq_true, Hd.right_iff]
                      intro hh
                      obtain ⟨q1, q2, q3, q4, q5, q6⟩ := hh
                      omega
                    have d0 : (longN h.t == 0) = false := by simpa using c0
                    have d1 : decide (h.d < 0) = false := by simp; omega
                    have d2 : decide (255 < h.d) = false := by simp; omega
                    have e3 : flagB h.t h.f = true := by simpa using c3
                    have d4 : decide (h.p.n < 1) = false := by simp; omega
                    have d5 : decide (65534 < h.p.n) = false := by simp; omega
                    have d6 : decide (h.s < 0) = false := by simp; omega
                    have d7 : decide (65535 < h.s) = false := by simp; omega
                    have d8 : decide (-128 ≤ h.l) = false := by simp; omega
                    have E3 := Lib.hid e3
                    clear e3
                    clear c0 c1 c2 c3 c4 c5 c6 c7 c8
                    go_enter Tryd.func44, Tryd.ntmps44
                    go_wp2_with fail
                    refine (rlong_any h.t _).mono ?_
                    rintro e w0 ⟨rfl, rfl⟩
                    go_wp2_with fail
                    refine (rflags_any h.t h.f _).mono ?_
                    rintro e w1 ⟨rfl, rfl⟩
                    rw [E3.out]
                    go_wp2
                    go_ret
                    exact ⟨ret_bool' HX.out.symm, bnew _ _⟩
                  · by_cases c9 : 127 < h.l
                    · have HX : Hid (h.right = false) := by
                        rw [Hid, ← Bool.not_eq_true, Hd.right_iff]
                        intro hh
                        obtain ⟨q1, q2, q3, q4, q5, q6⟩ := hh
                        omega
                      have d0 : (longN h.t == 0) = false := by simpa using c0
                      have d1 : decide (h.d < 0) = false := by simp; omega
                      have d2 : decide (255 < h.d) = false := by simp; omega
                      have e3 : flagB h.t h.f = true := by simpa using c3
                      have d4 : decide (h.p.n < 1) = false := by simp; omega
                      have d5 : decide (65534 < h.p.n) = false := by simp; omega
                      have d6 : decide (h.s < 0) = false := by simp; omega
                      have d7 : decide (65535 < h.s) = false := by simp; omega
                      have d8 : decide (-128 ≤ h.l) = true := by simp; omega
                      have d9 : decide (h.l ≤ 127) = false := by simp; omega
                      have E3 := Lib.hid e3
                      clear e3
                      clear c0 c1 c2 c3 c4 c5 c6 c7 c8 c9
                      go_enter Tryd.func44, Tryd.ntmps44
                      go_wp2_with fail
                      refine (rlong_any h.t _).mono ?_
                      rintro e w0 ⟨rfl, rfl⟩
                      go_wp2_with fail
                      refine (rflags_any h.t h.f _).mono ?_
                      rintro e w1 ⟨rfl, rfl⟩
                      rw [E3.out]
                      go_wp2
                      go_ret
                      exact ⟨ret_bool' HX.out.symm, bnew _ _⟩
                    · have HX : Hid (h.right = true) := by
                        rw [Hid, Hd.right_iff]
                        exact ⟨c0, by omega, by simpa using c3, by omega, by omega, by omega⟩
                      have d0 : (longN h.t == 0) = false := by simpa using c0
                      have d1 : decide (h.d < 0) = false := by simp; omega
                      have d2 : decide (255 < h.d) = false := by simp; omega
                      have e3 : flagB h.t h.f = true := by simpa using c3
                      have d4 : decide (h.p.n < 1) = false := by simp; omega
                      have d5 : decide (65534 < h.p.n) = false := by simp; omega
                      have d6 : decide (h.s < 0) = false := by simp; omega
                      have d7 : decide (65535 < h.s) = false := by simp; omega
                      have d8 : decide (-128 ≤ h.l) = true := by simp; omega
                      have d9 : decide (h.l ≤ 127) = true := by simp; omega
                      have E3 := Lib.hid e3
                      clear e3
                      clear c0 c1 c2 c3 c4 c5 c6 c7 c8 c9
                      go_enter Tryd.func44, Tryd.ntmps44
                      go_wp2_with fail
                      refine (rlong_any h.t _).mono ?_
                      rintro e w0 ⟨rfl, rfl⟩
                      go_wp2_with fail
                      refine (rflags_any h.t h.f _).mono ?_
                      rintro e w1 ⟨rfl, rfl⟩
                      rw [E3.out]
                      go_wp2
                      go_ret
                      exact ⟨ret_bool' HX.out.symm, bnew _ _⟩

end Go.Proofs.YtifhjmhekapaoaaDoor
