/- The walk over head.Right. -/
import Derived.Test.YtifhjmhekapaoaaDoorHeadPlain
namespace Go.Proofs.YtifhjmhekapaoaaDoor
set_option maxRecDepth 100000
open Go.RowKit
set_option linter.unusedVariables false

set_option maxRecDepth 100000 in
set_option maxHeartbeats 1000000 in
theorem right5_any (h : Hd) (w : World) (hl : Lens w) (f0 : -9223372036854775808 ≤ h.f) (f1 : h.f ≤ 9223372036854775807) :
    Calls Tryd.prog 40 #[.agg #[.int .i64 h.t, .int .i64 h.d, .int .i64 h.f, .int .i64 h.c, .int .u8 h.p.c.b0, .int .u8 h.p.c.b1, .int .u8 h.p.c.b2, .int .u8 h.p.c.b3, .int .u8 h.p.c.b4, .int .u8 h.p.c.b5, .int .u8 h.p.c.b6, .int .u8 h.p.c.b7, .int .i64 h.p.n, .int .i64 h.s, .int .i64 h.l]] w fun e w' => e = .returned (.bool h.right) ∧ Below w.heap.size w w' := by
  have LN := Lib.hid hl
  clear hl
  cases b0 : (longN h.t != 0)
  · have HX := Lib.hid (show h.right = false by unfold Hd.right; simp [b0])
    have Hb0 := Lib.hid (show decide (0 < longN h.t) = false by have := longN_bd h.t; simp at b0 ⊢; omega)
    clear b0
    go_enter Tryd.func40, Tryd.ntmps40
    go_wp2_with fail
    refine (long_any h.t _ (LN.out.laid _)).mono ?_
    rintro e w0 ⟨rfl, rfl⟩
    have d0 := Hb0.out
    go_wp2
    go_ret
    exact ⟨ret_bool' HX.out.symm, bnew _ _⟩
  · cases b1 : (inB h.d 0 255)
    · have HX := Lib.hid (show h.right = false by unfold Hd.right; simp [b0, b1])
      have Hb0 := Lib.hid (show decide (0 < longN h.t) = true by have := longN_bd h.t; simp at b0 ⊢; omega)
      have Hb1 := Lib.hid b1
      clear b0 b1
      go_enter Tryd.func40, Tryd.ntmps40
      go_wp2_with fail
      refine (long_any h.t _ (LN.out.laid _)).mono ?_
      rintro e w0 ⟨rfl, rfl⟩
      have d0 := Hb0.out
      go_wp2_with fail
      refine (within_any h.d 0 255 _).mono ?_
      rintro e w1 ⟨rfl, rfl⟩
      rw [Hb1.out]
      go_wp2
      go_ret
      exact ⟨ret_bool' HX.out.symm, bnew _ _⟩
    · cases b2 : (flagB h.t h.f)
      · have HX := Lib.hid (show h.right = false by unfold Hd.right; simp [b0, b1, b2])
        have Hb0 := Lib.hid (show decide (0 < longN h.t) = true by have := longN_bd h.t; simp at b0 ⊢; omega)
        have Hb1 := Lib.hid b1
        have Hb2 := Lib.hid b2
        clear b0 b1 b2
        go_enter Tryd.func40, Tryd.ntmps40
        go_wp2_with fail
        refine (long_any h.t _ (LN.out.laid _)).mono ?_
        rintro e w0 ⟨rfl, rfl⟩
        have d0 := Hb0.out
        go_wp2_with fail
        refine (within_any h.d 0 255 _).mono ?_
        rintro e w1 ⟨rfl, rfl⟩
        rw [Hb1.out]
        go_wp2_with fail
        refine (rightFlags_any h.t h.f _ f0 f1).mono ?_
        rintro e w2 ⟨rfl, rfl⟩
        rw [Hb2.out]
        go_wp2
        go_ret
        exact ⟨ret_bool' HX.out.symm, bnew _ _⟩
      · cases b3 : (inB h.p.n 1 65534)
        · have HX := Lib.hid (show h.right = false by unfold Hd.right; simp [b0, b1, b2, b3])
          have Hb0 := Lib.hid (show decide (0 < longN h.t) = true by have := longN_bd h.t; simp at b0 ⊢; omega)
          have Hb1 := Lib.hid b1
          have Hb2 := Lib.hid b2
          have Hb3 := Lib.hid b3
          clear b0 b1 b2 b3
          go_enter Tryd.func40, Tryd.ntmps40
          go_wp2_with fail
          refine (long_any h.t _ (LN.out.laid _)).mono ?_
          rintro e w0 ⟨rfl, rfl⟩
          have d0 := Hb0.out
          go_wp2_with fail
          refine (within_any h.d 0 255 _).mono ?_
          rintro e w1 ⟨rfl, rfl⟩
          rw [Hb1.out]
          go_wp2_with fail
          refine (rightFlags_any h.t h.f _ f0 f1).mono ?_
          rintro e w2 ⟨rfl, rfl⟩
          rw [Hb2.out]
          go_wp2_with fail
          refine (rightNumber_any h.p.n _).mono ?_
          rintro e w3 ⟨rfl, rfl⟩
          rw [Hb3.out]
          go_wp2
          go_ret
          exact ⟨ret_bool' HX.out.symm, bnew _ _⟩
        · cases b4 : (inB h.s 0 65535)
          · have HX := Lib.hid (show h.right = false by unfold Hd.right; simp [b0, b1, b2, b3, b4])
            have Hb0 := Lib.hid (show decide (0 < longN h.t) = true by have := longN_bd h.t; simp at b0 ⊢; omega)
            have Hb1 := Lib.hid b1
            have Hb2 := Lib.hid b2
            have Hb3 := Lib.hid b3
            have Hb4 := Lib.hid b4
            clear b0 b1 b2 b3 b4
            go_enter Tryd.func40, Tryd.ntmps40
            go_wp2_with fail
            refine (long_any h.t _ (LN.out.laid _)).mono ?_
            rintro e w0 ⟨rfl, rfl⟩
            have d0 := Hb0.out
            go_wp2_with fail
            refine (within_any h.d 0 255 _).mono ?_
            rintro e w1 ⟨rfl, rfl⟩
            rw [Hb1.out]
            go_wp2_with fail
            refine (rightFlags_any h.t h.f _ f0 f1).mono ?_
            rintro e w2 ⟨rfl, rfl⟩
            rw [Hb2.out]
            go_wp2_with fail
            refine (rightNumber_any h.p.n _).mono ?_
            rintro e w3 ⟨rfl, rfl⟩
            rw [Hb3.out]
            go_wp2_with fail
            refine (rightSeq_any h.s _).mono ?_
            rintro e w4 ⟨rfl, rfl⟩
            rw [Hb4.out]
            go_wp2
            go_ret
            exact ⟨ret_bool' HX.out.symm, bnew _ _⟩
          · cases b5 : (inB h.l (-128) 127)
            · have HX := Lib.hid (show h.right = false by unfold Hd.right; simp [b0, b1, b2, b3, b4, b5])
              have Hb0 := Lib.hid (show decide (0 < longN h.t) = true by have := longN_bd h.t; simp at b0 ⊢; omega)
              have Hb1 := Lib.hid b1
              have Hb2 := Lib.hid b2
              have Hb3 := Lib.hid b3
              have Hb4 := Lib.hid b4
              have Hb5 := Lib.hid b5
              clear b0 b1 b2 b3 b4 b5
              go_enter Tryd.func40, Tryd.ntmps40
              go_wp2_with fail
              refine (long_any h.t _ (LN.out.laid _)).mono ?_
              rintro e w0 ⟨rfl, rfl⟩
              have d0 := Hb0.out
              go_wp2_with fail
              refine (within_any h.d 0 255 _).mono ?_
              rintro e w1 ⟨rfl, rfl⟩
              rw [Hb1.out]
              go_wp2_with fail
              refine (rightFlags_any h.t h.f _ f0 f1).mono ?_
              rintro e w2 ⟨rfl, rfl⟩
              rw [Hb2.out]
              go_wp2_with fail
              refine (rightNumber_any h.p.n _).mono ?_
              rintro e w3 ⟨rfl, rfl⟩
              rw [Hb3.out]
              go_wp2_with fail
              refine (rightSeq_any h.s _).mono ?_
              rintro e w4 ⟨rfl, rfl⟩
              rw [Hb4.out]
              go_wp2_with fail
              refine (within_any h.l (-128) 127 _).mono ?_
              rintro e w5 ⟨rfl, rfl⟩
              rw [Hb5.out]
              go_wp2
              go_ret
              exact ⟨ret_bool' HX.out.symm, bnew _ _⟩
            · have HX := Lib.hid (show h.right = true by unfold Hd.right; simp [b0, b1, b2, b3, b4, b5])
              have Hb0 := Lib.hid (show decide (0 < longN h.t) = true by have := longN_bd h.t; simp at b0 ⊢; omega)
              have Hb1 := Lib.hid b1
              have Hb2 := Lib.hid b2
              have Hb3 := Lib.hid b3
              have Hb4 := Lib.hid b4
              have Hb5 := Lib.hid b5
              clear b0 b1 b2 b3 b4 b5
              go_enter Tryd.func40, Tryd.ntmps40
              go_wp2_with fail
              refine (long_any h.t _ (LN.out.laid _)).mono ?_
              rintro e w0 ⟨rfl, rfl⟩
              have d0 := Hb0.out
              go_wp2_with fail
              refine (within_any h.d 0 255 _).mono ?_
              rintro e w1 ⟨rfl, rfl⟩
              rw [Hb1.out]
              go_wp2_with fail
              refine (rightFlags_any h.t h.f _ f0 f1).mono ?_
              rintro e w2 ⟨rfl, rfl⟩
              rw [Hb2.out]
              go_wp2_with fail
              refine (rightNumber_any h.p.n _).mono ?_
              rintro e w3 ⟨rfl, rfl⟩
              rw [Hb3.out]
              go_wp2_with fail
              refine (rightSeq_any h.s _).mono ?_
              rintro e w4 ⟨rfl, rfl⟩
              rw [Hb4.out]
              go_wp2_with fail
              refine (within_any h.l (-128) 127 _).mono ?_
              rintro e w5 ⟨rfl, rfl⟩
              rw [Hb5.out]
              go_wp2
              go_ret
              exact ⟨ret_bool' HX.out.symm, bnew _ _⟩

end Go.Proofs.YtifhjmhekapaoaaDoor
