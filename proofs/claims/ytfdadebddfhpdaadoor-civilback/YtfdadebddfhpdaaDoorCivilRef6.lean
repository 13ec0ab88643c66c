/- The walk over the reference's Sec of layer 15. -/
import Derived.Test.YtfdadebddfhpdaaDoorCivilRef5
import Derived.Deep.DeepCutAuto
namespace Go.Proofs.YtfdadebddfhpdaaDoor
set_option maxRecDepth 100000
open Go.RowKit
set_option linter.unusedVariables false
set_option linter.unusedSimpArgs false

def secL (l : Lb) : Int := if lbB l then secN l else 0
theorem lb_bd {l : Lb} (h : lbB l = true) : dayB l.y l.m l.d = true ∧ 0 ≤ l.hh ∧ l.hh ≤ 23 ∧ 0 ≤ l.mi ∧ l.mi ≤ 59 ∧ 0 ≤ l.se ∧ l.se ≤ 60 := by
  unfold lbB at h
  simp at h
  refine ⟨h.1, ?_⟩
  have := h.2
  omega

set_option maxHeartbeats 4000000 in
theorem rsec15_any (l : Lb) (w : World) :
    Calls Tryd.prog 23 #[.agg (lbA l)] w fun e w' => e = .returned (.tuple #[.int .i64 (secL l), .bool (lbB l)]) ∧ Below w.heap.size w w' := by
  have HB := Lib.hid (Below.refl w.heap.size w)
  rcases Bool.eq_false_or_eq_true (lbB l) with hl | hl
  · have C := fun w => rright15_any l w
    rw [hl] at C
    replace C := Lib.hid C
    obtain ⟨hd, t0, t1, t2, t3, t4, t5⟩ := lb_bd hl
    have D := fun w => rday15_yes l.y l.m l.d w hd
    have d0 := dayN_bd hd
    have HX : secL l = ((dayN l.y l.m l.d * 24 + l.hh) * 60 + l.mi) * 60 + l.se := by unfold secL; rw [hl]; rfl
    obtain ⟨N, HN⟩ : ∃ N, Hid (dayN l.y l.m l.d = N) := ⟨_, Lib.hid rfl⟩
    rw [HN.out] at D d0 HX
    replace HX := Lib.hid HX
    replace D := Lib.hid D
    have HL := Lib.hid hl
    clear hl hd
    go_enter Tryd.func23, Tryd.ntmps23
    go_upto_region 1 with ((refine big_box rfl 27 _ rfl (lbA l) rfl (by kernel_rfl) ?_; intro gK1 wK1 hlK1 nK1 hbK1; have K1 := Lib.hid nK1; have LK1 := Lib.hid (Nat.le_trans (HB.out).size hlK1); replace HB := Lib.hid (bstep HB.out hbK1); clear hlK1 nK1 hbK1; try simp only [Act.put, List.setIfInBounds_toArray, List.set_cons_zero, List.set_cons_succ]))
    go_wp2_with ((refine big_whole rfl 27 _ rfl gK1 rfl K1.out Tryd.underlying27 rfl (by kernel_rfl) ?_; try simp only [Act.put, List.setIfInBounds_toArray, List.set_cons_zero, List.set_cons_succ]))
    refine (C.out _).mono ?_
    rintro e c1 ⟨rfl, hc1⟩
    replace K1 := Lib.hid ((K1.out).keptB hc1)
    replace HB := Lib.hid (bstep HB.out hc1)
    clear hc1
    have x0 := (K1.out).reads (i := 0) (x := .int .i64 l.y) rfl
    have x1 := (K1.out).reads (i := 1) (x := .int .i64 l.m) rfl
    have x2 := (K1.out).reads (i := 2) (x := .int .i64 l.d) rfl
    have x3 := (K1.out).reads (i := 3) (x := .int .i64 l.hh) rfl
    have x4 := (K1.out).reads (i := 4) (x := .int .i64 l.mi) rfl
    have x5 := (K1.out).reads (i := 5) (x := .int .i64 l.se) rfl
    go_wp2_with fail
    refine (D.out _).mono ?_
    rintro e w1 ⟨rfl, rfl⟩
    go_wp2
    refine bodyPost_ret (v := .tuple #[.int .i64 (((N * 24 + l.hh) * 60 + l.mi) * 60 + l.se), .bool true]) (by simp [results, Tryd.results23, go_sem]) rfl ?_
    rw [HX.out, HL.out]
    exact ⟨rfl, HB.out⟩
  · have C := fun w => rright15_any l w
    rw [hl] at C
    replace C := Lib.hid C
    have HX : Hid (secL l = 0) := by unfold secL; rw [Hid, hl]; rfl
    have HL := Lib.hid hl
    clear hl
    go_enter Tryd.func23, Tryd.ntmps23
    go_upto_region 1 with ((refine big_box rfl 27 _ rfl (lbA l) rfl (by kernel_rfl) ?_; intro gK1 wK1 hlK1 nK1 hbK1; have K1 := Lib.hid nK1; have LK1 := Lib.hid (Nat.le_trans (HB.out).size hlK1); replace HB := Lib.hid (bstep HB.out hbK1); clear hlK1 nK1 hbK1; try simp only [Act.put, List.setIfInBounds_toArray, List.set_cons_zero, List.set_cons_succ]))
    go_wp2_with ((refine big_whole rfl 27 _ rfl gK1 rfl K1.out Tryd.underlying27 rfl (by kernel_rfl) ?_; try simp only [Act.put, List.setIfInBounds_toArray, List.set_cons_zero, List.set_cons_succ]))
    refine (C.out _).mono ?_
    rintro e c1 ⟨rfl, hc1⟩
    replace K1 := Lib.hid ((K1.out).keptB hc1)
    replace HB := Lib.hid (bstep HB.out hc1)
    clear hc1
    go_wp2
    refine bodyPost_ret (v := .tuple #[.int .i64 0, .bool false]) (by simp [results, Tryd.results23, go_sem]) rfl ?_
    rw [HX.out, HL.out]
    exact ⟨rfl, HB.out⟩

end Go.Proofs.YtfdadebddfhpdaaDoor
