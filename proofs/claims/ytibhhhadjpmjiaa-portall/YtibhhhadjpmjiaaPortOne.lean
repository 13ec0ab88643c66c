/- The walks over the small methods of port. -/
import Derived.Test.YtibhhhadjpmjiaaPortMath
import Derived.Test.YtibhhhadjpmjiaaBigCore
import Derived.Test.YtibhhhadjpmjiaaRegionEnd
import Derived.Test.YtibhhhadjpmjiaaByHand
import Derived.Deep.DeepCutAuto
namespace Go.Proofs.Ytibhhhadjpmjiaa
set_option maxRecDepth 100000
open Go.RowKit
set_option linter.unusedVariables false
set_option linter.unusedSimpArgs false

/-- the program's machine: how far announcements lie apart, how long it waits, whether it is a slave alone; its state; till when it waits -/
def mcA (m : Pm) : Array Value := #[.int .i64 m.ev, .int .i64 (m.of * m.ev), .bool m.sl, .int .i64 m.st, .int .i64 m.un]
def outB (m : Pm) : Bool := (m.st == 1) || ((m.st == 2) || (m.st == 3))
def waitPB (m : Pm) : Bool := hearsB m || (m.st == 5)
def turnP (m : Pm) (fr nw : Int) : Pm := if m.st = fr then ⟨m.ev, m.of, m.sl, nw, m.un⟩ else m
def startP (m : Pm) (now : Int) : Pm := if m.st = 1 then anewP m 4 now else m
def faultP (m : Pm) : Pm := if m.st ≠ 2 ∧ m.st ≠ 3 then restP m 2 else m
def faultB (m : Pm) : Bool := decide (m.st ≠ 2 ∧ m.st ≠ 3)
def disP (m : Pm) : Pm := if m.st ≠ 3 then restP m 3 else m
def heardP (m : Pm) (now : Int) : Pm := if hearsB m = true then anewP m m.st now else m
theorem ret_boolQ {a b : Bool} (h : a = b) : Ending.returned (.bool a) = .returned (.bool b) := by rw [h]
theorem ret_intQ {a b : Int} (h : a = b) : Ending.returned (.int .i64 a) = .returned (.int .i64 b) := by rw [h]
set_option maxHeartbeats 4000000 in
theorem pcounted12_any (n : Int) (w : World) :
    Calls Try.prog 37 #[.int .i64 n] w fun e w' => e = .returned (.int .i64 (timeN n)) ∧ w = w' := by
  go_enter Try.func37, Try.ntmps37
  go_wp2
  all_goals go_ret
  all_goals exact ⟨ret_intQ (by unfold timeN; grind), rfl⟩
set_option maxHeartbeats 4000000 in
theorem plater12_any (n d : Int) (w : World) (d0 : 0 ≤ d) (d1 : d ≤ 281474976710656) :
    Calls Try.prog 41 #[.int .i64 n, .int .i64 d] w fun e w' => e = .returned (.int .i64 (timeN (timeN n + d))) ∧ w = w' := by
  obtain ⟨t0, t1⟩ := timeN_bd n
  obtain ⟨tn, htn⟩ : ∃ tn, timeN n = tn := ⟨_, rfl⟩
  have HTN := Lib.hid htn
  rw [htn] at t0 t1
  rw [htn]
  clear htn
  go_enter Try.func41, Try.ntmps41
  go_wp2_with fail
  refine (pcounted12_any n _).mono ?_
  rintro e w1 ⟨rfl, rfl⟩
  rw [HTN.out]
  go_wp2
  all_goals go_ret
  all_goals exact ⟨ret_intQ (by unfold timeN; grind), rfl⟩
set_option maxHeartbeats 4000000 in
theorem pnew12_any (ev of : Int) (sl : Bool) (w : World) :
    Calls Try.prog 9 #[.int .i64 ev, .int .i64 of, .bool sl] w fun e w' => (mayB ev of = false → e = .returned (.tuple #[.pointer none, .int .i64 1]) ∧ w = w') ∧ (mayB ev of = true → ∃ gM, e = .returned (.tuple #[.pointer (some ⟨gM, 0, none⟩), .int .i64 0]) ∧ Holds w' gM 51 (mcA (newP ev of sl)) ∧ w.heap.size ≤ gM ∧ Below w.heap.size w w') := by
  have HB := Lib.hid (Below.refl w.heap.size w)
  by_cases h0 : ev < 1
  · have HM : Hid (mayB ev of = false) := by rw [Hid, ← Bool.not_eq_true, mayB_iff]; omega
    have d0 : decide (ev < 1) = true := decide_eq_true h0
    clear h0
    go_enter Try.func9, Try.ntmps9
    go_wp2
    go_ret2
    refine ⟨fun _ => ⟨rfl, rfl⟩, fun h => ?_⟩
    rw [HM.out] at h
    cases h
  · by_cases h1 : 1099511627776 < ev
    · have HM : Hid (mayB ev of = false) := by rw [Hid, ← Bool.not_eq_true, mayB_iff]; omega
      have d0 : decide (ev < 1) = false := decide_eq_false h0
      have d1 : decide (1099511627776 < ev) = true := decide_eq_true h1
      clear h0 h1
      go_enter Try.func9, Try.ntmps9
      go_wp2
      go_ret2
      refine ⟨fun _ => ⟨rfl, rfl⟩, fun h => ?_⟩
      rw [HM.out] at h
      cases h
    · by_cases h2 : of < 2
      · have HM : Hid (mayB ev of = false) := by rw [Hid, ← Bool.not_eq_true, mayB_iff]; omega
        have d0 : decide (ev < 1) = false := decide_eq_false h0
        have d1 : decide (1099511627776 < ev) = false := decide_eq_false h1
        have d2 : decide (of < 2) = true := decide_eq_true h2
        clear h0 h1 h2
        go_enter Try.func9, Try.ntmps9
        go_wp2
        go_ret2
        refine ⟨fun _ => ⟨rfl, rfl⟩, fun h => ?_⟩
        rw [HM.out] at h
        cases h
      · by_cases h3 : 10 < of
        · have HM : Hid (mayB ev of = false) := by rw [Hid, ← Bool.not_eq_true, mayB_iff]; omega
          have d0 : decide (ev < 1) = false := decide_eq_false h0
          have d1 : decide (1099511627776 < ev) = false := decide_eq_false h1
          have d2 : decide (of < 2) = false := decide_eq_false h2
          have d3 : decide (10 < of) = true := decide_eq_true h3
          clear h0 h1 h2 h3
          go_enter Try.func9, Try.ntmps9
          go_wp2
          go_ret2
          refine ⟨fun _ => ⟨rfl, rfl⟩, fun h => ?_⟩
          rw [HM.out] at h
          cases h
        · have HM : Hid (mayB ev of = true) := mayB_iff.2 ⟨⟨by omega, by omega⟩, by omega, by omega⟩
          have HX : Hid (newP ev of sl = ⟨ev, of, sl, 1, 0⟩) := by unfold newP; rw [Hid, HM.out]; rfl
          have d0 : decide (ev < 1) = false := decide_eq_false h0
          have d1 : decide (1099511627776 < ev) = false := decide_eq_false h1
          have d2 : decide (of < 2) = false := decide_eq_false h2
          have d3 : decide (10 < of) = false := decide_eq_false h3
          have b1 := Int.mul_le_mul (show of ≤ 10 by omega) (show ev ≤ 1099511627776 by omega) (by omega) (by omega)
          have b0 := Int.mul_le_mul (show 2 ≤ of by omega) (show 1 ≤ ev by omega) (by omega) (by omega)
          obtain ⟨d, hd⟩ : ∃ d, of * ev = d := ⟨_, rfl⟩
          rw [hd] at b0 b1
          have HD := Lib.hid hd
          clear h0 h1 h2 h3
          go_enter Try.func9, Try.ntmps9
          go_wp2_with (first | (refine big_box rfl 51 _ rfl (#[.int .i64 ev, .int .i64 d, .bool sl, .int .i64 1, .int .i64 0]) rfl (by kernel_rfl) ?_; intro gM wM hlM nM hbM; have M := Lib.hid nM; have LM := Lib.hid (Nat.le_trans (HB.out).size hlM); replace HB := Lib.hid (bstep HB.out hbM); clear hlM nM hbM; try simp only [Act.put, List.setIfInBounds_toArray, List.set_cons_zero, List.set_cons_succ]) | (refine big_build rfl 51 _ rfl (#[.int .i64 ev, .int .i64 d, .bool sl, .int .i64 1, .int .i64 0]) (by kernel_rfl) ?_; try simp only [Act.put, List.setIfInBounds_toArray, List.set_cons_zero, List.set_cons_succ]))
          go_ret2
          refine ⟨fun h => ?_, fun h => ⟨gM, rfl, ?_, LM.out, HB.out⟩⟩
          · rw [HM.out] at h; cases h
          · rw [HX.out]; unfold mcA; rw [HD.out]; exact M.out
set_option maxHeartbeats 4000000 in
theorem pstate12_any (gM : Nat) (m : Pm) (w : World) (hM : Holds w gM 51 (mcA m)) :
    Calls Try.prog 14 #[.pointer (some ⟨gM, 0, none⟩)] w fun e w' => e = .returned (.int .i64 m.st) ∧ w = w' := by
  have x3 := hM.reads (i := 3) (x := .int .i64 m.st) rfl
  clear hM
  go_enter Try.func14, Try.ntmps14
  go_wp2
  go_ret
  exact ⟨rfl, rfl⟩
set_option maxHeartbeats 4000000 in
theorem puntil12_any (gM : Nat) (m : Pm) (w : World) (hM : Holds w gM 51 (mcA m)) :
    Calls Try.prog 15 #[.pointer (some ⟨gM, 0, none⟩)] w fun e w' => e = .returned (.int .i64 m.un) ∧ w = w' := by
  have x4 := hM.reads (i := 4) (x := .int .i64 m.un) rfl
  clear hM
  go_enter Try.func15, Try.ntmps15
  go_wp2
  go_ret
  exact ⟨rfl, rfl⟩
set_option maxHeartbeats 4000000 in
theorem plistens12_any (gM : Nat) (m : Pm) (w : World) (hM : Holds w gM 51 (mcA m)) :
    Calls Try.prog 39 #[.pointer (some ⟨gM, 0, none⟩)] w fun e w' => e = .returned (.bool (hearsB m)) ∧ w = w' := by
  by_cases t4 : m.st = 4
  · have e4 : (m.st == 4) = true := by simp [t4]
    have HX : Hid (hearsB m = true) := by unfold hearsB; rw [Hid, e4]; rfl
    clear t4
    have x3 := hM.reads (i := 3) (x := .int .i64 m.st) rfl
    clear hM
    go_enter Try.func39, Try.ntmps39
    go_wp2
    go_ret
    exact ⟨ret_boolQ HX.out.symm, rfl⟩
  · by_cases t7 : m.st = 7
    · have e4 : (m.st == 4) = false := by simpa using t4
      have e7 : (m.st == 7) = true := by simp [t7]
      have HX : Hid (hearsB m = true) := by unfold hearsB; rw [Hid, e4, e7]; rfl
      clear t4 t7
      have x3 := hM.reads (i := 3) (x := .int .i64 m.st) rfl
      clear hM
      go_enter Try.func39, Try.ntmps39
      go_wp2
      go_ret
      exact ⟨ret_boolQ HX.out.symm, rfl⟩
    · by_cases t8 : m.st = 8
      · have e4 : (m.st == 4) = false := by simpa using t4
        have e7 : (m.st == 7) = false := by simpa using t7
        have e8 : (m.st == 8) = true := by simp [t8]
        have HX : Hid (hearsB m = true) := by unfold hearsB; rw [Hid, e4, e7, e8]; rfl
        clear t4 t7 t8
        have x3 := hM.reads (i := 3) (x := .int .i64 m.st) rfl
        clear hM
        go_enter Try.func39, Try.ntmps39
        go_wp2
        go_ret
        exact ⟨ret_boolQ HX.out.symm, rfl⟩
      · by_cases t9 : m.st = 9
        · have e4 : (m.st == 4) = false := by simpa using t4
          have e7 : (m.st == 7) = false := by simpa using t7
          have e8 : (m.st == 8) = false := by simpa using t8
          have e9 : (m.st == 9) = true := by simp [t9]
          have HX : Hid (hearsB m = true) := by unfold hearsB; rw [Hid, e4, e7, e8, e9]; rfl
          clear t4 t7 t8 t9
          have x3 := hM.reads (i := 3) (x := .int .i64 m.st) rfl
          clear hM
          go_enter Try.func39, Try.ntmps39
          go_wp2
          go_ret
          exact ⟨ret_boolQ HX.out.symm, rfl⟩
        · have e4 : (m.st == 4) = false := by simpa using t4
          have e7 : (m.st == 7) = false := by simpa using t7
          have e8 : (m.st == 8) = false := by simpa using t8
          have e9 : (m.st == 9) = false := by simpa using t9
          have HX : Hid (hearsB m = false) := by unfold hearsB; rw [Hid, e4, e7, e8, e9]; rfl
          clear t4 t7 t8 t9
          have x3 := hM.reads (i := 3) (x := .int .i64 m.st) rfl
          clear hM
          go_enter Try.func39, Try.ntmps39
          go_wp2
          go_ret
          exact ⟨ret_boolQ HX.out.symm, rfl⟩
set_option maxHeartbeats 4000000 in
theorem pisout12_any (gM : Nat) (m : Pm) (w : World) (hM : Holds w gM 51 (mcA m)) :
    Calls Try.prog 33 #[.pointer (some ⟨gM, 0, none⟩)] w fun e w' => e = .returned (.bool (outB m)) ∧ w = w' := by
  by_cases t1 : m.st = 1
  · have e1 : (m.st == 1) = true := by simp [t1]
    have HX : Hid (outB m = true) := by unfold outB; rw [Hid, e1]; rfl
    clear t1
    have x3 := hM.reads (i := 3) (x := .int .i64 m.st) rfl
    clear hM
    go_enter Try.func33, Try.ntmps33
    go_wp2
    go_ret
    exact ⟨ret_boolQ HX.out.symm, rfl⟩
  · by_cases t2 : m.st = 2
    · have e1 : (m.st == 1) = false := by simpa using t1
      have e2 : (m.st == 2) = true := by simp [t2]
      have HX : Hid (outB m = true) := by unfold outB; rw [Hid, e1, e2]; rfl
      clear t1 t2
      have x3 := hM.reads (i := 3) (x := .int .i64 m.st) rfl
      clear hM
      go_enter Try.func33, Try.ntmps33
      go_wp2
      go_ret
      exact ⟨ret_boolQ HX.out.symm, rfl⟩
    · by_cases t3 : m.st = 3
      · have e1 : (m.st == 1) = false := by simpa using t1
        have e2 : (m.st == 2) = false := by simpa using t2
        have e3 : (m.st == 3) = true := by simp [t3]
        have HX : Hid (outB m = true) := by unfold outB; rw [Hid, e1, e2, e3]; rfl
        clear t1 t2 t3
        have x3 := hM.reads (i := 3) (x := .int .i64 m.st) rfl
        clear hM
        go_enter Try.func33, Try.ntmps33
        go_wp2
        go_ret
        exact ⟨ret_boolQ HX.out.symm, rfl⟩
      · have e1 : (m.st == 1) = false := by simpa using t1
        have e2 : (m.st == 2) = false := by simpa using t2
        have e3 : (m.st == 3) = false := by simpa using t3
        have HX : Hid (outB m = false) := by unfold outB; rw [Hid, e1, e2, e3]; rfl
        clear t1 t2 t3
        have x3 := hM.reads (i := 3) (x := .int .i64 m.st) rfl
        clear hM
        go_enter Try.func33, Try.ntmps33
        go_wp2
        go_ret
        exact ⟨ret_boolQ HX.out.symm, rfl⟩
set_option maxHeartbeats 4000000 in
theorem pwaits12_any (gM : Nat) (m : Pm) (w : World) (hM : Holds w gM 51 (mcA m)) :
    Calls Try.prog 36 #[.pointer (some ⟨gM, 0, none⟩)] w fun e w' => e = .returned (.bool (waitPB m)) ∧ w = w' := by
  cases hh : hearsB m
  · by_cases q5 : m.st = 5
    · have HX : Hid (waitPB m = true) := by unfold waitPB; rw [Hid, hh, q5]; rfl
      have HH := Lib.hid hh
      have e5 : (m.st == 5) = true := by simp [q5]
      clear q5 hh
      have M := Lib.hid hM
      clear hM
      have x3 := (M.out).reads (i := 3) (x := .int .i64 m.st) rfl
      go_enter Try.func36, Try.ntmps36
      go_wp2_with fail
      refine (plistens12_any gM m _ M.out).mono ?_
      rintro e w1 ⟨rfl, rfl⟩
      rw [HH.out]
      go_wp2
      go_ret
      exact ⟨ret_boolQ HX.out.symm, rfl⟩
    · have HX : Hid (waitPB m = false) := by unfold waitPB; rw [Hid, hh]; simpa using q5
      have HH := Lib.hid hh
      have e5 : (m.st == 5) = false := by simpa using q5
      clear q5 hh
      have M := Lib.hid hM
      clear hM
      have x3 := (M.out).reads (i := 3) (x := .int .i64 m.st) rfl
      go_enter Try.func36, Try.ntmps36
      go_wp2_with fail
      refine (plistens12_any gM m _ M.out).mono ?_
      rintro e w1 ⟨rfl, rfl⟩
      rw [HH.out]
      go_wp2
      go_ret
      exact ⟨ret_boolQ HX.out.symm, rfl⟩
  · have HX : Hid (waitPB m = true) := by unfold waitPB; rw [Hid, hh]; rfl
    have HH := Lib.hid hh
    clear hh
    have M := Lib.hid hM
    clear hM
    have x3 := (M.out).reads (i := 3) (x := .int .i64 m.st) rfl
    go_enter Try.func36, Try.ntmps36
    go_wp2_with fail
    refine (plistens12_any gM m _ M.out).mono ?_
    rintro e w1 ⟨rfl, rfl⟩
    rw [HH.out]
    go_wp2
    go_ret
    exact ⟨ret_boolQ HX.out.symm, rfl⟩
set_option maxHeartbeats 4000000 in
theorem prest12_any (gM : Nat) (m : Pm) (st : Int) (w : World) (hM : Holds w gM 51 (mcA m)) :
    Calls Try.prog 38 #[.pointer (some ⟨gM, 0, none⟩), .int .i64 st] w fun e w' => e = .returned (.tuple #[]) ∧ Holds w' gM 51 (mcA (restP m st)) ∧ Only [gM] w.heap.size w w' := by
  have HO := Lib.hid (Only.refl [gM] w.heap.size w)
  have M := Lib.hid hM
  clear hM
  go_enter Try.func38, Try.ntmps38
  go_wp2_with (first | (refine big_set rfl 3 _ _ rfl gM 3 (.int .i64 st) rfl rfl M.out (by kernel_rfl) rfl rfl (of_decide_eq_true (by kernel_rfl)) (mcA ⟨m.ev, m.of, m.sl, st, m.un⟩) (by kernel_rfl) ?_; intro vM1 nM1 htM1; replace M := Lib.hid nM1; replace HO := Lib.hid (Only.touch HO.out htM1 (fun _ => by simp)); clear nM1 htM1; try simp only [Act.put, List.setIfInBounds_toArray, List.set_cons_zero, List.set_cons_succ]) | (refine big_set rfl 3 _ _ rfl gM 4 (.int .i64 0) rfl rfl M.out (by kernel_rfl) rfl rfl (of_decide_eq_true (by kernel_rfl)) (mcA (restP m st)) (by kernel_rfl) ?_; intro vM2 nM2 htM2; replace M := Lib.hid nM2; replace HO := Lib.hid (Only.touch HO.out htM2 (fun _ => by simp)); clear nM2 htM2; try simp only [Act.put, List.setIfInBounds_toArray, List.set_cons_zero, List.set_cons_succ]))
  go_end0
  exact ⟨rfl, M.out, HO.out⟩
set_option maxHeartbeats 4000000 in
theorem plisten12_any (gM : Nat) (m : Pm) (st now : Int) (w : World) (hM : Holds w gM 51 (mcA m)) (ok : m.ok) :
    Calls Try.prog 32 #[.pointer (some ⟨gM, 0, none⟩), .int .i64 st, .int .i64 now] w fun e w' => e = .returned (.tuple #[]) ∧ Holds w' gM 51 (mcA (anewP m st now)) ∧ Only [gM] w.heap.size w w' := by
  have HO := Lib.hid (Only.refl [gM] w.heap.size w)
  have M := Lib.hid hM
  clear hM
  obtain ⟨d0, d1⟩ := ok.span
  have x1 := (M.out).reads (i := 1) (x := .int .i64 (m.of * m.ev)) rfl
  obtain ⟨d, hd⟩ : ∃ d, m.of * m.ev = d := ⟨_, rfl⟩
  have HD := Lib.hid hd
  rw [hd] at d0 d1 x1
  clear hd ok
  go_enter Try.func32, Try.ntmps32
  go_wp2_with fail
  refine (plater12_any now d _ (by omega) (by omega)).mono ?_
  rintro e w1 ⟨rfl, rfl⟩
  clear x1
  rw [← HD.out]
  go_wp2_with (first | (refine big_set rfl 3 _ _ rfl gM 3 (.int .i64 st) rfl rfl M.out (by kernel_rfl) rfl rfl (of_decide_eq_true (by kernel_rfl)) (mcA ⟨m.ev, m.of, m.sl, st, m.un⟩) (by kernel_rfl) ?_; intro vM1 nM1 htM1; replace M := Lib.hid nM1; replace HO := Lib.hid (Only.touch HO.out htM1 (fun _ => by simp)); clear nM1 htM1; try simp only [Act.put, List.setIfInBounds_toArray, List.set_cons_zero, List.set_cons_succ]) | (refine big_set rfl 3 _ _ rfl gM 4 (.int .i64 (timeN (timeN now + m.of * m.ev))) rfl rfl M.out (by kernel_rfl) rfl rfl (of_decide_eq_true (by kernel_rfl)) (mcA (anewP m st now)) (by kernel_rfl) ?_; intro vM2 nM2 htM2; replace M := Lib.hid nM2; replace HO := Lib.hid (Only.touch HO.out htM2 (fun _ => by simp)); clear nM2 htM2; try simp only [Act.put, List.setIfInBounds_toArray, List.set_cons_zero, List.set_cons_succ]))
  go_end0
  exact ⟨rfl, M.out, HO.out⟩
set_option maxHeartbeats 4000000 in
theorem pturn12_any (gM : Nat) (m : Pm) (fr nw : Int) (w : World) (hM : Holds w gM 51 (mcA m)) :
    Calls Try.prog 35 #[.pointer (some ⟨gM, 0, none⟩), .int .i64 fr, .int .i64 nw] w fun e w' => e = .returned (.bool (m.st == fr)) ∧ Holds w' gM 51 (mcA (turnP m fr nw)) ∧ Only [gM] w.heap.size w w' := by
  by_cases q0 : m.st = fr
  · have e0 : (m.st == fr) = true := by simp [q0]
    have ea : decide (m.st = fr) = true := decide_eq_true q0
    have eb : (!decide (m.st = fr)) = false := by rw [ea]; rfl
    have ec : (!(m.st == fr)) = false := by rw [e0]; rfl
    have ed : (m.st != fr) = false := ec
    have HX : Hid (turnP m fr nw = ⟨m.ev, m.of, m.sl, nw, m.un⟩) := if_pos q0
    have HE := Lib.hid e0
    clear q0
    have HO := Lib.hid (Only.refl [gM] w.heap.size w)
    have M := Lib.hid hM
    clear hM
    have x3 := (M.out).reads (i := 3) (x := .int .i64 m.st) rfl
    go_enter Try.func35, Try.ntmps35
    go_upto_region 3 with fail
    go_wp2_with ((refine big_set rfl 3 _ _ rfl gM 3 (.int .i64 nw) rfl rfl M.out (by kernel_rfl) rfl rfl (of_decide_eq_true (by kernel_rfl)) (mcA ⟨m.ev, m.of, m.sl, nw, m.un⟩) (by kernel_rfl) ?_; intro vM1 nM1 htM1; replace M := Lib.hid nM1; replace HO := Lib.hid (Only.touch HO.out htM1 (fun _ => by simp)); clear nM1 htM1; try simp only [Act.put, List.setIfInBounds_toArray, List.set_cons_zero, List.set_cons_succ]))
    go_ret
    rw [HX.out, HE.out]
    exact ⟨rfl, M.out, HO.out⟩
  · have e0 : (m.st == fr) = false := by simpa using q0
    have ea : decide (m.st = fr) = false := decide_eq_false q0
    have eb : (!decide (m.st = fr)) = true := by rw [ea]; rfl
    have ec : (!(m.st == fr)) = true := by rw [e0]; rfl
    have ed : (m.st != fr) = true := ec
    have HX : Hid (turnP m fr nw = m) := if_neg q0
    have HE := Lib.hid e0
    clear q0
    have HO := Lib.hid (Only.refl [gM] w.heap.size w)
    have M := Lib.hid hM
    clear hM
    have x3 := (M.out).reads (i := 3) (x := .int .i64 m.st) rfl
    go_enter Try.func35, Try.ntmps35
    go_wp2
    go_ret
    rw [HX.out, HE.out]
    exact ⟨rfl, M.out, HO.out⟩
set_option maxHeartbeats 4000000 in
theorem plock12_any (gM : Nat) (m : Pm) (w : World) (hM : Holds w gM 51 (mcA m)) :
    Calls Try.prog 18 #[.pointer (some ⟨gM, 0, none⟩)] w fun e w' => e = .returned (.bool (m.st == 8)) ∧ Holds w' gM 51 (mcA (turnP m 8 9)) ∧ Only [gM] w.heap.size w w' := by
  have HO := Lib.hid (Only.refl [gM] w.heap.size w)
  have M := Lib.hid hM
  clear hM
  go_enter Try.func18, Try.ntmps18
  go_wp2_with fail
  refine (pturn12_any gM m 8 9 _ M.out).mono ?_
  rintro e c1 ⟨rfl, hm, ho⟩
  replace M := Lib.hid hm
  replace HO := Lib.hid ((HO.out).trans ho (by simp))
  clear hm ho
  go_wp2
  go_ret
  exact ⟨rfl, M.out, HO.out⟩
set_option maxHeartbeats 4000000 in
theorem punlock12_any (gM : Nat) (m : Pm) (w : World) (hM : Holds w gM 51 (mcA m)) :
    Calls Try.prog 31 #[.pointer (some ⟨gM, 0, none⟩)] w fun e w' => e = .returned (.bool (m.st == 9)) ∧ Holds w' gM 51 (mcA (turnP m 9 8)) ∧ Only [gM] w.heap.size w w' := by
  have HO := Lib.hid (Only.refl [gM] w.heap.size w)
  have M := Lib.hid hM
  clear hM
  go_enter Try.func31, Try.ntmps31
  go_wp2_with fail
  refine (pturn12_any gM m 9 8 _ M.out).mono ?_
  rintro e c1 ⟨rfl, hm, ho⟩
  replace M := Lib.hid hm
  replace HO := Lib.hid ((HO.out).trans ho (by simp))
  clear hm ho
  go_wp2
  go_ret
  exact ⟨rfl, M.out, HO.out⟩
set_option maxHeartbeats 4000000 in
theorem pclear12_any (gM : Nat) (m : Pm) (w : World) (hM : Holds w gM 51 (mcA m)) :
    Calls Try.prog 21 #[.pointer (some ⟨gM, 0, none⟩)] w fun e w' => e = .returned (.bool (m.st == 2)) ∧ Holds w' gM 51 (mcA (turnP m 2 1)) ∧ Only [gM] w.heap.size w w' := by
  have HO := Lib.hid (Only.refl [gM] w.heap.size w)
  have M := Lib.hid hM
  clear hM
  go_enter Try.func21, Try.ntmps21
  go_wp2_with fail
  refine (pturn12_any gM m 2 1 _ M.out).mono ?_
  rintro e c1 ⟨rfl, hm, ho⟩
  replace M := Lib.hid hm
  replace HO := Lib.hid ((HO.out).trans ho (by simp))
  clear hm ho
  go_wp2
  go_ret
  exact ⟨rfl, M.out, HO.out⟩
set_option maxHeartbeats 4000000 in
theorem penable12_any (gM : Nat) (m : Pm) (w : World) (hM : Holds w gM 51 (mcA m)) :
    Calls Try.prog 24 #[.pointer (some ⟨gM, 0, none⟩)] w fun e w' => e = .returned (.bool (m.st == 3)) ∧ Holds w' gM 51 (mcA (turnP m 3 1)) ∧ Only [gM] w.heap.size w w' := by
  have HO := Lib.hid (Only.refl [gM] w.heap.size w)
  have M := Lib.hid hM
  clear hM
  go_enter Try.func24, Try.ntmps24
  go_wp2_with fail
  refine (pturn12_any gM m 3 1 _ M.out).mono ?_
  rintro e c1 ⟨rfl, hm, ho⟩
  replace M := Lib.hid hm
  replace HO := Lib.hid ((HO.out).trans ho (by simp))
  clear hm ho
  go_wp2
  go_ret
  exact ⟨rfl, M.out, HO.out⟩
set_option maxHeartbeats 4000000 in
theorem pstart12_any (gM : Nat) (m : Pm) (now : Int) (w : World) (hM : Holds w gM 51 (mcA m)) (ok : m.ok) :
    Calls Try.prog 16 #[.pointer (some ⟨gM, 0, none⟩), .int .i64 now] w fun e w' => e = .returned (.bool (m.st == 1)) ∧ Holds w' gM 51 (mcA (startP m now)) ∧ Only [gM] w.heap.size w w' := by
  by_cases q1 : m.st = 1
  · have e1 : (m.st == 1) = true := by simp [q1]
    have ea1 : decide (m.st = 1) = true := decide_eq_true q1
    have eb1 : (!decide (m.st = 1)) = false := by rw [ea1]; rfl
    have ec1 : (!(m.st == 1)) = false := by rw [e1]; rfl
    have ed1 : (m.st != 1) = false := ec1
    have HX : Hid (startP m now = anewP m 4 now) := if_pos q1
    have HE := Lib.hid e1
    clear q1
    have HO := Lib.hid (Only.refl [gM] w.heap.size w)
    have M := Lib.hid hM
    clear hM
    have HOK := Lib.hid ok
    clear ok
    have x3 := (M.out).reads (i := 3) (x := .int .i64 m.st) rfl
    go_enter Try.func16, Try.ntmps16
    go_upto_region 3 with fail
    go_wp2_with fail
    clear x3
    refine (plisten12_any gM m 4 now _ M.out HOK.out).mono ?_
    rintro e c1 ⟨rfl, hm, ho⟩
    replace M := Lib.hid hm
    replace HO := Lib.hid ((HO.out).trans ho (by simp))
    clear hm ho
    go_wp2
    go_ret
    rw [HX.out, HE.out]
    exact ⟨rfl, M.out, HO.out⟩
  · have e1 : (m.st == 1) = false := by simpa using q1
    have ea1 : decide (m.st = 1) = false := decide_eq_false q1
    have eb1 : (!decide (m.st = 1)) = true := by rw [ea1]; rfl
    have ec1 : (!(m.st == 1)) = true := by rw [e1]; rfl
    have ed1 : (m.st != 1) = true := ec1
    have HX : Hid (startP m now = m) := if_neg q1
    have HE := Lib.hid e1
    clear q1
    have HO := Lib.hid (Only.refl [gM] w.heap.size w)
    have M := Lib.hid hM
    clear hM
    have HOK := Lib.hid ok
    clear ok
    have x3 := (M.out).reads (i := 3) (x := .int .i64 m.st) rfl
    go_enter Try.func16, Try.ntmps16
    go_wp2
    go_ret
    rw [HX.out, HE.out]
    exact ⟨rfl, M.out, HO.out⟩
set_option maxHeartbeats 4000000 in
theorem pfault12_any (gM : Nat) (m : Pm) (w : World) (hM : Holds w gM 51 (mcA m)) :
    Calls Try.prog 22 #[.pointer (some ⟨gM, 0, none⟩)] w fun e w' => e = .returned (.bool (faultB m)) ∧ Holds w' gM 51 (mcA (faultP m)) ∧ Only [gM] w.heap.size w w' := by
  by_cases q2 : m.st = 2
  · have HX : Hid (faultP m = m) := if_neg (fun h => h.1 q2)
    have HE : Hid (faultB m = false) := by unfold faultB; rw [Hid, decide_eq_false_iff_not]; exact fun h => h.1 q2
    have e2 : (m.st == 2) = true := by simp [q2]
    clear q2
    have HO := Lib.hid (Only.refl [gM] w.heap.size w)
    have M := Lib.hid hM
    clear hM
    have x3 := (M.out).reads (i := 3) (x := .int .i64 m.st) rfl
    go_enter Try.func22, Try.ntmps22
    go_wp2
    go_ret
    rw [HX.out, HE.out]
    exact ⟨rfl, M.out, HO.out⟩
  · by_cases q3 : m.st = 3
    · have HX : Hid (faultP m = m) := if_neg (fun h => h.2 q3)
      have HE : Hid (faultB m = false) := by unfold faultB; rw [Hid, decide_eq_false_iff_not]; exact fun h => h.2 q3
      have e2 : (m.st == 2) = false := by simpa using q2
      have e3 : (m.st == 3) = true := by simp [q3]
      clear q2 q3
      have HO := Lib.hid (Only.refl [gM] w.heap.size w)
      have M := Lib.hid hM
      clear hM
      have x3 := (M.out).reads (i := 3) (x := .int .i64 m.st) rfl
      go_enter Try.func22, Try.ntmps22
      go_wp2
      go_ret
      rw [HX.out, HE.out]
      exact ⟨rfl, M.out, HO.out⟩
    · have HX : Hid (faultP m = restP m 2) := if_pos ⟨q2, q3⟩
      have HE : Hid (faultB m = true) := by unfold faultB; rw [Hid, decide_eq_true_iff]; exact ⟨q2, q3⟩
      have e2 : (m.st == 2) = false := by simpa using q2
      have e3 : (m.st == 3) = false := by simpa using q3
      clear q2 q3
      have HO := Lib.hid (Only.refl [gM] w.heap.size w)
      have M := Lib.hid hM
      clear hM
      have x3 := (M.out).reads (i := 3) (x := .int .i64 m.st) rfl
      go_enter Try.func22, Try.ntmps22
      go_upto_region 3 with fail
      go_wp2_with fail
      clear x3
      refine (prest12_any gM m 2 _ M.out).mono ?_
      rintro e c1 ⟨rfl, hm, ho⟩
      replace M := Lib.hid hm
      replace HO := Lib.hid ((HO.out).trans ho (by simp))
      clear hm ho
      go_wp2
      go_ret
      rw [HX.out, HE.out]
      exact ⟨rfl, M.out, HO.out⟩
set_option maxHeartbeats 4000000 in
theorem pdis12_any (gM : Nat) (m : Pm) (w : World) (hM : Holds w gM 51 (mcA m)) :
    Calls Try.prog 23 #[.pointer (some ⟨gM, 0, none⟩)] w fun e w' => e = .returned (.bool (!(m.st == 3))) ∧ Holds w' gM 51 (mcA (disP m)) ∧ Only [gM] w.heap.size w w' := by
  by_cases q3 : m.st = 3
  · have HX : Hid (disP m = m) := if_neg (fun h => h q3)
    have e3 : (m.st == 3) = true := by simp [q3]
    have HE : Hid ((!(m.st == 3)) = false) := by rw [Hid, e3]; rfl
    clear q3
    have HO := Lib.hid (Only.refl [gM] w.heap.size w)
    have M := Lib.hid hM
    clear hM
    have x3 := (M.out).reads (i := 3) (x := .int .i64 m.st) rfl
    go_enter Try.func23, Try.ntmps23
    go_wp2
    go_ret
    rw [HX.out, HE.out]
    exact ⟨rfl, M.out, HO.out⟩
  · have HX : Hid (disP m = restP m 3) := if_pos q3
    have e3 : (m.st == 3) = false := by simpa using q3
    have HE : Hid ((!(m.st == 3)) = true) := by rw [Hid, e3]; rfl
    clear q3
    have HO := Lib.hid (Only.refl [gM] w.heap.size w)
    have M := Lib.hid hM
    clear hM
    have x3 := (M.out).reads (i := 3) (x := .int .i64 m.st) rfl
    go_enter Try.func23, Try.ntmps23
    go_upto_region 3 with fail
    go_wp2_with fail
    clear x3
    refine (prest12_any gM m 3 _ M.out).mono ?_
    rintro e c1 ⟨rfl, hm, ho⟩
    replace M := Lib.hid hm
    replace HO := Lib.hid ((HO.out).trans ho (by simp))
    clear hm ho
    go_wp2
    go_ret
    rw [HX.out, HE.out]
    exact ⟨rfl, M.out, HO.out⟩
set_option maxHeartbeats 4000000 in
theorem pheard12_any (gM : Nat) (m : Pm) (now : Int) (w : World) (hM : Holds w gM 51 (mcA m)) (ok : m.ok) :
    Calls Try.prog 20 #[.pointer (some ⟨gM, 0, none⟩), .int .i64 now] w fun e w' => e = .returned (.tuple #[]) ∧ Holds w' gM 51 (mcA (heardP m now)) ∧ Only [gM] w.heap.size w w' := by
  cases hh : hearsB m
  · have HX : Hid (heardP m now = m) := if_neg (by rw [hh]; decide)
    have HH := Lib.hid hh
    clear hh
    have HO := Lib.hid (Only.refl [gM] w.heap.size w)
    have M := Lib.hid hM
    clear hM
    have HOK := Lib.hid ok
    clear ok
    go_enter Try.func20, Try.ntmps20
    go_wp2_with fail
    refine (plistens12_any gM m _ M.out).mono ?_
    rintro e w1 ⟨rfl, rfl⟩
    rw [HH.out]
    go_wp2
    go_end0
    rw [HX.out]
    exact ⟨rfl, M.out, HO.out⟩
  · have HX : Hid (heardP m now = anewP m m.st now) := if_pos hh
    have HH := Lib.hid hh
    clear hh
    have HO := Lib.hid (Only.refl [gM] w.heap.size w)
    have M := Lib.hid hM
    clear hM
    have HOK := Lib.hid ok
    clear ok
    go_enter Try.func20, Try.ntmps20
    go_wp2_with fail
    refine (plistens12_any gM m _ M.out).mono ?_
    rintro e w1 ⟨rfl, rfl⟩
    rw [HH.out]
    have x3 := (M.out).reads (i := 3) (x := .int .i64 m.st) rfl
    go_wp2_with fail
    clear x3
    refine (plisten12_any gM m m.st now _ M.out HOK.out).mono ?_
    rintro e c1 ⟨rfl, hm, ho⟩
    replace M := Lib.hid hm
    replace HO := Lib.hid ((HO.out).trans ho (by simp))
    clear hm ho
    go_wp2
    go_end0
    rw [HX.out]
    exact ⟨rfl, M.out, HO.out⟩

end Go.Proofs.Ytibhhhadjpmjiaa
