/- The walks over Decide and what it calls. -/
import Derived.Test.YtibhhhadjpmjiaaPortFns
import Derived.Test.YtibhhhadjpmjiaaRegionEnd2
import Derived.Deep.DeepCutAuto
namespace Go.Proofs.Ytibhhhadjpmjiaa
set_option maxRecDepth 100000
open Go.RowKit
set_option linter.unusedVariables false
set_option linter.unusedSimpArgs false

def wdA (steps now : Int) (same : Bool) : Array Value := #[.int .i64 steps, .int .i64 now, .bool same]
def onlyP (m : Pm) (now : Int) : Pm := if m.st = 4 then m else anewP m 4 now
def leadP (m : Pm) (now wait : Int) : Pm := if m.st = 6 ∨ m.st = 5 then m else if m.sl = true then onlyP m now else ⟨m.ev, m.of, m.sl, 5, timeN (timeN now + wait)⟩
def passP (m : Pm) (now : Int) : Pm := if m.st = 7 then m else if m.sl = true then onlyP m now else anewP m 7 now
def followP (m : Pm) (now : Int) (same : Bool) : Pm := if (m.st = 8 ∨ m.st = 9) ∧ same = true then m else anewP m 8 now
theorem timeN_time (n : Int) : timeN (timeN n + 0) = timeN n := by
  obtain ⟨h0, h1⟩ := timeN_bd n
  rw [Int.add_zero, timeN_id h0 h1]
theorem stepsN_bd (s : Int) : 0 ≤ stepsN s ∧ stepsN s ≤ 255 := by
  unfold stepsN
  split
  · omega
  · split <;> omega
/-- a state that a machine may be in -/
def stOk (m : Pm) : Prop := 1 ≤ m.st ∧ m.st ≤ 9
theorem decide_out {m : Pm} (h : outB m = true) (code steps now : Int) (same : Bool) : decideP m code steps now same = m := by
  unfold outB at h
  simp only [Bool.or_eq_true, beq_iff_eq] at h
  unfold decideP
  rw [if_pos (.inl (by omega))]
theorem out_no {m : Pm} (hs : stOk m) (h : outB m = false) : 4 ≤ m.st := by
  unfold outB at h
  simp only [Bool.or_eq_false_iff, beq_eq_false_iff_ne, ne_eq] at h
  have := hs.1
  omega
theorem decide_none {m : Pm} {code : Int} (h : code < 1 ∨ 6 < code) (steps now : Int) (same : Bool) : decideP m code steps now same = m := by
  unfold decideP
  rw [if_pos (.inr (by omega))]
theorem decide_follow {m : Pm} (h : 4 ≤ m.st) (steps now : Int) (same : Bool) : decideP m 4 steps now same = followP m now same := by
  unfold decideP followP
  rw [if_neg (by omega), if_pos rfl]
  by_cases hq : same = true ∧ (m.st = 8 ∨ m.st = 9)
  · rw [if_pos hq, if_pos ⟨hq.2, hq.1⟩]
  · rw [if_neg hq, if_neg (fun x => hq ⟨x.2, x.1⟩)]
theorem decide_pass {m : Pm} (h : 4 ≤ m.st) {code : Int} (hc : code = 5 ∨ code = 6) (steps now : Int) (same : Bool) : decideP m code steps now same = passP m now := by
  unfold decideP passP onlyP
  rw [if_neg (by omega), if_neg (by omega)]
  by_cases h7 : m.st = 7
  · rw [if_pos ⟨by omega, h7⟩, if_pos h7]
  · rw [if_neg (fun x => h7 x.2), if_neg h7, if_neg (by omega)]
    by_cases hsl : m.sl = true
    · rw [if_pos hsl, if_pos hsl]
    · rw [if_neg hsl, if_neg hsl, if_pos (by omega)]
theorem decide_later {m : Pm} (h : 4 ≤ m.st) (steps now : Int) (same : Bool) : decideP m 3 steps now same = leadP m now ((stepsN steps + 1) * m.ev) := by
  unfold decideP leadP onlyP
  rw [if_neg (by omega), if_neg (by omega), if_neg (by omega)]
  by_cases h5 : m.st = 6 ∨ m.st = 5
  · rw [if_pos ⟨by omega, by omega⟩, if_pos h5]
  · rw [if_neg (fun x => h5 (by omega)), if_neg h5]
    by_cases hsl : m.sl = true
    · rw [if_pos hsl, if_pos hsl]
    · rw [if_neg hsl, if_neg hsl, if_neg (by omega), if_pos rfl]
theorem decide_soon {m : Pm} (h : 4 ≤ m.st) {code : Int} (hc : code = 1 ∨ code = 2) (steps now : Int) (same : Bool) : decideP m code steps now same = leadP m now 0 := by
  unfold decideP leadP onlyP
  rw [if_neg (by omega), if_neg (by omega), if_neg (by omega)]
  by_cases h5 : m.st = 6 ∨ m.st = 5
  · rw [if_pos ⟨by omega, by omega⟩, if_pos h5]
  · rw [if_neg (fun x => h5 (by omega)), if_neg h5]
    by_cases hsl : m.sl = true
    · rw [if_pos hsl, if_pos hsl]
    · rw [if_neg hsl, if_neg hsl, if_neg (by omega), if_neg (by omega), timeN_time]
set_option maxHeartbeats 4000000 in
theorem ponly12_any (gM : Nat) (m : Pm) (now : Int) (w : World) (hM : Holds w gM 51 (mcA m)) (ok : m.ok) :
    Calls Try.prog 47 #[.pointer (some ⟨gM, 0, none⟩), .int .i64 now] w fun e w' => e = .returned (.tuple #[]) ∧ Holds w' gM 51 (mcA (onlyP m now)) ∧ Only [gM] w.heap.size w w' := by
  by_cases q4 : m.st = 4
  · have e4 : (m.st == 4) = true := by simp [q4]
    have ea4 : decide (m.st = 4) = true := decide_eq_true q4
    have eb4 : (!decide (m.st = 4)) = false := by rw [ea4]; rfl
    have ec4 : (!(m.st == 4)) = false := by rw [e4]; rfl
    have ed4 : (m.st != 4) = false := ec4
    have HX : Hid (onlyP m now = m) := if_pos q4
    clear q4
    have HO := Lib.hid (Only.refl [gM] w.heap.size w)
    have M := Lib.hid hM
    clear hM
    have x3 := (M.out).reads (i := 3) (x := .int .i64 m.st) rfl
    go_enter Try.func47, Try.ntmps47
    go_wp2
    go_end0
    rw [HX.out]
    exact ⟨rfl, M.out, HO.out⟩
  · have e4 : (m.st == 4) = false := by simpa using q4
    have ea4 : decide (m.st = 4) = false := decide_eq_false q4
    have eb4 : (!decide (m.st = 4)) = true := by rw [ea4]; rfl
    have ec4 : (!(m.st == 4)) = true := by rw [e4]; rfl
    have ed4 : (m.st != 4) = true := ec4
    have HX : Hid (onlyP m now = anewP m 4 now) := if_neg q4
    clear q4
    have HO := Lib.hid (Only.refl [gM] w.heap.size w)
    have M := Lib.hid hM
    clear hM
    have HOK := Lib.hid ok
    clear ok
    have x3 := (M.out).reads (i := 3) (x := .int .i64 m.st) rfl
    go_enter Try.func47, Try.ntmps47
    go_upto_region 1 with fail
    go_wp2_with fail
    clear x3
    refine (plisten12_any gM m 4 now _ M.out HOK.out).mono ?_
    rintro e c1 ⟨rfl, hm, ho⟩
    replace M := Lib.hid hm
    replace HO := Lib.hid ((HO.out).trans ho (by simp))
    clear hm ho
    go_wp2
    go_end0
    rw [HX.out]
    exact ⟨rfl, M.out, HO.out⟩
set_option maxHeartbeats 4000000 in
theorem plead12_any (gM : Nat) (m : Pm) (now wait : Int) (w : World) (hM : Holds w gM 51 (mcA m)) (ok : m.ok) (h0 : 0 ≤ wait) (h1 : wait ≤ 281474976710656) :
    Calls Try.prog 46 #[.pointer (some ⟨gM, 0, none⟩), .int .i64 now, .int .i64 wait] w fun e w' => e = .returned (.tuple #[]) ∧ Holds w' gM 51 (mcA (leadP m now wait)) ∧ Only [gM] w.heap.size w w' := by
  by_cases q6 : m.st = 6
  · have HX : Hid (leadP m now wait = m) := if_pos (.inl q6)
    have e6 : (m.st == 6) = true := by simp [q6]
    clear q6
    have HO := Lib.hid (Only.refl [gM] w.heap.size w)
    have M := Lib.hid hM
    clear hM
    have x3 := (M.out).reads (i := 3) (x := .int .i64 m.st) rfl
    go_enter Try.func46, Try.ntmps46
    go_wp2
    go_end0
    rw [HX.out]
    exact ⟨rfl, M.out, HO.out⟩
  · by_cases q5 : m.st = 5
    · have HX : Hid (leadP m now wait = m) := if_pos (.inr q5)
      have e6 : (m.st == 6) = false := by simpa using q6
      have e5 : (m.st == 5) = true := by simp [q5]
      clear q6 q5
      have HO := Lib.hid (Only.refl [gM] w.heap.size w)
      have M := Lib.hid hM
      clear hM
      have x3 := (M.out).reads (i := 3) (x := .int .i64 m.st) rfl
      go_enter Try.func46, Try.ntmps46
      go_wp2
      go_end0
      rw [HX.out]
      exact ⟨rfl, M.out, HO.out⟩
    · cases hsl : m.sl
      · have HX : Hid (leadP m now wait = ⟨m.ev, m.of, m.sl, 5, timeN (timeN now + wait)⟩) := by unfold leadP; rw [Hid, if_neg (by omega), hsl]; rfl
        have e6 : (m.st == 6) = false := by simpa using q6
        have e5 : (m.st == 5) = false := by simpa using q5
        have HSL := Lib.hid hsl
        clear q5 q6 hsl
        have HO := Lib.hid (Only.refl [gM] w.heap.size w)
        have M := Lib.hid hM
        clear hM
        have HOK := Lib.hid ok
        clear ok
        have x3 := (M.out).reads (i := 3) (x := .int .i64 m.st) rfl
        have x2 := (M.out).reads (i := 2) (x := .bool m.sl) rfl
        rw [HSL.out] at x2
        go_enter Try.func46, Try.ntmps46
        go_upto_region 0 with fail
        go_wp2_with fail
        clear x3 x2
        refine (plater12_any now wait _ h0 h1).mono ?_
        rintro e w1 ⟨rfl, rfl⟩
        go_wp2_with (first | (refine big_set rfl 3 _ _ rfl gM 3 (.int .i64 5) rfl rfl M.out (by kernel_rfl) rfl rfl (of_decide_eq_true (by kernel_rfl)) (mcA ⟨m.ev, m.of, m.sl, 5, m.un⟩) (by kernel_rfl) ?_; intro vM1 nM1 htM1; replace M := Lib.hid nM1; replace HO := Lib.hid (Only.touch HO.out htM1 (fun _ => by simp)); clear nM1 htM1; try simp only [Act.put, List.setIfInBounds_toArray, List.set_cons_zero, List.set_cons_succ]) | (refine big_set rfl 3 _ _ rfl gM 4 (.int .i64 (timeN (timeN now + wait))) rfl rfl M.out (by kernel_rfl) rfl rfl (of_decide_eq_true (by kernel_rfl)) (mcA ⟨m.ev, m.of, m.sl, 5, timeN (timeN now + wait)⟩) (by kernel_rfl) ?_; intro vM2 nM2 htM2; replace M := Lib.hid nM2; replace HO := Lib.hid (Only.touch HO.out htM2 (fun _ => by simp)); clear nM2 htM2; try simp only [Act.put, List.setIfInBounds_toArray, List.set_cons_zero, List.set_cons_succ]))
        go_end0
        rw [HX.out]
        exact ⟨rfl, M.out, HO.out⟩
      · have HX : Hid (leadP m now wait = onlyP m now) := by unfold leadP; rw [Hid, if_neg (by omega), hsl]; rfl
        have e6 : (m.st == 6) = false := by simpa using q6
        have e5 : (m.st == 5) = false := by simpa using q5
        have HSL := Lib.hid hsl
        clear q5 q6 hsl
        have HO := Lib.hid (Only.refl [gM] w.heap.size w)
        have M := Lib.hid hM
        clear hM
        have HOK := Lib.hid ok
        clear ok
        have x3 := (M.out).reads (i := 3) (x := .int .i64 m.st) rfl
        have x2 := (M.out).reads (i := 2) (x := .bool m.sl) rfl
        rw [HSL.out] at x2
        go_enter Try.func46, Try.ntmps46
        go_upto_region 3 with fail
        go_wp2_with fail
        clear x3 x2
        refine (ponly12_any gM m now _ M.out HOK.out).mono ?_
        rintro e c1 ⟨rfl, hm, ho⟩
        replace M := Lib.hid hm
        replace HO := Lib.hid ((HO.out).trans ho (by simp))
        clear hm ho
        go_wp2
        go_end0
        rw [HX.out]
        exact ⟨rfl, M.out, HO.out⟩
set_option maxHeartbeats 4000000 in
theorem psoon12_any (gM : Nat) (m : Pm) (steps now : Int) (same : Bool) (w : World) (hM : Holds w gM 51 (mcA m)) (ok : m.ok) :
    Calls Try.prog 42 #[.pointer (some ⟨gM, 0, none⟩), .agg (wdA steps now same)] w fun e w' => e = .returned (.tuple #[]) ∧ Holds w' gM 51 (mcA (leadP m now 0)) ∧ Only [gM] w.heap.size w w' := by
  have HO := Lib.hid (Only.refl [gM] w.heap.size w)
  have M := Lib.hid hM
  clear hM
  have HOK := Lib.hid ok
  clear ok
  go_enter Try.func42, Try.ntmps42
  go_upto_region 1 with ((refine big_box rfl 64 _ rfl (wdA steps now same) rfl (by kernel_rfl) ?_; intro gK3 wK3 hlK3 nK3 hbK3; have K3 := Lib.hid nK3; have LK3 := Lib.hid (Nat.le_trans (HO.out).size hlK3); have OMK3 := Lib.hid ((M.out).off hlK3); replace M := Lib.hid ((M.out).keptB hbK3); replace HO := Lib.hid ((HO.out).step hbK3); clear hlK3 nK3 hbK3; try simp only [Act.put, List.setIfInBounds_toArray, List.set_cons_zero, List.set_cons_succ]))
  have y1 := (K3.out).reads (i := 1) (x := .int .i64 now) rfl
  go_wp2_with fail
  clear y1
  refine (plead12_any gM m now 0 _ M.out HOK.out (by decide) (by decide)).mono ?_
  rintro e c1 ⟨rfl, hm, ho⟩
  replace M := Lib.hid hm
  replace K3 := Lib.hid ((K3.out).only ho (by have := OMK3.out; simp; omega))
  replace HO := Lib.hid ((HO.out).trans ho (by simp))
  clear hm ho
  go_wp2
  go_end0
  exact ⟨rfl, M.out, HO.out⟩
set_option maxHeartbeats 4000000 in
theorem plater2_any (gM : Nat) (m : Pm) (steps now : Int) (same : Bool) (w : World) (hM : Holds w gM 51 (mcA m)) (ok : m.ok) :
    Calls Try.prog 43 #[.pointer (some ⟨gM, 0, none⟩), .agg (wdA steps now same)] w fun e w' => e = .returned (.tuple #[]) ∧ Holds w' gM 51 (mcA (leadP m now ((stepsN steps + 1) * m.ev))) ∧ Only [gM] w.heap.size w w' := by
  obtain ⟨s0, s1⟩ := stepsN_bd steps
  obtain ⟨p0, p1⟩ := ok.steps s0 s1
  obtain ⟨sn, hsn⟩ : ∃ sn, stepsN steps = sn := ⟨_, rfl⟩
  rw [hsn] at s0 s1 p0 p1
  rw [hsn]
  have HSN := Lib.hid hsn
  clear hsn
  obtain ⟨d, hd⟩ : ∃ d, (sn + 1) * m.ev = d := ⟨_, rfl⟩
  rw [hd] at p0 p1
  rw [hd]
  have HD := Lib.hid hd
  clear hd
  have HO := Lib.hid (Only.refl [gM] w.heap.size w)
  have M := Lib.hid hM
  clear hM
  have HOK := Lib.hid ok
  clear ok
  go_enter Try.func43, Try.ntmps43
  go_upto_region 1 with ((refine big_box rfl 64 _ rfl (wdA steps now same) rfl (by kernel_rfl) ?_; intro gK3 wK3 hlK3 nK3 hbK3; have K3 := Lib.hid nK3; have LK3 := Lib.hid (Nat.le_trans (HO.out).size hlK3); have OMK3 := Lib.hid ((M.out).off hlK3); replace M := Lib.hid ((M.out).keptB hbK3); replace HO := Lib.hid ((HO.out).step hbK3); clear hlK3 nK3 hbK3; try simp only [Act.put, List.setIfInBounds_toArray, List.set_cons_zero, List.set_cons_succ]))
  have y0 := (K3.out).reads (i := 0) (x := .int .i64 steps) rfl
  have g := HSN.out
  unfold stepsN at g
  by_cases g0 : steps < 0
  · rw [if_pos g0] at g
    subst g
    go_upto_region 2 with fail
    clear y0 g0
    refine wp_region_end (S := fun v => Holds v gM 51 (mcA m) ∧ Holds v gK3 64 (wdA steps now same) ∧ Only [gM] w.heap.size w v) 10 (by kernel_rfl) ?_ (fun hHeld => ?_)
    · exact ⟨(M.out).drew, (K3.out).drew, only_drew HO.out⟩
    clear M K3 HO
    refine wpAnyE_takeC (r := []) (hfb := by kernel_rfl) (hcl := by kernel_rfl) (i := 0) (v := .pointer (some ⟨gM, 0, none⟩)) (at_list rfl) (by kernel_rfl) (by kernel_rfl) (by kernel_rfl) (fun _ _ _ h => h) (Or.inl ⟨by rfl, ?_⟩) hHeld ?_
    · intro v hSv
      clear hHeld
      go_simp
    try simp only [Act.put, List.setIfInBounds_toArray, List.set_cons_zero, List.set_cons_succ]
    refine wpAnyE_takeC (r := [2]) (hfb := by kernel_rfl) (hcl := by kernel_rfl) (i := 1) (v := .pointer (some ⟨gK3, 1, none⟩)) (at_list rfl) (by kernel_rfl) (by kernel_rfl) (by kernel_rfl) (fun _ _ _ h => h) (Or.inl ⟨by rfl, ?_⟩) hHeld ?_
    · intro v hSv
      clear hHeld
      go_simp
    try simp only [Act.put, List.setIfInBounds_toArray, List.set_cons_zero, List.set_cons_succ]
    refine wpAnyE_takeC (r := []) (hfb := by kernel_rfl) (hcl := by kernel_rfl) (i := 2) (v := .int .i64 now) (at_list rfl) (by kernel_rfl) (by kernel_rfl) (by kernel_rfl) (fun _ _ _ h => h) (Or.inl ⟨by rfl, ?_⟩) hHeld ?_
    · intro v hSv
      clear hHeld
      have q := Holds.reads (hSv.2.1) (i := 1) (x := .int .i64 now) rfl
      clear hSv
      go_simp
    try simp only [Act.put, List.setIfInBounds_toArray, List.set_cons_zero, List.set_cons_succ]
    refine wpAnyE_takeC (r := [9, 4]) (hfb := by kernel_rfl) (hcl := by kernel_rfl) (i := 3) (v := .int .i64 0) (at_list rfl) (by kernel_rfl) (by kernel_rfl) (by kernel_rfl) (fun _ _ _ h => h) (Or.inl ⟨by rfl, ?_⟩) hHeld ?_
    · intro v hSv
      clear hHeld
      go_simp
    try simp only [Act.put, List.setIfInBounds_toArray, List.set_cons_zero, List.set_cons_succ]
    refine wpAnyE_takeC (r := [9]) (hfb := by kernel_rfl) (hcl := by kernel_rfl) (i := 4) (v := .int .i64 1) (at_list rfl) (by kernel_rfl) (by kernel_rfl) (by kernel_rfl) (fun _ _ _ h => h) (Or.inl ⟨by rfl, ?_⟩) hHeld ?_
    · intro v hSv
      clear hHeld
      clear hSv
      go_simp
      rw [IntKind.wrap_i64] <;> omega
    try simp only [Act.put, List.setIfInBounds_toArray, List.set_cons_zero, List.set_cons_succ]
    refine wpAnyE_takeC (r := [9, 8, 7, 6]) (hfb := by kernel_rfl) (hcl := by kernel_rfl) (i := 5) (v := .pointer (some ⟨gM, 0, none⟩)) (at_list rfl) (by kernel_rfl) (by kernel_rfl) (by kernel_rfl) (fun _ _ _ h => h) (Or.inl ⟨by rfl, ?_⟩) hHeld ?_
    · intro v hSv
      clear hHeld
      go_simp
    try simp only [Act.put, List.setIfInBounds_toArray, List.set_cons_zero, List.set_cons_succ]
    refine wpAnyE_takeC (r := [9, 8, 7]) (hfb := by kernel_rfl) (hcl := by kernel_rfl) (i := 6) (v := .pointer (some ⟨gM, 0, none⟩)) (at_list rfl) (by kernel_rfl) (by kernel_rfl) (by kernel_rfl) (fun _ _ _ h => h) (Or.inl ⟨by rfl, ?_⟩) hHeld ?_
    · intro v hSv
      clear hHeld
      go_simp
    try simp only [Act.put, List.setIfInBounds_toArray, List.set_cons_zero, List.set_cons_succ]
    refine wpAnyE_takeC (r := [9, 8]) (hfb := by kernel_rfl) (hcl := by kernel_rfl) (i := 7) (v := .pointer (some ⟨gM, 0, none⟩)) (at_list rfl) (by kernel_rfl) (by kernel_rfl) (by kernel_rfl) (fun _ _ _ h => h) (Or.inl ⟨by rfl, ?_⟩) hHeld ?_
    · intro v hSv
      clear hHeld
      go_simp
    try simp only [Act.put, List.setIfInBounds_toArray, List.set_cons_zero, List.set_cons_succ]
    refine wpAnyE_takeC (r := [9]) (hfb := by kernel_rfl) (hcl := by kernel_rfl) (i := 8) (v := .int .i64 m.ev) (at_list rfl) (by kernel_rfl) (by kernel_rfl) (by kernel_rfl) (fun _ _ _ h => h) (Or.inl ⟨by rfl, ?_⟩) hHeld ?_
    · intro v hSv
      clear hHeld
      have q := Holds.reads (hSv.1) (i := 0) (x := .int .i64 m.ev) rfl
      clear hSv
      go_simp
    try simp only [Act.put, List.setIfInBounds_toArray, List.set_cons_zero, List.set_cons_succ]
    refine wpAnyE_takeC (r := []) (hfb := by kernel_rfl) (hcl := by kernel_rfl) (i := 9) (v := .int .i64 d) (at_list rfl) (by kernel_rfl) (by kernel_rfl) (by kernel_rfl) (fun _ _ _ h => h) (Or.inl ⟨by rfl, ?_⟩) hHeld ?_
    · intro v hSv
      clear hHeld
      have qd : m.ev = d := by have := HD.out; omega
      clear hSv
      go_simp
      rw [IntKind.wrap_i64]
      omega
    try simp only [Act.put, List.setIfInBounds_toArray, List.set_cons_zero, List.set_cons_succ]
    refine wpAnyE_last (by kernel_rfl) (at_list rfl) (by kernel_rfl) (fun K hK => ?_)
    have M := Lib.hid hHeld.1
    have K3 := Lib.hid hHeld.2.1
    have HO := Lib.hid hHeld.2.2
    clear hHeld
    go_simp
    refine (plead12_any gM m now d _ M.out HOK.out (by omega) p1).mono ?_
    rintro e c1 ⟨rfl, hm, ho⟩
    replace M := Lib.hid hm
    replace K3 := Lib.hid ((K3.out).only ho (by have := OMK3.out; simp; omega))
    replace HO := Lib.hid ((HO.out).trans ho (by simp))
    clear hm ho
    go_wp2_with fail
    refine hK.out _ _ ?_
    clear hK K
    go_wp2
    go_end0
    exact ⟨rfl, M.out, HO.out⟩
  · by_cases g1 : 255 < steps
    · rw [if_neg g0, if_pos g1] at g
      subst g
      go_upto_region 2 with fail
      clear y0 g0 g1
      refine wp_region_end (S := fun v => Holds v gM 51 (mcA m) ∧ Holds v gK3 64 (wdA steps now same) ∧ Only [gM] w.heap.size w v) 10 (by kernel_rfl) ?_ (fun hHeld => ?_)
      · exact ⟨(M.out).drew, (K3.out).drew, only_drew HO.out⟩
      clear M K3 HO
      refine wpAnyE_takeC (r := []) (hfb := by kernel_rfl) (hcl := by kernel_rfl) (i := 0) (v := .pointer (some ⟨gM, 0, none⟩)) (at_list rfl) (by kernel_rfl) (by kernel_rfl) (by kernel_rfl) (fun _ _ _ h => h) (Or.inl ⟨by rfl, ?_⟩) hHeld ?_
      · intro v hSv
        clear hHeld
        go_simp
      try simp only [Act.put, List.setIfInBounds_toArray, List.set_cons_zero, List.set_cons_succ]
      refine wpAnyE_takeC (r := [2]) (hfb := by kernel_rfl) (hcl := by kernel_rfl) (i := 1) (v := .pointer (some ⟨gK3, 1, none⟩)) (at_list rfl) (by kernel_rfl) (by kernel_rfl) (by kernel_rfl) (fun _ _ _ h => h) (Or.inl ⟨by rfl, ?_⟩) hHeld ?_
      · intro v hSv
        clear hHeld
        go_simp
      try simp only [Act.put, List.setIfInBounds_toArray, List.set_cons_zero, List.set_cons_succ]
      refine wpAnyE_takeC (r := []) (hfb := by kernel_rfl) (hcl := by kernel_rfl) (i := 2) (v := .int .i64 now) (at_list rfl) (by kernel_rfl) (by kernel_rfl) (by kernel_rfl) (fun _ _ _ h => h) (Or.inl ⟨by rfl, ?_⟩) hHeld ?_
      · intro v hSv
        clear hHeld
        have q := Holds.reads (hSv.2.1) (i := 1) (x := .int .i64 now) rfl
        clear hSv
        go_simp
      try simp only [Act.put, List.setIfInBounds_toArray, List.set_cons_zero, List.set_cons_succ]
      refine wpAnyE_takeC (r := [9, 4]) (hfb := by kernel_rfl) (hcl := by kernel_rfl) (i := 3) (v := .int .i64 255) (at_list rfl) (by kernel_rfl) (by kernel_rfl) (by kernel_rfl) (fun _ _ _ h => h) (Or.inl ⟨by rfl, ?_⟩) hHeld ?_
      · intro v hSv
        clear hHeld
        go_simp
      try simp only [Act.put, List.setIfInBounds_toArray, List.set_cons_zero, List.set_cons_succ]
      refine wpAnyE_takeC (r := [9]) (hfb := by kernel_rfl) (hcl := by kernel_rfl) (i := 4) (v := .int .i64 256) (at_list rfl) (by kernel_rfl) (by kernel_rfl) (by kernel_rfl) (fun _ _ _ h => h) (Or.inl ⟨by rfl, ?_⟩) hHeld ?_
      · intro v hSv
        clear hHeld
        clear hSv
        go_simp
        rw [IntKind.wrap_i64] <;> omega
      try simp only [Act.put, List.setIfInBounds_toArray, List.set_cons_zero, List.set_cons_succ]
      refine wpAnyE_takeC (r := [9, 8, 7, 6]) (hfb := by kernel_rfl) (hcl := by kernel_rfl) (i := 5) (v := .pointer (some ⟨gM, 0, none⟩)) (at_list rfl) (by kernel_rfl) (by kernel_rfl) (by kernel_rfl) (fun _ _ _ h => h) (Or.inl ⟨by rfl, ?_⟩) hHeld ?_
      · intro v hSv
        clear hHeld
        go_simp
      try simp only [Act.put, List.setIfInBounds_toArray, List.set_cons_zero, List.set_cons_succ]
      refine wpAnyE_takeC (r := [9, 8, 7]) (hfb := by kernel_rfl) (hcl := by kernel_rfl) (i := 6) (v := .pointer (some ⟨gM, 0, none⟩)) (at_list rfl) (by kernel_rfl) (by kernel_rfl) (by kernel_rfl) (fun _ _ _ h => h) (Or.inl ⟨by rfl, ?_⟩) hHeld ?_
      · intro v hSv
        clear hHeld
        go_simp
      try simp only [Act.put, List.setIfInBounds_toArray, List.set_cons_zero, List.set_cons_succ]
      refine wpAnyE_takeC (r := [9, 8]) (hfb := by kernel_rfl) (hcl := by kernel_rfl) (i := 7) (v := .pointer (some ⟨gM, 0, none⟩)) (at_list rfl) (by kernel_rfl) (by kernel_rfl) (by kernel_rfl) (fun _ _ _ h => h) (Or.inl ⟨by rfl, ?_⟩) hHeld ?_
      · intro v hSv
        clear hHeld
        go_simp
      try simp only [Act.put, List.setIfInBounds_toArray, List.set_cons_zero, List.set_cons_succ]
      refine wpAnyE_takeC (r := [9]) (hfb := by kernel_rfl) (hcl := by kernel_rfl) (i := 8) (v := .int .i64 m.ev) (at_list rfl) (by kernel_rfl) (by kernel_rfl) (by kernel_rfl) (fun _ _ _ h => h) (Or.inl ⟨by rfl, ?_⟩) hHeld ?_
      · intro v hSv
        clear hHeld
        have q := Holds.reads (hSv.1) (i := 0) (x := .int .i64 m.ev) rfl
        clear hSv
        go_simp
      try simp only [Act.put, List.setIfInBounds_toArray, List.set_cons_zero, List.set_cons_succ]
      refine wpAnyE_takeC (r := []) (hfb := by kernel_rfl) (hcl := by kernel_rfl) (i := 9) (v := .int .i64 d) (at_list rfl) (by kernel_rfl) (by kernel_rfl) (by kernel_rfl) (fun _ _ _ h => h) (Or.inl ⟨by rfl, ?_⟩) hHeld ?_
      · intro v hSv
        clear hHeld
        have qd : 256 * m.ev = d := by have := HD.out; omega
        clear hSv
        go_simp
        rw [IntKind.wrap_i64]
        omega
      try simp only [Act.put, List.setIfInBounds_toArray, List.set_cons_zero, List.set_cons_succ]
      refine wpAnyE_last (by kernel_rfl) (at_list rfl) (by kernel_rfl) (fun K hK => ?_)
      have M := Lib.hid hHeld.1
      have K3 := Lib.hid hHeld.2.1
      have HO := Lib.hid hHeld.2.2
      clear hHeld
      go_simp
      refine (plead12_any gM m now d _ M.out HOK.out (by omega) p1).mono ?_
      rintro e c1 ⟨rfl, hm, ho⟩
      replace M := Lib.hid hm
      replace K3 := Lib.hid ((K3.out).only ho (by have := OMK3.out; simp; omega))
      replace HO := Lib.hid ((HO.out).trans ho (by simp))
      clear hm ho
      go_wp2_with fail
      refine hK.out _ _ ?_
      clear hK K
      go_wp2
      go_end0
      exact ⟨rfl, M.out, HO.out⟩
    · rw [if_neg g0, if_neg g1] at g
      subst g
      go_upto_region 2 with fail
      clear y0
      refine wp_region_end (S := fun v => Holds v gM 51 (mcA m) ∧ Holds v gK3 64 (wdA steps now same) ∧ Only [gM] w.heap.size w v) 10 (by kernel_rfl) ?_ (fun hHeld => ?_)
      · exact ⟨(M.out).drew, (K3.out).drew, only_drew HO.out⟩
      clear M K3 HO
      refine wpAnyE_takeC (r := []) (hfb := by kernel_rfl) (hcl := by kernel_rfl) (i := 0) (v := .pointer (some ⟨gM, 0, none⟩)) (at_list rfl) (by kernel_rfl) (by kernel_rfl) (by kernel_rfl) (fun _ _ _ h => h) (Or.inl ⟨by rfl, ?_⟩) hHeld ?_
      · intro v hSv
        clear hHeld
        go_simp
      try simp only [Act.put, List.setIfInBounds_toArray, List.set_cons_zero, List.set_cons_succ]
      refine wpAnyE_takeC (r := [2]) (hfb := by kernel_rfl) (hcl := by kernel_rfl) (i := 1) (v := .pointer (some ⟨gK3, 1, none⟩)) (at_list rfl) (by kernel_rfl) (by kernel_rfl) (by kernel_rfl) (fun _ _ _ h => h) (Or.inl ⟨by rfl, ?_⟩) hHeld ?_
      · intro v hSv
        clear hHeld
        go_simp
      try simp only [Act.put, List.setIfInBounds_toArray, List.set_cons_zero, List.set_cons_succ]
      refine wpAnyE_takeC (r := []) (hfb := by kernel_rfl) (hcl := by kernel_rfl) (i := 2) (v := .int .i64 now) (at_list rfl) (by kernel_rfl) (by kernel_rfl) (by kernel_rfl) (fun _ _ _ h => h) (Or.inl ⟨by rfl, ?_⟩) hHeld ?_
      · intro v hSv
        clear hHeld
        have q := Holds.reads (hSv.2.1) (i := 1) (x := .int .i64 now) rfl
        clear hSv
        go_simp
      try simp only [Act.put, List.setIfInBounds_toArray, List.set_cons_zero, List.set_cons_succ]
      refine wpAnyE_takeC (r := [9, 4]) (hfb := by kernel_rfl) (hcl := by kernel_rfl) (i := 3) (v := .int .i64 steps) (at_list rfl) (by kernel_rfl) (by kernel_rfl) (by kernel_rfl) (fun _ _ _ h => h) (Or.inl ⟨by rfl, ?_⟩) hHeld ?_
      · intro v hSv
        clear hHeld
        go_simp
      try simp only [Act.put, List.setIfInBounds_toArray, List.set_cons_zero, List.set_cons_succ]
      refine wpAnyE_takeC (r := [9]) (hfb := by kernel_rfl) (hcl := by kernel_rfl) (i := 4) (v := .int .i64 (steps + 1)) (at_list rfl) (by kernel_rfl) (by kernel_rfl) (by kernel_rfl) (fun _ _ _ h => h) (Or.inl ⟨by rfl, ?_⟩) hHeld ?_
      · intro v hSv
        clear hHeld
        clear hSv
        go_simp
        rw [IntKind.wrap_i64] <;> omega
      try simp only [Act.put, List.setIfInBounds_toArray, List.set_cons_zero, List.set_cons_succ]
      refine wpAnyE_takeC (r := [9, 8, 7, 6]) (hfb := by kernel_rfl) (hcl := by kernel_rfl) (i := 5) (v := .pointer (some ⟨gM, 0, none⟩)) (at_list rfl) (by kernel_rfl) (by kernel_rfl) (by kernel_rfl) (fun _ _ _ h => h) (Or.inl ⟨by rfl, ?_⟩) hHeld ?_
      · intro v hSv
        clear hHeld
        go_simp
      try simp only [Act.put, List.setIfInBounds_toArray, List.set_cons_zero, List.set_cons_succ]
      refine wpAnyE_takeC (r := [9, 8, 7]) (hfb := by kernel_rfl) (hcl := by kernel_rfl) (i := 6) (v := .pointer (some ⟨gM, 0, none⟩)) (at_list rfl) (by kernel_rfl) (by kernel_rfl) (by kernel_rfl) (fun _ _ _ h => h) (Or.inl ⟨by rfl, ?_⟩) hHeld ?_
      · intro v hSv
        clear hHeld
        go_simp
      try simp only [Act.put, List.setIfInBounds_toArray, List.set_cons_zero, List.set_cons_succ]
      refine wpAnyE_takeC (r := [9, 8]) (hfb := by kernel_rfl) (hcl := by kernel_rfl) (i := 7) (v := .pointer (some ⟨gM, 0, none⟩)) (at_list rfl) (by kernel_rfl) (by kernel_rfl) (by kernel_rfl) (fun _ _ _ h => h) (Or.inl ⟨by rfl, ?_⟩) hHeld ?_
      · intro v hSv
        clear hHeld
        go_simp
      try simp only [Act.put, List.setIfInBounds_toArray, List.set_cons_zero, List.set_cons_succ]
      refine wpAnyE_takeC (r := [9]) (hfb := by kernel_rfl) (hcl := by kernel_rfl) (i := 8) (v := .int .i64 m.ev) (at_list rfl) (by kernel_rfl) (by kernel_rfl) (by kernel_rfl) (fun _ _ _ h => h) (Or.inl ⟨by rfl, ?_⟩) hHeld ?_
      · intro v hSv
        clear hHeld
        have q := Holds.reads (hSv.1) (i := 0) (x := .int .i64 m.ev) rfl
        clear hSv
        go_simp
      try simp only [Act.put, List.setIfInBounds_toArray, List.set_cons_zero, List.set_cons_succ]
      refine wpAnyE_takeC (r := []) (hfb := by kernel_rfl) (hcl := by kernel_rfl) (i := 9) (v := .int .i64 d) (at_list rfl) (by kernel_rfl) (by kernel_rfl) (by kernel_rfl) (fun _ _ _ h => h) (Or.inl ⟨by rfl, ?_⟩) hHeld ?_
      · intro v hSv
        clear hHeld
        have qd : (steps + 1) * m.ev = d := by have := HD.out; omega
        clear hSv
        go_simp
        rw [IntKind.wrap_i64]
        omega
      try simp only [Act.put, List.setIfInBounds_toArray, List.set_cons_zero, List.set_cons_succ]
      refine wpAnyE_last (by kernel_rfl) (at_list rfl) (by kernel_rfl) (fun K hK => ?_)
      have M := Lib.hid hHeld.1
      have K3 := Lib.hid hHeld.2.1
      have HO := Lib.hid hHeld.2.2
      clear hHeld
      go_simp
      refine (plead12_any gM m now d _ M.out HOK.out (by omega) p1).mono ?_
      rintro e c1 ⟨rfl, hm, ho⟩
      replace M := Lib.hid hm
      replace K3 := Lib.hid ((K3.out).only ho (by have := OMK3.out; simp; omega))
      replace HO := Lib.hid ((HO.out).trans ho (by simp))
      clear hm ho
      go_wp2_with fail
      refine hK.out _ _ ?_
      clear hK K
      go_wp2
      go_end0
      exact ⟨rfl, M.out, HO.out⟩
set_option maxHeartbeats 4000000 in
theorem ppass12_any (gM : Nat) (m : Pm) (steps now : Int) (same : Bool) (w : World) (hM : Holds w gM 51 (mcA m)) (ok : m.ok) :
    Calls Try.prog 44 #[.pointer (some ⟨gM, 0, none⟩), .agg (wdA steps now same)] w fun e w' => e = .returned (.tuple #[]) ∧ Holds w' gM 51 (mcA (passP m now)) ∧ Only [gM] w.heap.size w w' := by
  by_cases q7 : m.st = 7
  · have HX : Hid (passP m now = m) := if_pos q7
    have e7 : (m.st == 7) = true := by simp [q7]
    clear q7
    have HO := Lib.hid (Only.refl [gM] w.heap.size w)
    have M := Lib.hid hM
    clear hM
    go_enter Try.func44, Try.ntmps44
    go_upto_region 2 with ((refine big_box rfl 64 _ rfl (wdA steps now same) rfl (by kernel_rfl) ?_; intro gK3 wK3 hlK3 nK3 hbK3; have K3 := Lib.hid nK3; have LK3 := Lib.hid (Nat.le_trans (HO.out).size hlK3); have OMK3 := Lib.hid ((M.out).off hlK3); replace M := Lib.hid ((M.out).keptB hbK3); replace HO := Lib.hid ((HO.out).step hbK3); clear hlK3 nK3 hbK3; try simp only [Act.put, List.setIfInBounds_toArray, List.set_cons_zero, List.set_cons_succ]))
    have x3 := (M.out).reads (i := 3) (x := .int .i64 m.st) rfl
    go_wp2
    go_end0
    rw [HX.out]
    exact ⟨rfl, M.out, HO.out⟩
  · cases hsl : m.sl
    · have HX : Hid (passP m now = anewP m 7 now) := by unfold passP; rw [Hid, if_neg q7, hsl]; rfl
      have e7 : (m.st == 7) = false := by simpa using q7
      have HSL := Lib.hid hsl
      clear q7 hsl
      have HO := Lib.hid (Only.refl [gM] w.heap.size w)
      have M := Lib.hid hM
      clear hM
      have HOK := Lib.hid ok
      clear ok
      go_enter Try.func44, Try.ntmps44
      go_upto_region 2 with ((refine big_box rfl 64 _ rfl (wdA steps now same) rfl (by kernel_rfl) ?_; intro gK3 wK3 hlK3 nK3 hbK3; have K3 := Lib.hid nK3; have LK3 := Lib.hid (Nat.le_trans (HO.out).size hlK3); have OMK3 := Lib.hid ((M.out).off hlK3); replace M := Lib.hid ((M.out).keptB hbK3); replace HO := Lib.hid ((HO.out).step hbK3); clear hlK3 nK3 hbK3; try simp only [Act.put, List.setIfInBounds_toArray, List.set_cons_zero, List.set_cons_succ]))
      have x3 := (M.out).reads (i := 3) (x := .int .i64 m.st) rfl
      have x2 := (M.out).reads (i := 2) (x := .bool m.sl) rfl
      have y1 := (K3.out).reads (i := 1) (x := .int .i64 now) rfl
      rw [HSL.out] at x2
      go_upto_region 1 with fail
      go_wp2_with fail
      clear x3 x2 y1
      refine (plisten12_any gM m 7 now _ M.out HOK.out).mono ?_
      rintro e c1 ⟨rfl, hm, ho⟩
      replace M := Lib.hid hm
      replace K3 := Lib.hid ((K3.out).only ho (by have := OMK3.out; simp; omega))
      replace HO := Lib.hid ((HO.out).trans ho (by simp))
      clear hm ho
      go_wp2
      go_end0
      rw [HX.out]
      exact ⟨rfl, M.out, HO.out⟩
    · have HX : Hid (passP m now = onlyP m now) := by unfold passP; rw [Hid, if_neg q7, hsl]; rfl
      have e7 : (m.st == 7) = false := by simpa using q7
      have HSL := Lib.hid hsl
      clear q7 hsl
      have HO := Lib.hid (Only.refl [gM] w.heap.size w)
      have M := Lib.hid hM
      clear hM
      have HOK := Lib.hid ok
      clear ok
      go_enter Try.func44, Try.ntmps44
      go_upto_region 2 with ((refine big_box rfl 64 _ rfl (wdA steps now same) rfl (by kernel_rfl) ?_; intro gK3 wK3 hlK3 nK3 hbK3; have K3 := Lib.hid nK3; have LK3 := Lib.hid (Nat.le_trans (HO.out).size hlK3); have OMK3 := Lib.hid ((M.out).off hlK3); replace M := Lib.hid ((M.out).keptB hbK3); replace HO := Lib.hid ((HO.out).step hbK3); clear hlK3 nK3 hbK3; try simp only [Act.put, List.setIfInBounds_toArray, List.set_cons_zero, List.set_cons_succ]))
      have x3 := (M.out).reads (i := 3) (x := .int .i64 m.st) rfl
      have x2 := (M.out).reads (i := 2) (x := .bool m.sl) rfl
      have y1 := (K3.out).reads (i := 1) (x := .int .i64 now) rfl
      rw [HSL.out] at x2
      go_upto_region 4 with fail
      go_wp2_with fail
      clear x3 x2 y1
      refine (ponly12_any gM m now _ M.out HOK.out).mono ?_
      rintro e c1 ⟨rfl, hm, ho⟩
      replace M := Lib.hid hm
      replace K3 := Lib.hid ((K3.out).only ho (by have := OMK3.out; simp; omega))
      replace HO := Lib.hid ((HO.out).trans ho (by simp))
      clear hm ho
      go_wp2
      go_end0
      rw [HX.out]
      exact ⟨rfl, M.out, HO.out⟩
set_option maxHeartbeats 4000000 in
theorem pfollow12_any (gM : Nat) (m : Pm) (steps now : Int) (same : Bool) (w : World) (hM : Holds w gM 51 (mcA m)) (ok : m.ok) :
    Calls Try.prog 45 #[.pointer (some ⟨gM, 0, none⟩), .agg (wdA steps now same)] w fun e w' => e = .returned (.tuple #[]) ∧ Holds w' gM 51 (mcA (followP m now same)) ∧ Only [gM] w.heap.size w w' := by
  by_cases q8 : m.st = 8
  · cases same
    · have HX : Hid (followP m now false = anewP m 8 now) := if_neg (fun h => absurd h.2 (by decide))
      have e8 : (m.st == 8) = true := by simp [q8]
      clear q8
      have HO := Lib.hid (Only.refl [gM] w.heap.size w)
      have M := Lib.hid hM
      clear hM
      have HOK := Lib.hid ok
      clear ok
      go_enter Try.func45, Try.ntmps45
      go_upto_region 1 with ((refine big_box rfl 64 _ rfl (wdA steps now false) rfl (by kernel_rfl) ?_; intro gK3 wK3 hlK3 nK3 hbK3; have K3 := Lib.hid nK3; have LK3 := Lib.hid (Nat.le_trans (HO.out).size hlK3); have OMK3 := Lib.hid ((M.out).off hlK3); replace M := Lib.hid ((M.out).keptB hbK3); replace HO := Lib.hid ((HO.out).step hbK3); clear hlK3 nK3 hbK3; try simp only [Act.put, List.setIfInBounds_toArray, List.set_cons_zero, List.set_cons_succ]))
      have x3 := (M.out).reads (i := 3) (x := .int .i64 m.st) rfl
      have y1 := (K3.out).reads (i := 1) (x := .int .i64 now) rfl
      have y2 := (K3.out).reads (i := 2) (x := .bool false) rfl
      go_upto_region 3 with fail
      go_wp2_with fail
      clear x3 y1 y2
      refine (plisten12_any gM m 8 now _ M.out HOK.out).mono ?_
      rintro e c1 ⟨rfl, hm, ho⟩
      replace M := Lib.hid hm
      replace K3 := Lib.hid ((K3.out).only ho (by have := OMK3.out; simp; omega))
      replace HO := Lib.hid ((HO.out).trans ho (by simp))
      clear hm ho
      go_wp2
      go_end0
      rw [HX.out]
      exact ⟨rfl, M.out, HO.out⟩
    · have HX : Hid (followP m now true = m) := if_pos ⟨.inl q8, rfl⟩
      have e8 : (m.st == 8) = true := by simp [q8]
      clear q8
      have HO := Lib.hid (Only.refl [gM] w.heap.size w)
      have M := Lib.hid hM
      clear hM
      have HOK := Lib.hid ok
      clear ok
      go_enter Try.func45, Try.ntmps45
      go_upto_region 1 with ((refine big_box rfl 64 _ rfl (wdA steps now true) rfl (by kernel_rfl) ?_; intro gK3 wK3 hlK3 nK3 hbK3; have K3 := Lib.hid nK3; have LK3 := Lib.hid (Nat.le_trans (HO.out).size hlK3); have OMK3 := Lib.hid ((M.out).off hlK3); replace M := Lib.hid ((M.out).keptB hbK3); replace HO := Lib.hid ((HO.out).step hbK3); clear hlK3 nK3 hbK3; try simp only [Act.put, List.setIfInBounds_toArray, List.set_cons_zero, List.set_cons_succ]))
      have x3 := (M.out).reads (i := 3) (x := .int .i64 m.st) rfl
      have y1 := (K3.out).reads (i := 1) (x := .int .i64 now) rfl
      have y2 := (K3.out).reads (i := 2) (x := .bool true) rfl
      go_wp2
      try simp only [Exit.inBlock, Exit.then]
      refine bodyPost_ret (results_none rfl _ _ _) rfl ?_
      rw [HX.out]
      exact ⟨rfl, M.out, HO.out⟩
  · by_cases q9 : m.st = 9
    · cases same
      · have HX : Hid (followP m now false = anewP m 8 now) := if_neg (fun h => absurd h.2 (by decide))
        have e8 : (m.st == 8) = false := by simpa using q8
        have e9 : (m.st == 9) = true := by simp [q9]
        clear q8 q9
        have HO := Lib.hid (Only.refl [gM] w.heap.size w)
        have M := Lib.hid hM
        clear hM
        have HOK := Lib.hid ok
        clear ok
        go_enter Try.func45, Try.ntmps45
        go_upto_region 1 with ((refine big_box rfl 64 _ rfl (wdA steps now false) rfl (by kernel_rfl) ?_; intro gK3 wK3 hlK3 nK3 hbK3; have K3 := Lib.hid nK3; have LK3 := Lib.hid (Nat.le_trans (HO.out).size hlK3); have OMK3 := Lib.hid ((M.out).off hlK3); replace M := Lib.hid ((M.out).keptB hbK3); replace HO := Lib.hid ((HO.out).step hbK3); clear hlK3 nK3 hbK3; try simp only [Act.put, List.setIfInBounds_toArray, List.set_cons_zero, List.set_cons_succ]))
        have x3 := (M.out).reads (i := 3) (x := .int .i64 m.st) rfl
        have y1 := (K3.out).reads (i := 1) (x := .int .i64 now) rfl
        have y2 := (K3.out).reads (i := 2) (x := .bool false) rfl
        go_upto_region 3 with fail
        go_wp2_with fail
        clear x3 y1 y2
        refine (plisten12_any gM m 8 now _ M.out HOK.out).mono ?_
        rintro e c1 ⟨rfl, hm, ho⟩
        replace M := Lib.hid hm
        replace K3 := Lib.hid ((K3.out).only ho (by have := OMK3.out; simp; omega))
        replace HO := Lib.hid ((HO.out).trans ho (by simp))
        clear hm ho
        go_wp2
        go_end0
        rw [HX.out]
        exact ⟨rfl, M.out, HO.out⟩
      · have HX : Hid (followP m now true = m) := if_pos ⟨.inr q9, rfl⟩
        have e8 : (m.st == 8) = false := by simpa using q8
        have e9 : (m.st == 9) = true := by simp [q9]
        clear q8 q9
        have HO := Lib.hid (Only.refl [gM] w.heap.size w)
        have M := Lib.hid hM
        clear hM
        have HOK := Lib.hid ok
        clear ok
        go_enter Try.func45, Try.ntmps45
        go_upto_region 1 with ((refine big_box rfl 64 _ rfl (wdA steps now true) rfl (by kernel_rfl) ?_; intro gK3 wK3 hlK3 nK3 hbK3; have K3 := Lib.hid nK3; have LK3 := Lib.hid (Nat.le_trans (HO.out).size hlK3); have OMK3 := Lib.hid ((M.out).off hlK3); replace M := Lib.hid ((M.out).keptB hbK3); replace HO := Lib.hid ((HO.out).step hbK3); clear hlK3 nK3 hbK3; try simp only [Act.put, List.setIfInBounds_toArray, List.set_cons_zero, List.set_cons_succ]))
        have x3 := (M.out).reads (i := 3) (x := .int .i64 m.st) rfl
        have y1 := (K3.out).reads (i := 1) (x := .int .i64 now) rfl
        have y2 := (K3.out).reads (i := 2) (x := .bool true) rfl
        go_wp2
        try simp only [Exit.inBlock, Exit.then]
        refine bodyPost_ret (results_none rfl _ _ _) rfl ?_
        rw [HX.out]
        exact ⟨rfl, M.out, HO.out⟩
    · have HX : Hid (followP m now same = anewP m 8 now) := if_neg (fun h => h.1.elim q8 q9)
      have e8 : (m.st == 8) = false := by simpa using q8
      have e9 : (m.st == 9) = false := by simpa using q9
      clear q8 q9
      have HO := Lib.hid (Only.refl [gM] w.heap.size w)
      have M := Lib.hid hM
      clear hM
      have HOK := Lib.hid ok
      clear ok
      go_enter Try.func45, Try.ntmps45
      go_upto_region 1 with ((refine big_box rfl 64 _ rfl (wdA steps now same) rfl (by kernel_rfl) ?_; intro gK3 wK3 hlK3 nK3 hbK3; have K3 := Lib.hid nK3; have LK3 := Lib.hid (Nat.le_trans (HO.out).size hlK3); have OMK3 := Lib.hid ((M.out).off hlK3); replace M := Lib.hid ((M.out).keptB hbK3); replace HO := Lib.hid ((HO.out).step hbK3); clear hlK3 nK3 hbK3; try simp only [Act.put, List.setIfInBounds_toArray, List.set_cons_zero, List.set_cons_succ]))
      have x3 := (M.out).reads (i := 3) (x := .int .i64 m.st) rfl
      have y1 := (K3.out).reads (i := 1) (x := .int .i64 now) rfl
      have y2 := (K3.out).reads (i := 2) (x := .bool same) rfl
      go_upto_region 3 with fail
      go_wp2_with fail
      clear x3 y1 y2
      refine (plisten12_any gM m 8 now _ M.out HOK.out).mono ?_
      rintro e c1 ⟨rfl, hm, ho⟩
      replace M := Lib.hid hm
      replace K3 := Lib.hid ((K3.out).only ho (by have := OMK3.out; simp; omega))
      replace HO := Lib.hid ((HO.out).trans ho (by simp))
      clear hm ho
      go_wp2
      go_end0
      rw [HX.out]
      exact ⟨rfl, M.out, HO.out⟩

end Go.Proofs.Ytibhhhadjpmjiaa
