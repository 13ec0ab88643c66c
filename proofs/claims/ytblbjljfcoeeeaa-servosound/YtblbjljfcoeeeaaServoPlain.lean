/- The walks over the small methods of servo. -/
import Derived.Test.YtblbjljfcoeeeaaServoMath2
import Derived.Test.YtblbjljfcoeeeaaSpanOps
import Derived.Test.YtblbjljfcoeeeaaSpanOps2
import Derived.Test.YtblbjljfcoeeeaaSpanMeet
import Derived.Test.YtblbjljfcoeeeaaBigCore
import Derived.Test.YtblbjljfcoeeeaaByHand
import Derived.Test.YtblbjljfcoeeeaaRegionEnd2
import Derived.Deep.DeepCutAuto
namespace Go.Proofs.Ytblbjljfcoeeeaa
set_option maxRecDepth 100000
open Go.RowKit
set_option linter.unusedVariables false
set_option linter.unusedSimpArgs false

set_option maxHeartbeats 4000000 in
theorem pnew14_any (ppb : Int) (w : World) :
    Calls Try.prog 9 #[.int .i64 ppb] w fun e w' => (rateB ppb = false → e = .returned (.tuple #[.pointer none, .int .i64 1]) ∧ w = w') ∧ (rateB ppb = true → ∃ gM, e = .returned (.tuple #[.pointer (some ⟨gM, 0, none⟩), .int .i64 0]) ∧ Holds w' gM 63 (scA (newSv ppb)) ∧ w.heap.size ≤ gM ∧ Below w.heap.size w w') := by
  have HB := Lib.hid (Below.refl w.heap.size w)
  by_cases h0 : ppb < 0
  · have HR : Hid (rateB ppb = false) := by rw [Hid, ← Bool.not_eq_true]; unfold rateB; rw [Bool.and_eq_true, decide_eq_true_iff, decide_eq_true_iff]; omega
    have d0 : decide (ppb < 0) = true := decide_eq_true h0
    have d9 : decide (ppb > 1000000000) = decide (1000000000 < ppb) := rfl
    clear h0
    go_enter Try.func9, Try.ntmps9
    go_wp2
    go_ret2
    refine ⟨fun _ => ⟨rfl, rfl⟩, fun h => ?_⟩
    rw [HR.out] at h
    cases h
  · by_cases h1 : 1000000000 < ppb
    · have HR : Hid (rateB ppb = false) := by rw [Hid, ← Bool.not_eq_true]; unfold rateB; rw [Bool.and_eq_true, decide_eq_true_iff, decide_eq_true_iff]; omega
      have d0 : decide (ppb < 0) = false := decide_eq_false h0
      have d1 : decide (1000000000 < ppb) = true := decide_eq_true h1
      have d9 : decide (ppb > 1000000000) = decide (1000000000 < ppb) := rfl
      clear h0 h1
      go_enter Try.func9, Try.ntmps9
      go_wp2
      go_ret2
      refine ⟨fun _ => ⟨rfl, rfl⟩, fun h => ?_⟩
      rw [HR.out] at h
      cases h
    · have HR : Hid (rateB ppb = true) := by rw [Hid]; unfold rateB; rw [Bool.and_eq_true, decide_eq_true_iff, decide_eq_true_iff]; omega
      have d0 : decide (ppb < 0) = false := decide_eq_false h0
      have d1 : decide (1000000000 < ppb) = false := decide_eq_false h1
      have d9 : decide (ppb > 1000000000) = false := d1
      clear h0 h1
      go_enter Try.func9, Try.ntmps9
      go_wp2_with (first | (refine big_box rfl 63 _ rfl (scA (newSv ppb)) rfl (by kernel_rfl) ?_; intro gM wM hlM nM hbM; have M := Lib.hid nM; have LM := Lib.hid (Nat.le_trans (HB.out).size hlM); replace HB := Lib.hid (bstep HB.out hbM); clear hlM nM hbM; try simp only [Act.put, List.setIfInBounds_toArray, List.set_cons_zero, List.set_cons_succ]) | (refine big_build rfl 63 _ rfl (scA (newSv ppb)) (by kernel_rfl) ?_; try simp only [Act.put, List.setIfInBounds_toArray, List.set_cons_zero, List.set_cons_succ]))
      go_ret2
      refine ⟨fun h => ?_, fun h => ⟨gM, rfl, ?_, LM.out, HB.out⟩⟩
      · rw [HR.out] at h; cases h
      · exact M.out
set_option maxHeartbeats 4000000 in
theorem pcount14_any (gM : Nat) (s : Sv) (w : World) (hM : Holds w gM 63 (scA s)) :
    Calls Try.prog 13 #[.pointer (some ⟨gM, 0, none⟩)] w fun e w' => e = .returned (.int .i64 s.n) ∧ Below w.heap.size w w' := by
  have HB := Lib.hid (Below.refl w.heap.size w)
  have M := Lib.hid hM
  clear hM
  have x4 := (M.out).reads (i := 4) (x := .int .i64 s.n) rfl
  go_enter Try.func13, Try.ntmps13
  go_wp2
  go_ret
  exact ⟨rfl, HB.out⟩
set_option maxHeartbeats 4000000 in
theorem plast14_any (gM : Nat) (s : Sv) (w : World) (hM : Holds w gM 63 (scA s)) :
    Calls Try.prog 16 #[.pointer (some ⟨gM, 0, none⟩)] w fun e w' => e = .returned (.tuple #[.int .i64 s.tm, .bool s.o.k]) ∧ Below w.heap.size w w' := by
  have HB := Lib.hid (Below.refl w.heap.size w)
  have M := Lib.hid hM
  clear hM
  go_enter Try.func16, Try.ntmps16
  go_upto_region 1 with fail
  refine wp_region_held_drew (S := fun v => Below w.heap.size w v ∧ Holds v gM 63 (scA s) ∧ True) (by kernel_rfl) ?_ (fun hHeld => ?_)
  · exact ⟨bdrew HB.out, (M.out).drew, trivial⟩
  clear HB M
  refine wpAnyH_take (i := 0) (v := .pointer (some ⟨gM, 0, none⟩)) (at_list rfl) (by kernel_rfl) (by kernel_rfl) (by kernel_rfl) (fun _ _ _ h => h) (Or.inl ⟨by rfl, ?_⟩) hHeld ?_
  · intro v hSv
    clear hHeld
    go_simp
  try simp only [Act.put, List.setIfInBounds_toArray, List.set_cons_zero, List.set_cons_succ]
  refine wpAnyH_take (i := 1) (v := .pointer (some ⟨gM, 0, none⟩)) (at_list rfl) (by kernel_rfl) (by kernel_rfl) (by kernel_rfl) (fun _ _ _ h => h) (Or.inl ⟨by rfl, ?_⟩) hHeld ?_
  · intro v hSv
    clear hHeld
    go_simp
  try simp only [Act.put, List.setIfInBounds_toArray, List.set_cons_zero, List.set_cons_succ]
  refine wpAnyH_take (i := 2) (v := .pointer (some ⟨gM, 0, none⟩)) (at_list rfl) (by kernel_rfl) (by kernel_rfl) (by kernel_rfl) (fun _ _ _ h => h) (Or.inl ⟨by rfl, ?_⟩) hHeld ?_
  · intro v hSv
    clear hHeld
    go_simp
  try simp only [Act.put, List.setIfInBounds_toArray, List.set_cons_zero, List.set_cons_succ]
  refine wpAnyH_take (i := 3) (v := .pointer (some ⟨gM, 3, none⟩)) (at_list rfl) (by kernel_rfl) (by kernel_rfl) (by kernel_rfl) (fun _ _ _ h => h) (Or.inl ⟨by rfl, ?_⟩) hHeld ?_
  · intro v hSv
    clear hHeld
    go_simp
  try simp only [Act.put, List.setIfInBounds_toArray, List.set_cons_zero, List.set_cons_succ]
  refine wpAnyH_take (i := 4) (v := .int .i64 s.tm) (at_list rfl) (by kernel_rfl) (by kernel_rfl) (by kernel_rfl) (fun _ _ _ h => h) (Or.inl ⟨by rfl, ?_⟩) hHeld ?_
  · intro v hSv
    clear hHeld
    have q := Holds.reads (hSv.2.1) (i := 3) (x := .int .i64 s.tm) rfl
    clear hSv
    go_simp
  try simp only [Act.put, List.setIfInBounds_toArray, List.set_cons_zero, List.set_cons_succ]
  refine wpAnyH_take (i := 5) (v := .pointer (some ⟨gM, 0, none⟩)) (at_list rfl) (by kernel_rfl) (by kernel_rfl) (by kernel_rfl) (fun _ _ _ h => h) (Or.inl ⟨by rfl, ?_⟩) hHeld ?_
  · intro v hSv
    clear hHeld
    go_simp
  try simp only [Act.put, List.setIfInBounds_toArray, List.set_cons_zero, List.set_cons_succ]
  refine wpAnyH_take (i := 6) (v := .pointer (some ⟨gM, 0, none⟩)) (at_list rfl) (by kernel_rfl) (by kernel_rfl) (by kernel_rfl) (fun _ _ _ h => h) (Or.inl ⟨by rfl, ?_⟩) hHeld ?_
  · intro v hSv
    clear hHeld
    go_simp
  try simp only [Act.put, List.setIfInBounds_toArray, List.set_cons_zero, List.set_cons_succ]
  refine wpAnyH_take (i := 7) (v := .pointer (some ⟨gM, 0, none⟩)) (at_list rfl) (by kernel_rfl) (by kernel_rfl) (by kernel_rfl) (fun _ _ _ h => h) (Or.inl ⟨by rfl, ?_⟩) hHeld ?_
  · intro v hSv
    clear hHeld
    go_simp
  try simp only [Act.put, List.setIfInBounds_toArray, List.set_cons_zero, List.set_cons_succ]
  refine wpAnyH_take (i := 8) (v := .pointer (some ⟨gM, 0, none⟩)) (at_list rfl) (by kernel_rfl) (by kernel_rfl) (by kernel_rfl) (fun _ _ _ h => h) (Or.inl ⟨by rfl, ?_⟩) hHeld ?_
  · intro v hSv
    clear hHeld
    go_simp
  try simp only [Act.put, List.setIfInBounds_toArray, List.set_cons_zero, List.set_cons_succ]
  refine wpAnyH_take (i := 9) (v := .pointer (some ⟨gM, 2, none⟩)) (at_list rfl) (by kernel_rfl) (by kernel_rfl) (by kernel_rfl) (fun _ _ _ h => h) (Or.inl ⟨by rfl, ?_⟩) hHeld ?_
  · intro v hSv
    clear hHeld
    go_simp
  try simp only [Act.put, List.setIfInBounds_toArray, List.set_cons_zero, List.set_cons_succ]
  refine wpAnyH_take (i := 10) (v := .bool s.o.k) (at_list rfl) (by kernel_rfl) (by kernel_rfl) (by kernel_rfl) (fun _ _ _ h => h) (Or.inl ⟨by rfl, ?_⟩) hHeld ?_
  · intro v hSv
    clear hHeld
    have q := Holds.reads (hSv.2.1) (i := 2) (x := .bool s.o.k) rfl
    clear hSv
    go_simp
  try simp only [Act.put, List.setIfInBounds_toArray, List.set_cons_zero, List.set_cons_succ]
  refine wpAnyH_take (i := 11) (v := .int .i64 s.tm) (at_list rfl) (by kernel_rfl) (by kernel_rfl) (by kernel_rfl) (fun _ _ _ h => h) (Or.inl ⟨by rfl, ?_⟩) hHeld ?_
  · intro v hSv
    clear hHeld
    go_simp
  try simp only [Act.put, List.setIfInBounds_toArray, List.set_cons_zero, List.set_cons_succ]
  refine wpAnyH_take (i := 12) (v := .bool s.o.k) (at_list rfl) (by kernel_rfl) (by kernel_rfl) (by kernel_rfl) (fun _ _ _ h => h) (Or.inl ⟨by rfl, ?_⟩) hHeld ?_
  · intro v hSv
    clear hHeld
    go_simp
  try simp only [Act.put, List.setIfInBounds_toArray, List.set_cons_zero, List.set_cons_succ]
  refine wpAnyH_done (by kernel_rfl) ?_ _
  have HB := Lib.hid hHeld.1
  have M := Lib.hid hHeld.2.1
  clear hHeld
  go_wp2
  go_ret2
  exact ⟨rfl, HB.out⟩
set_option maxHeartbeats 4000000 in
theorem preset14_any (gM : Nat) (s : Sv) (w : World) (hM : Holds w gM 63 (scA s)) :
    Calls Try.prog 24 #[.pointer (some ⟨gM, 0, none⟩)] w fun e w' => e = .returned (.tuple #[]) ∧ Holds w' gM 63 (scA (newSv s.ppb)) ∧ Only [gM] w.heap.size w w' := by
  have HB := Lib.hid (Below.refl w.heap.size w)
  have M := Lib.hid hM
  clear hM
  go_enter Try.func24, Try.ntmps24
  go_wp2_with (first | (refine big_store rfl 61 _ _ rfl gM 0 [.int .i64 0, .int .i64 0, .bool false, .int .i64 0, .int .i64 0] rfl rfl M.out (by kernel_rfl) (by kernel_rfl) (of_decide_eq_true (by kernel_rfl)) (scA (newSv s.ppb)) (by kernel_rfl) ?_; intro vM nM htM; replace M := Lib.hid nM; have HO := Lib.hid (Only.touch (only_of (s := [gM]) HB.out) htM (fun _ => by simp)); clear HB nM htM; try simp only [Act.put, List.setIfInBounds_toArray, List.set_cons_zero, List.set_cons_succ]) | (refine big_build rfl 61 _ rfl (#[.int .i64 0, .int .i64 0, .bool false, .int .i64 0, .int .i64 0]) (by kernel_rfl) ?_; try simp only [Act.put, List.setIfInBounds_toArray, List.set_cons_zero, List.set_cons_succ]))
  go_end0
  exact ⟨rfl, M.out, HO.out⟩
set_option maxHeartbeats 4000000 in
theorem pasker14_any (s : Sv) (w : World) :
    Calls Try.prog 41 #[.agg #[.int .i64 s.o.lo, .int .i64 s.o.hi, .bool s.o.k, .int .i64 s.tm, .int .i64 s.n]] w fun e w' => ∃ g, e = .returned (.func (.func 61) #[] #[.pointer (some ⟨g, 0, none⟩)]) ∧ w.heap.size ≤ g ∧ Holds w' g 3 #[.int .i64 (fromN s)] ∧ Below w.heap.size w w' := by
  have HB := Lib.hid (Below.refl w.heap.size w)
  cases hk : s.o.k
  · have HX : Hid (fromN s = (-4611686018427387904)) := by unfold fromN; rw [Hid, hk]; rfl
    clear hk
    go_enter Try.func41, Try.ntmps41
    go_upto_region 2 with (first | (refine big_set rfl 3 _ _ rfl gK3 0 (.int .i64 (-4611686018427387904)) rfl rfl K3.out (by kernel_rfl) rfl rfl (of_decide_eq_true (by kernel_rfl)) (#[.int .i64 (-4611686018427387904)]) (by kernel_rfl) ?_; intro vK31 nK3 htK3; replace K3 := Lib.hid nK3; replace K1 := Lib.hid ((K1.out).touch htK3 OK1K3.out); replace HB := Lib.hid (btouch HB.out htK3 LK3.out); clear nK3 htK3; try simp only [Act.put, List.setIfInBounds_toArray, List.set_cons_zero, List.set_cons_succ]) | (refine big_alloc1 rfl 3 rfl (.int .i64 0) (by kernel_rfl) rfl ?_; intro gK3 wK3 hlK3 nK3 hbK3; have K3 := Lib.hid nK3; have LK3 := Lib.hid (Nat.le_trans (HB.out).size hlK3); have OK1K3 := Lib.hid ((K1.out).off hlK3); replace K1 := Lib.hid ((K1.out).keptB hbK3); replace HB := Lib.hid (bstep HB.out hbK3); clear hlK3 nK3 hbK3; try simp only [Act.put, List.setIfInBounds_toArray, List.set_cons_zero, List.set_cons_succ]) | (refine big_box rfl 61 _ rfl (#[.int .i64 s.o.lo, .int .i64 s.o.hi, .bool false, .int .i64 s.tm, .int .i64 s.n]) rfl (by kernel_rfl) ?_; intro gK1 wK1 hlK1 nK1 hbK1; have K1 := Lib.hid nK1; have LK1 := Lib.hid (Nat.le_trans (HB.out).size hlK1); replace HB := Lib.hid (bstep HB.out hbK1); clear hlK1 nK1 hbK1; try simp only [Act.put, List.setIfInBounds_toArray, List.set_cons_zero, List.set_cons_succ]))
    have x2 := (K1.out).reads (i := 2) (x := .bool false) rfl
    go_upto_region 4 with fail
    clear x2
    go_wp2
    go_ret
    rw [HX.out]
    exact ⟨gK3, rfl, LK3.out, K3.out, HB.out⟩
  · have HX : Hid (fromN s = s.tm) := by unfold fromN; rw [Hid, hk]; rfl
    clear hk
    go_enter Try.func41, Try.ntmps41
    go_upto_region 2 with (first | (refine big_set rfl 3 _ _ rfl gK3 0 (.int .i64 (-4611686018427387904)) rfl rfl K3.out (by kernel_rfl) rfl rfl (of_decide_eq_true (by kernel_rfl)) (#[.int .i64 (-4611686018427387904)]) (by kernel_rfl) ?_; intro vK31 nK3 htK3; replace K3 := Lib.hid nK3; replace K1 := Lib.hid ((K1.out).touch htK3 OK1K3.out); replace HB := Lib.hid (btouch HB.out htK3 LK3.out); clear nK3 htK3; try simp only [Act.put, List.setIfInBounds_toArray, List.set_cons_zero, List.set_cons_succ]) | (refine big_alloc1 rfl 3 rfl (.int .i64 0) (by kernel_rfl) rfl ?_; intro gK3 wK3 hlK3 nK3 hbK3; have K3 := Lib.hid nK3; have LK3 := Lib.hid (Nat.le_trans (HB.out).size hlK3); have OK1K3 := Lib.hid ((K1.out).off hlK3); replace K1 := Lib.hid ((K1.out).keptB hbK3); replace HB := Lib.hid (bstep HB.out hbK3); clear hlK3 nK3 hbK3; try simp only [Act.put, List.setIfInBounds_toArray, List.set_cons_zero, List.set_cons_succ]) | (refine big_box rfl 61 _ rfl (#[.int .i64 s.o.lo, .int .i64 s.o.hi, .bool true, .int .i64 s.tm, .int .i64 s.n]) rfl (by kernel_rfl) ?_; intro gK1 wK1 hlK1 nK1 hbK1; have K1 := Lib.hid nK1; have LK1 := Lib.hid (Nat.le_trans (HB.out).size hlK1); replace HB := Lib.hid (bstep HB.out hbK1); clear hlK1 nK1 hbK1; try simp only [Act.put, List.setIfInBounds_toArray, List.set_cons_zero, List.set_cons_succ]))
    have x2 := (K1.out).reads (i := 2) (x := .bool true) rfl
    go_upto_region 3 with fail
    clear x2
    have x3 := (K1.out).reads (i := 3) (x := .int .i64 s.tm) rfl
    go_upto_region 4 with ((refine big_set rfl 3 _ _ rfl gK3 0 (.int .i64 s.tm) rfl rfl K3.out (by kernel_rfl) rfl rfl (of_decide_eq_true (by kernel_rfl)) (#[.int .i64 s.tm]) (by kernel_rfl) ?_; intro vK32 nK3 htK3; replace K3 := Lib.hid nK3; replace K1 := Lib.hid ((K1.out).touch htK3 OK1K3.out); replace HB := Lib.hid (btouch HB.out htK3 LK3.out); clear nK3 htK3; try simp only [Act.put, List.setIfInBounds_toArray, List.set_cons_zero, List.set_cons_succ]))
    clear x3
    go_wp2
    go_ret
    rw [HX.out]
    exact ⟨gK3, rfl, LK3.out, K3.out, HB.out⟩
set_option maxHeartbeats 4000000 in
theorem pclos14_any (o : Sp) (t f : Int) (gK0 : Nat) (w : World) (hk : Holds w gK0 3 #[.int .i64 f]) :
    Calls Try.prog 61 #[.agg (#[.int .i64 o.lo, .int .i64 o.hi, .bool o.k]), .int .i64 t, .pointer (some ⟨gK0, 0, none⟩)] w fun e w' => e = .returned (.bool (may14 f o t)) ∧ Below w.heap.size w w' := by
  rcases Bool.eq_false_or_eq_true o.k with c0 | c0
  · cases c1 : rgtB o
    · have HX : Hid (may14 f o t = false) := by unfold may14; rw [Hid, c0, c1]; rfl
      have H0 := Lib.hid c0
      have H1 := Lib.hid c1
      clear c0 c1
      have HB := Lib.hid (Below.refl w.heap.size w)
      have K0 := Lib.hid hk
      clear hk
      go_enter Try.func61, Try.ntmps61
      go_upto_region 1 with ((refine big_box rfl 38 _ rfl (#[.int .i64 o.lo, .int .i64 o.hi, .bool o.k]) rfl (by kernel_rfl) ?_; intro gK1 wK1 hlK1 nK1 hbK1; have K1 := Lib.hid nK1; have LK1 := Lib.hid (Nat.le_trans (HB.out).size hlK1); have OK0K1 := Lib.hid ((K0.out).off hlK1); replace K0 := Lib.hid ((K0.out).keptB hbK1); replace HB := Lib.hid (bstep HB.out hbK1); clear hlK1 nK1 hbK1; try simp only [Act.put, List.setIfInBounds_toArray, List.set_cons_zero, List.set_cons_succ]))
      have x2 := (K1.out).reads (i := 2) (x := .bool o.k) rfl
      rw [H0.out] at x2
      go_wp2_with ((refine big_whole rfl 38 _ rfl gK1 rfl K1.out Try.underlying38 rfl (by kernel_rfl) ?_; try simp only [Act.put, List.setIfInBounds_toArray, List.set_cons_zero, List.set_cons_succ]))
      clear x2
      refine (right3_any o _).mono ?_
      rintro e c1 ⟨rfl, hc1⟩
      replace K0 := Lib.hid ((K0.out).keptB hc1)
      replace K1 := Lib.hid ((K1.out).keptB hc1)
      replace HB := Lib.hid (bstep HB.out hc1)
      clear hc1
      rw [H1.out]
      go_wp2
      go_ret
      rw [HX.out]
      exact ⟨rfl, HB.out⟩
    · by_cases q2 : f ≤ t
      · have c2 : decide (f ≤ t) = true := decide_eq_true q2
        clear q2
        by_cases q3 : t ≤ 4611686018427387904
        · have c3 : decide (t ≤ 4611686018427387904) = true := decide_eq_true q3
          clear q3
          have HX : Hid (may14 f o t = true) := by unfold may14; rw [Hid, c0, c1, c2, c3]; rfl
          have H0 := Lib.hid c0
          have H1 := Lib.hid c1
          clear c0 c1
          have HB := Lib.hid (Below.refl w.heap.size w)
          have K0 := Lib.hid hk
          clear hk
          go_enter Try.func61, Try.ntmps61
          go_upto_region 1 with ((refine big_box rfl 38 _ rfl (#[.int .i64 o.lo, .int .i64 o.hi, .bool o.k]) rfl (by kernel_rfl) ?_; intro gK1 wK1 hlK1 nK1 hbK1; have K1 := Lib.hid nK1; have LK1 := Lib.hid (Nat.le_trans (HB.out).size hlK1); have OK0K1 := Lib.hid ((K0.out).off hlK1); replace K0 := Lib.hid ((K0.out).keptB hbK1); replace HB := Lib.hid (bstep HB.out hbK1); clear hlK1 nK1 hbK1; try simp only [Act.put, List.setIfInBounds_toArray, List.set_cons_zero, List.set_cons_succ]))
          have x2 := (K1.out).reads (i := 2) (x := .bool o.k) rfl
          rw [H0.out] at x2
          go_wp2_with ((refine big_whole rfl 38 _ rfl gK1 rfl K1.out Try.underlying38 rfl (by kernel_rfl) ?_; try simp only [Act.put, List.setIfInBounds_toArray, List.set_cons_zero, List.set_cons_succ]))
          clear x2
          refine (right3_any o _).mono ?_
          rintro e c1 ⟨rfl, hc1⟩
          replace K0 := Lib.hid ((K0.out).keptB hc1)
          replace K1 := Lib.hid ((K1.out).keptB hc1)
          replace HB := Lib.hid (bstep HB.out hc1)
          clear hc1
          rw [H1.out]
          have x0 := (K0.out).reads (i := 0) (x := .int .i64 f) rfl
          go_wp2
          go_ret
          rw [HX.out]
          exact ⟨rfl, HB.out⟩
        · have c3 : decide (t ≤ 4611686018427387904) = false := decide_eq_false q3
          clear q3
          have HX : Hid (may14 f o t = false) := by unfold may14; rw [Hid, c0, c1, c2, c3]; rfl
          have H0 := Lib.hid c0
          have H1 := Lib.hid c1
          clear c0 c1
          have HB := Lib.hid (Below.refl w.heap.size w)
          have K0 := Lib.hid hk
          clear hk
          go_enter Try.func61, Try.ntmps61
          go_upto_region 1 with ((refine big_box rfl 38 _ rfl (#[.int .i64 o.lo, .int .i64 o.hi, .bool o.k]) rfl (by kernel_rfl) ?_; intro gK1 wK1 hlK1 nK1 hbK1; have K1 := Lib.hid nK1; have LK1 := Lib.hid (Nat.le_trans (HB.out).size hlK1); have OK0K1 := Lib.hid ((K0.out).off hlK1); replace K0 := Lib.hid ((K0.out).keptB hbK1); replace HB := Lib.hid (bstep HB.out hbK1); clear hlK1 nK1 hbK1; try simp only [Act.put, List.setIfInBounds_toArray, List.set_cons_zero, List.set_cons_succ]))
          have x2 := (K1.out).reads (i := 2) (x := .bool o.k) rfl
          rw [H0.out] at x2
          go_wp2_with ((refine big_whole rfl 38 _ rfl gK1 rfl K1.out Try.underlying38 rfl (by kernel_rfl) ?_; try simp only [Act.put, List.setIfInBounds_toArray, List.set_cons_zero, List.set_cons_succ]))
          clear x2
          refine (right3_any o _).mono ?_
          rintro e c1 ⟨rfl, hc1⟩
          replace K0 := Lib.hid ((K0.out).keptB hc1)
          replace K1 := Lib.hid ((K1.out).keptB hc1)
          replace HB := Lib.hid (bstep HB.out hc1)
          clear hc1
          rw [H1.out]
          have x0 := (K0.out).reads (i := 0) (x := .int .i64 f) rfl
          go_wp2
          go_ret
          rw [HX.out]
          exact ⟨rfl, HB.out⟩
      · have c2 : decide (f ≤ t) = false := decide_eq_false q2
        clear q2
        have HX : Hid (may14 f o t = false) := by unfold may14; rw [Hid, c0, c1, c2]; rfl
        have H0 := Lib.hid c0
        have H1 := Lib.hid c1
        clear c0 c1
        have HB := Lib.hid (Below.refl w.heap.size w)
        have K0 := Lib.hid hk
        clear hk
        go_enter Try.func61, Try.ntmps61
        go_upto_region 1 with ((refine big_box rfl 38 _ rfl (#[.int .i64 o.lo, .int .i64 o.hi, .bool o.k]) rfl (by kernel_rfl) ?_; intro gK1 wK1 hlK1 nK1 hbK1; have K1 := Lib.hid nK1; have LK1 := Lib.hid (Nat.le_trans (HB.out).size hlK1); have OK0K1 := Lib.hid ((K0.out).off hlK1); replace K0 := Lib.hid ((K0.out).keptB hbK1); replace HB := Lib.hid (bstep HB.out hbK1); clear hlK1 nK1 hbK1; try simp only [Act.put, List.setIfInBounds_toArray, List.set_cons_zero, List.set_cons_succ]))
        have x2 := (K1.out).reads (i := 2) (x := .bool o.k) rfl
        rw [H0.out] at x2
        go_wp2_with ((refine big_whole rfl 38 _ rfl gK1 rfl K1.out Try.underlying38 rfl (by kernel_rfl) ?_; try simp only [Act.put, List.setIfInBounds_toArray, List.set_cons_zero, List.set_cons_succ]))
        clear x2
        refine (right3_any o _).mono ?_
        rintro e c1 ⟨rfl, hc1⟩
        replace K0 := Lib.hid ((K0.out).keptB hc1)
        replace K1 := Lib.hid ((K1.out).keptB hc1)
        replace HB := Lib.hid (bstep HB.out hc1)
        clear hc1
        rw [H1.out]
        have x0 := (K0.out).reads (i := 0) (x := .int .i64 f) rfl
        go_wp2
        go_ret
        rw [HX.out]
        exact ⟨rfl, HB.out⟩
  · have HX : Hid (may14 f o t = false) := by unfold may14; rw [Hid, c0]; rfl
    have H0 := Lib.hid c0
    clear c0
    have HB := Lib.hid (Below.refl w.heap.size w)
    have K0 := Lib.hid hk
    clear hk
    go_enter Try.func61, Try.ntmps61
    go_upto_region 1 with ((refine big_box rfl 38 _ rfl (#[.int .i64 o.lo, .int .i64 o.hi, .bool o.k]) rfl (by kernel_rfl) ?_; intro gK1 wK1 hlK1 nK1 hbK1; have K1 := Lib.hid nK1; have LK1 := Lib.hid (Nat.le_trans (HB.out).size hlK1); have OK0K1 := Lib.hid ((K0.out).off hlK1); replace K0 := Lib.hid ((K0.out).keptB hbK1); replace HB := Lib.hid (bstep HB.out hbK1); clear hlK1 nK1 hbK1; try simp only [Act.put, List.setIfInBounds_toArray, List.set_cons_zero, List.set_cons_succ]))
    have x2 := (K1.out).reads (i := 2) (x := .bool o.k) rfl
    rw [H0.out] at x2
    go_wp2
    go_ret
    rw [HX.out]
    exact ⟨rfl, HB.out⟩
set_option maxHeartbeats 4000000 in
theorem pread14_any (gM : Nat) (s : Sv) (t : Int) (w : World) (hM : Holds w gM 63 (scA s)) :
    Calls Try.prog 14 #[.pointer (some ⟨gM, 0, none⟩), .int .i64 t] w fun e w' => e = .returned (.agg #[.int .i64 (readS s t).lo, .int .i64 (readS s t).hi, .bool (readS s t).k]) ∧ Below w.heap.size w w' := by
  cases hw : widB (ofS s.tm t)
  · have HB := Lib.hid (Below.refl w.heap.size w)
    have M := Lib.hid hM
    clear hM
    obtain ⟨a, Ha⟩ : ∃ z_, Hid (ofS s.tm t = z_) := ⟨_, Lib.hid rfl⟩
    have HX : Hid (readS s t = unS) := Lib.hid (read_no hw)
    rw [Ha.out] at hw
    have HW := Lib.hid hw
    clear hw
    go_enter Try.func14, Try.ntmps14
    go_upto_region 1 with ((refine big_alloc rfl 38 rfl (#[.int .i64 0, .int .i64 0, .bool false]) (by kernel_rfl) ?_; intro gK4 wK4 hlK4 nK4 hbK4; have K4 := Lib.hid nK4; have LK4 := Lib.hid (Nat.le_trans (HB.out).size hlK4); have OMK4 := Lib.hid ((M.out).off hlK4); replace M := Lib.hid ((M.out).keptB hbK4); replace HB := Lib.hid (bstep HB.out hbK4); clear hlK4 nK4 hbK4; try simp only [Act.put, List.setIfInBounds_toArray, List.set_cons_zero, List.set_cons_succ]))
    have x3 := (M.out).reads (i := 3) (x := .int .i64 s.tm) rfl
    go_wp2_with fail
    clear x3
    refine (of3_any s.tm t _).mono ?_
    rintro e c1 ⟨rfl, hc1⟩
    replace M := Lib.hid ((M.out).keptB hc1)
    replace K4 := Lib.hid ((K4.out).keptB hc1)
    replace HB := Lib.hid (bstep HB.out hc1)
    clear hc1
    rw [Ha.out]
    go_wp2_with fail
    refine (width3_any a _).mono ?_
    rintro e c2 ⟨rfl, hc2⟩
    replace M := Lib.hid ((M.out).keptB hc2)
    replace K4 := Lib.hid ((K4.out).keptB hc2)
    replace HB := Lib.hid (bstep HB.out hc2)
    clear hc2
    rw [HW.out]
    go_upto_region 3 with fail
    go_wp2_with fail
    refine (unknown_any _).mono ?_
    rintro e c3 ⟨rfl, hc3⟩
    replace M := Lib.hid ((M.out).keptB hc3)
    replace K4 := Lib.hid ((K4.out).keptB hc3)
    replace HB := Lib.hid (bstep HB.out hc3)
    clear hc3
    go_wp2_with ((refine big_fill rfl 38 _ _ rfl gK4 (#[.int .i64 0, .int .i64 0, .bool false]) rfl rfl K4.out (by kernel_rfl) (by kernel_rfl) (by kernel_rfl) ?_; intro vK41 nK4 htK4; replace K4 := Lib.hid nK4; replace M := Lib.hid ((M.out).touch htK4 OMK4.out); replace HB := Lib.hid (btouch HB.out htK4 LK4.out); clear nK4 htK4; try simp only [Act.put, List.setIfInBounds_toArray, List.set_cons_zero, List.set_cons_succ]))
    refine bodyPost_ret (v := .agg (#[.int .i64 0, .int .i64 0, .bool false])) (results_cell_row rfl _ _ gK4 _ _ (0, 0) _ rfl K4.out Try.underlying38 rfl (by kernel_rfl)) rfl ?_
    rw [HX.out]
    exact ⟨rfl, HB.out⟩
  · have HB := Lib.hid (Below.refl w.heap.size w)
    have M := Lib.hid hM
    clear hM
    obtain ⟨a, Ha⟩ : ∃ z_, Hid (ofS s.tm t = z_) := ⟨_, Lib.hid rfl⟩
    have HX0 := read_yes hw
    rw [Ha.out] at hw HX0
    obtain ⟨d, Hd⟩ : ∃ x, Hid (told (widB a) (a.hi - a.lo) = x) := ⟨_, Lib.hid rfl⟩
    have HIN0 := wid_in a
    rw [Hd.out] at HX0 HIN0
    have HIN := Lib.hid HIN0
    rw [hw] at Hd
    obtain ⟨q, Hq⟩ : ∃ z_, Hid (driftS s.o d s.ppb = z_) := ⟨_, Lib.hid rfl⟩
    rw [Hq.out] at HX0
    have HX := Lib.hid HX0
    have HW := Lib.hid hw
    clear hw HX0 HIN0
    go_enter Try.func14, Try.ntmps14
    go_upto_region 1 with ((refine big_alloc rfl 38 rfl (#[.int .i64 0, .int .i64 0, .bool false]) (by kernel_rfl) ?_; intro gK4 wK4 hlK4 nK4 hbK4; have K4 := Lib.hid nK4; have LK4 := Lib.hid (Nat.le_trans (HB.out).size hlK4); have OMK4 := Lib.hid ((M.out).off hlK4); replace M := Lib.hid ((M.out).keptB hbK4); replace HB := Lib.hid (bstep HB.out hbK4); clear hlK4 nK4 hbK4; try simp only [Act.put, List.setIfInBounds_toArray, List.set_cons_zero, List.set_cons_succ]))
    have x3 := (M.out).reads (i := 3) (x := .int .i64 s.tm) rfl
    go_wp2_with fail
    clear x3
    refine (of3_any s.tm t _).mono ?_
    rintro e c1 ⟨rfl, hc1⟩
    replace M := Lib.hid ((M.out).keptB hc1)
    replace K4 := Lib.hid ((K4.out).keptB hc1)
    replace HB := Lib.hid (bstep HB.out hc1)
    clear hc1
    rw [Ha.out]
    go_wp2_with fail
    refine (width3_any a _).mono ?_
    rintro e c2 ⟨rfl, hc2⟩
    replace M := Lib.hid ((M.out).keptB hc2)
    replace K4 := Lib.hid ((K4.out).keptB hc2)
    replace HB := Lib.hid (bstep HB.out hc2)
    clear hc2
    rw [HW.out]
    rw [Hd.out]
    go_upto_region 4 with fail
    refine wp_region_end (S := fun v => Below w.heap.size w v ∧ Holds v gM 63 (scA s) ∧ Holds v gK4 38 (#[.int .i64 0, .int .i64 0, .bool false]) ∧ True) 11 (by kernel_rfl) ?_ (fun hHeld => ?_)
    · exact ⟨bdrew HB.out, (M.out).drew, (K4.out).drew, trivial⟩
    clear HB M K4
    refine wpAnyE_take (hfb := by kernel_rfl) (i := 0) (v := .pointer (some ⟨gM, 0, none⟩)) (at_list rfl) (by kernel_rfl) (by kernel_rfl) (by kernel_rfl) (fun _ _ _ h => h) (Or.inl ⟨by rfl, ?_⟩) hHeld ?_
    · intro v hSv
      clear hHeld
      go_simp
    try simp only [Act.put, List.setIfInBounds_toArray, List.set_cons_zero, List.set_cons_succ]
    refine wpAnyE_take (hfb := by kernel_rfl) (i := 1) (v := .pointer (some ⟨gM, 0, none⟩)) (at_list rfl) (by kernel_rfl) (by kernel_rfl) (by kernel_rfl) (fun _ _ _ h => h) (Or.inl ⟨by rfl, ?_⟩) hHeld ?_
    · intro v hSv
      clear hHeld
      go_simp
    try simp only [Act.put, List.setIfInBounds_toArray, List.set_cons_zero, List.set_cons_succ]
    refine wpAnyE_take (hfb := by kernel_rfl) (i := 2) (v := .pointer (some ⟨gM, 0, none⟩)) (at_list rfl) (by kernel_rfl) (by kernel_rfl) (by kernel_rfl) (fun _ _ _ h => h) (Or.inl ⟨by rfl, ?_⟩) hHeld ?_
    · intro v hSv
      clear hHeld
      go_simp
    try simp only [Act.put, List.setIfInBounds_toArray, List.set_cons_zero, List.set_cons_succ]
    refine wpAnyE_take (hfb := by kernel_rfl) (i := 3) (v := .pointer (some ⟨gM, 0, none⟩)) (at_list rfl) (by kernel_rfl) (by kernel_rfl) (by kernel_rfl) (fun _ _ _ h => h) (Or.inl ⟨by rfl, ?_⟩) hHeld ?_
    · intro v hSv
      clear hHeld
      go_simp
    try simp only [Act.put, List.setIfInBounds_toArray, List.set_cons_zero, List.set_cons_succ]
    refine wpAnyE_take (hfb := by kernel_rfl) (i := 4) (v := .agg #[.int .i64 s.o.lo, .int .i64 s.o.hi, .bool s.o.k]) (at_list rfl) (by kernel_rfl) (by kernel_rfl) (by kernel_rfl) (fun _ _ _ h => h) (yieldsIf_load_mid (by rfl) 38 _ rfl gM 0 rfl [.int .i64 s.o.lo, .int .i64 s.o.hi, .bool s.o.k] _ (fun v hv => Holds.range (hv.2.1) rfl) Try.underlying38 rfl (by kernel_rfl)) hHeld ?_
    try simp only [Act.put, List.setIfInBounds_toArray, List.set_cons_zero, List.set_cons_succ]
    refine wpAnyE_take (hfb := by kernel_rfl) (i := 5) (v := .int .i64 d) (at_list rfl) (by kernel_rfl) (by kernel_rfl) (by kernel_rfl) (fun _ _ _ h => h) (Or.inl ⟨by rfl, ?_⟩) hHeld ?_
    · intro v hSv
      clear hHeld
      go_simp
    try simp only [Act.put, List.setIfInBounds_toArray, List.set_cons_zero, List.set_cons_succ]
    refine wpAnyE_take (hfb := by kernel_rfl) (i := 6) (v := .pointer (some ⟨gM, 0, none⟩)) (at_list rfl) (by kernel_rfl) (by kernel_rfl) (by kernel_rfl) (fun _ _ _ h => h) (Or.inl ⟨by rfl, ?_⟩) hHeld ?_
    · intro v hSv
      clear hHeld
      go_simp
    try simp only [Act.put, List.setIfInBounds_toArray, List.set_cons_zero, List.set_cons_succ]
    refine wpAnyE_take (hfb := by kernel_rfl) (i := 7) (v := .pointer (some ⟨gM, 0, none⟩)) (at_list rfl) (by kernel_rfl) (by kernel_rfl) (by kernel_rfl) (fun _ _ _ h => h) (Or.inl ⟨by rfl, ?_⟩) hHeld ?_
    · intro v hSv
      clear hHeld
      go_simp
    try simp only [Act.put, List.setIfInBounds_toArray, List.set_cons_zero, List.set_cons_succ]
    refine wpAnyE_take (hfb := by kernel_rfl) (i := 8) (v := .pointer (some ⟨gM, 5, none⟩)) (at_list rfl) (by kernel_rfl) (by kernel_rfl) (by kernel_rfl) (fun _ _ _ h => h) (Or.inl ⟨by rfl, ?_⟩) hHeld ?_
    · intro v hSv
      clear hHeld
      go_simp
    try simp only [Act.put, List.setIfInBounds_toArray, List.set_cons_zero, List.set_cons_succ]
    refine wpAnyE_take (hfb := by kernel_rfl) (i := 9) (v := .int .i64 s.ppb) (at_list rfl) (by kernel_rfl) (by kernel_rfl) (by kernel_rfl) (fun _ _ _ h => h) (Or.inl ⟨by rfl, ?_⟩) hHeld ?_
    · intro v hSv
      clear hHeld
      have q := Holds.reads (hSv.2.1) (i := 5) (x := .int .i64 s.ppb) rfl
      clear hSv
      go_simp
    try simp only [Act.put, List.setIfInBounds_toArray, List.set_cons_zero, List.set_cons_succ]
    refine wpAnyE_ready (i := 10) (by kernel_rfl) (at_list rfl) (fun K hK => ?_)
    go_simp
    refine (drift3_any s.o d s.ppb _ HIN.out).mono ?_
    rintro e v3 ⟨rfl, hv3⟩
    rw [Hq.out]
    go_wp2_with fail
    refine hK.out _ _ ?_ (fun hHeld2 => ?_)
    · exact ⟨bstep hHeld.1 hv3, (hHeld.2.1).keptB hv3, (hHeld.2.2.1).keptB hv3, trivial⟩
    clear hK K hHeld
    have hHeld := hHeld2
    clear hHeld2 hv3
    try simp only [Act.put, List.setIfInBounds_toArray, List.set_cons_zero, List.set_cons_succ]
    refine wpAnyE_last (by kernel_rfl) (at_list rfl) (by kernel_rfl) (fun K hK => ?_)
    have HB := Lib.hid hHeld.1
    have M := Lib.hid hHeld.2.1
    have K4 := Lib.hid hHeld.2.2.1
    clear hHeld
    refine step_fill (by rfl) 38 _ _ rfl gK4 (#[.int .i64 q.lo, .int .i64 q.hi, .bool q.k]) rfl rfl K4.out (by kernel_rfl) (by kernel_rfl) (by kernel_rfl) ?_
    intro vK41 nK4 htK4
    replace K4 := Lib.hid nK4
    replace M := Lib.hid ((M.out).touch htK4 OMK4.out)
    replace HB := Lib.hid (btouch HB.out htK4 LK4.out)
    clear nK4 htK4
    refine hK.out _ _ ?_
    clear hK K
    try simp only [Act.put]
    go_wp2
    refine bodyPost_ret (v := .agg (#[.int .i64 q.lo, .int .i64 q.hi, .bool q.k])) (results_cell_row rfl _ _ gK4 _ _ (0, 0) _ rfl K4.out Try.underlying38 rfl (by kernel_rfl)) rfl ?_
    rw [HX.out]
    exact ⟨rfl, HB.out⟩
set_option maxHeartbeats 4000000 in
theorem pmaster14_any (gM : Nat) (s : Sv) (t : Int) (w : World) (hM : Holds w gM 63 (scA s)) :
    Calls Try.prog 17 #[.pointer (some ⟨gM, 0, none⟩), .int .i64 t] w fun e w' => e = .returned (.agg #[.int .i64 (masterS s t).lo, .int .i64 (masterS s t).hi, .bool (masterS s t).k]) ∧ Below w.heap.size w w' := by
  have HB := Lib.hid (Below.refl w.heap.size w)
  have M := Lib.hid hM
  clear hM
  have HX0 := master_shift s t
  obtain ⟨r, Hr⟩ : ∃ z_, Hid (readS s t = z_) := ⟨_, Lib.hid rfl⟩
  obtain ⟨q, Hq⟩ : ∃ z_, Hid (shiftS r t = z_) := ⟨_, Lib.hid rfl⟩
  rw [Hr.out, Hq.out] at HX0
  have HX := Lib.hid HX0
  clear HX0
  go_enter Try.func17, Try.ntmps17
  go_upto_region 1 with ((refine big_alloc rfl 38 rfl (#[.int .i64 0, .int .i64 0, .bool false]) (by kernel_rfl) ?_; intro gK4 wK4 hlK4 nK4 hbK4; have K4 := Lib.hid nK4; have LK4 := Lib.hid (Nat.le_trans (HB.out).size hlK4); have OMK4 := Lib.hid ((M.out).off hlK4); replace M := Lib.hid ((M.out).keptB hbK4); replace HB := Lib.hid (bstep HB.out hbK4); clear hlK4 nK4 hbK4; try simp only [Act.put, List.setIfInBounds_toArray, List.set_cons_zero, List.set_cons_succ]))
  go_wp2_with fail
  refine (pread14_any gM s t _ M.out).mono ?_
  rintro e c1 ⟨rfl, hc1⟩
  replace M := Lib.hid ((M.out).keptB hc1)
  replace K4 := Lib.hid ((K4.out).keptB hc1)
  replace HB := Lib.hid (bstep HB.out hc1)
  clear hc1
  rw [Hr.out]
  go_wp2_with fail
  refine (shift3_any r t _).mono ?_
  rintro e c2 ⟨rfl, hc2⟩
  replace M := Lib.hid ((M.out).keptB hc2)
  replace K4 := Lib.hid ((K4.out).keptB hc2)
  replace HB := Lib.hid (bstep HB.out hc2)
  clear hc2
  rw [Hq.out]
  go_wp2_with ((refine big_fill rfl 38 _ _ rfl gK4 (#[.int .i64 q.lo, .int .i64 q.hi, .bool q.k]) rfl rfl K4.out (by kernel_rfl) (by kernel_rfl) (by kernel_rfl) ?_; intro vK41 nK4 htK4; replace K4 := Lib.hid nK4; replace M := Lib.hid ((M.out).touch htK4 OMK4.out); replace HB := Lib.hid (btouch HB.out htK4 LK4.out); clear nK4 htK4; try simp only [Act.put, List.setIfInBounds_toArray, List.set_cons_zero, List.set_cons_succ]))
  refine bodyPost_ret (v := .agg (#[.int .i64 q.lo, .int .i64 q.hi, .bool q.k])) (results_cell_row rfl _ _ gK4 _ _ (0, 0) _ rfl K4.out Try.underlying38 rfl (by kernel_rfl)) rfl ?_
  rw [HX.out]
  exact ⟨rfl, HB.out⟩

end Go.Proofs.Ytblbjljfcoeeeaa
