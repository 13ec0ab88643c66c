/- The walks over the laws that speak of wide alone. -/
import Derived.Test.YtanckimgmcbbmaaWideAlive
namespace Go.Proofs.Ytanckimgmcbbmaa
open Go.RowKit

theorem addB_comm (a b : Int) : addB b a = addB a b := by
  unfold addB; rw [Int.add_comm b a]; cases smallB a <;> cases smallB b <;> rfl
theorem mulB_comm (a b : Int) : floorB b a 1 = floorB a b 1 := by
  unfold floorB; rw [Int.mul_comm b a]; cases smallB a <;> cases smallB b <;> rfl
theorem subB_comm (a b : Int) : subB b a = subB a b := by
  unfold subB
  have : smallB (b - a) = smallB (a - b) := by rw [← smallB_neg (a - b)]; congr 1; omega
  rw [this]; cases smallB a <;> cases smallB b <;> rfl
theorem told_sub (B : Bool) (a b : Int) : told B (a - b) = -told B (b - a) := by
  cases B <;> simp [told]; omega

theorem told_bd {B : Bool} {n : Int} (h : B = true → smallB n = true) : -4611686018427387904 ≤ told B n ∧ told B n ≤ 4611686018427387904 := by
  cases B
  · simp [told]
  · exact smallB_iff.1 (h rfl)

set_option maxHeartbeats 1000000 in
theorem turns_walk (a b : Int) (w : World) :
    Calls Try.prog 9 #[.int .i64 a, .int .i64 b] w fun e w' => e = .returned (.bool true) ∧ Below w.heap.size w w' := by
  obtain ⟨A, hA⟩ : ∃ A, A = told (addB a b) (a + b) := ⟨_, rfl⟩
  obtain ⟨Ab, hAb⟩ : ∃ A, A = addB a b := ⟨_, rfl⟩
  obtain ⟨M, hM⟩ : ∃ A, A = told (floorB a b 1) (a * b) := ⟨_, rfl⟩
  obtain ⟨Mb, hMb⟩ : ∃ A, A = floorB a b 1 := ⟨_, rfl⟩
  obtain ⟨D, hD⟩ : ∃ A, A = told (subB b a) (b - a) := ⟨_, rfl⟩
  obtain ⟨Db, hDb⟩ : ∃ A, A = subB a b := ⟨_, rfl⟩
  have hDbd : -4611686018427387904 ≤ D ∧ D ≤ 4611686018427387904 := by
    rw [hD]; exact told_bd (fun h => by unfold subB at h; simp only [Bool.and_eq_true] at h; exact h.2)
  obtain ⟨d1, d2⟩ := hDbd
  have c1 : ∀ w, Calls Try.prog 11 #[.int .i64 a, .int .i64 b] w fun e w' => e = .returned (.tuple #[.int .i64 A, .bool Ab]) ∧ Below w.heap.size w w' :=
    fun w => (add_any a b w).mono fun _ _ ⟨he, hb⟩ => ⟨he.trans (ret_ib hA.symm hAb.symm), hb⟩
  have c2 : ∀ w, Calls Try.prog 11 #[.int .i64 b, .int .i64 a] w fun e w' => e = .returned (.tuple #[.int .i64 A, .bool Ab]) ∧ Below w.heap.size w w' :=
    fun w => (add_any b a w).mono fun _ _ ⟨he, hb⟩ => ⟨he.trans (ret_ib (by rw [hA, addB_comm, Int.add_comm]) (by rw [hAb, addB_comm])), hb⟩
  have c3 : ∀ w, Calls Try.prog 15 #[.int .i64 a, .int .i64 b] w fun e w' => e = .returned (.tuple #[.int .i64 M, .bool Mb]) ∧ Below w.heap.size w w' :=
    fun w => (mul_any a b w).mono fun _ _ ⟨he, hb⟩ => ⟨he.trans (ret_ib hM.symm hMb.symm), hb⟩
  have c4 : ∀ w, Calls Try.prog 15 #[.int .i64 b, .int .i64 a] w fun e w' => e = .returned (.tuple #[.int .i64 M, .bool Mb]) ∧ Below w.heap.size w w' :=
    fun w => (mul_any b a w).mono fun _ _ ⟨he, hb⟩ => ⟨he.trans (ret_ib (by rw [hM, mulB_comm, Int.mul_comm]) (by rw [hMb, mulB_comm])), hb⟩
  have c5 : ∀ w, Calls Try.prog 13 #[.int .i64 a, .int .i64 b] w fun e w' => e = .returned (.tuple #[.int .i64 (-D), .bool Db]) ∧ Below w.heap.size w w' :=
    fun w => (sub_any a b w).mono fun _ _ ⟨he, hb⟩ => ⟨he.trans (ret_ib (by rw [hD, subB_comm, told_sub]) hDb.symm), hb⟩
  have c6 : ∀ w, Calls Try.prog 13 #[.int .i64 b, .int .i64 a] w fun e w' => e = .returned (.tuple #[.int .i64 D, .bool Db]) ∧ Below w.heap.size w w' :=
    fun w => (sub_any b a w).mono fun _ _ ⟨he, hb⟩ => ⟨he.trans (ret_ib hD.symm (by rw [hDb, subB_comm])), hb⟩
  clear hA hAb hM hMb hD hDb
  have C1 := Lib.hid c1
  have C2 := Lib.hid c2
  have C3 := Lib.hid c3
  have C4 := Lib.hid c4
  have C5 := Lib.hid c5
  have C6 := Lib.hid c6
  clear c1 c2 c3 c4 c5 c6
  go_enter Try.func9, Try.ntmps9
  go_wp2_with fail
  refine (C1.out _).mono ?_
  rintro e w1 ⟨rfl, hb1⟩
  go_wp2_with fail
  refine (C2.out _).mono ?_
  rintro e w2 ⟨rfl, hb2⟩
  go_wp2_with fail
  refine (C3.out _).mono ?_
  rintro e w3 ⟨rfl, hb3⟩
  go_wp2_with fail
  refine (C4.out _).mono ?_
  rintro e w4 ⟨rfl, hb4⟩
  go_wp2_with fail
  refine (C5.out _).mono ?_
  rintro e w5 ⟨rfl, hb5⟩
  go_wp2_with fail
  refine (C6.out _).mono ?_
  rintro e w6 ⟨rfl, hb6⟩
  go_wp2_with fail
  refine (alive_any _).mono ?_
  rintro e w7 ⟨rfl, hb7⟩
  go_wp2
  go_ret
  exact ⟨rfl, bstep (bstep (bstep (bstep (bstep (bstep hb1 hb2) hb3) hb4) hb5) hb6) hb7⟩

/-- Floor's contract at a telling that is named -/
theorem floor_as (a b c n : Int) (B : Bool) (h : told (floorB a b c) (a * b / c) = n) (h' : floorB a b c = B) (w : World) :
    Calls Try.prog 22 #[.int .i64 a, .int .i64 b, .int .i64 c] w fun e w' => e = .returned (.tuple #[.int .i64 n, .bool B]) ∧ Below w.heap.size w w' :=
  (floor_any a b c w).mono fun _ _ ⟨he, hb⟩ => ⟨he.trans (ret_ib h h'), hb⟩
theorem ceil_as (a b c n : Int) (B : Bool) (h : told (ceilB a b c) (ceilN a b c) = n) (h' : ceilB a b c = B) (ha : In64 a) (w : World) :
    Calls Try.prog 24 #[.int .i64 a, .int .i64 b, .int .i64 c] w fun e w' => e = .returned (.tuple #[.int .i64 n, .bool B]) ∧ Below w.heap.size w w' :=
  (ceil_any a b c w ha).mono fun _ _ ⟨he, hb⟩ => ⟨he.trans (ret_ib h h'), hb⟩
theorem add_as (a b n : Int) (B : Bool) (h : told (addB a b) (a + b) = n) (h' : addB a b = B) (w : World) :
    Calls Try.prog 11 #[.int .i64 a, .int .i64 b] w fun e w' => e = .returned (.tuple #[.int .i64 n, .bool B]) ∧ Below w.heap.size w w' :=
  (add_any a b w).mono fun _ _ ⟨he, hb⟩ => ⟨he.trans (ret_ib h h'), hb⟩
theorem sub_as (a b n : Int) (B : Bool) (h : told (subB a b) (a - b) = n) (h' : subB a b = B) (w : World) :
    Calls Try.prog 13 #[.int .i64 a, .int .i64 b] w fun e w' => e = .returned (.tuple #[.int .i64 n, .bool B]) ∧ Below w.heap.size w w' :=
  (sub_any a b w).mono fun _ _ ⟨he, hb⟩ => ⟨he.trans (ret_ib h h'), hb⟩
theorem mul_as (a b n : Int) (B : Bool) (h : told (floorB a b 1) (a * b) = n) (h' : floorB a b 1 = B) (w : World) :
    Calls Try.prog 15 #[.int .i64 a, .int .i64 b] w fun e w' => e = .returned (.tuple #[.int .i64 n, .bool B]) ∧ Below w.heap.size w w' :=
  (mul_any a b w).mono fun _ _ ⟨he, hb⟩ => ⟨he.trans (ret_ib h h'), hb⟩

theorem addB_parts {a b : Int} (h : addB a b = true) : smallB a = true ∧ smallB b = true ∧ smallB (a + b) = true := by
  unfold addB at h; simp only [Bool.and_eq_true] at h; exact ⟨h.1.1, h.1.2, h.2⟩
theorem floorB_parts {a b c : Int} (h : floorB a b c = true) : smallB a = true ∧ smallB b = true ∧ smallB c = true ∧ 1 ≤ c ∧ smallB (a * b / c) = true := by
  unfold floorB at h; simp only [Bool.and_eq_true, decide_eq_true_eq] at h; exact ⟨h.1.1.1.1, h.1.1.1.2, h.1.1.2, h.1.2, h.2⟩
theorem ceilB_parts {a b c : Int} (h : ceilB a b c = true) : smallB a = true ∧ smallB b = true ∧ smallB c = true ∧ 1 ≤ c ∧ smallB (ceilN a b c) = true := by
  unfold ceilB at h; simp only [Bool.and_eq_true, decide_eq_true_eq] at h; exact ⟨h.1.1.1.1, h.1.1.1.2, h.1.1.2, h.1.2, h.2⟩

set_option maxHeartbeats 1000000 in
theorem away_walk (a b : Int) (w : World) :
    Calls Try.prog 10 #[.int .i64 a, .int .i64 b] w fun e w' => e = .returned (.bool true) ∧ Below w.heap.size w w' := by
  cases hB : addB a b
  · have H := Lib.hid (add_as a b 0 false (by rw [hB]; rfl) hB)
    clear hB
    go_enter Try.func10, Try.ntmps10
    go_wp2_with fail
    refine (H.out _).mono ?_
    rintro e w1 ⟨rfl, hb1⟩
    go_wp2_with fail
    refine (alive_any _).mono ?_
    rintro e w2 ⟨rfl, hb2⟩
    go_wp2
    go_ret
    exact ⟨rfl, bstep hb1 hb2⟩
  · obtain ⟨ha, hb, hs⟩ := addB_parts hB
    obtain ⟨s, hs'⟩ : ∃ s, s = a + b := ⟨_, rfl⟩
    have H := Lib.hid (add_as a b s true (by rw [hB, hs']; rfl) hB)
    have ea : s - b = a := by omega
    have eb : s - a = b := by omega
    rw [← hs'] at hs
    have B1 : subB s b = true := by unfold subB; rw [ea, ha, hb, hs]; rfl
    have B2 : subB s a = true := by unfold subB; rw [eb, ha, hb, hs]; rfl
    have H1 := Lib.hid (sub_as s b a true (by rw [B1, ea]; rfl) B1)
    have H2 := Lib.hid (sub_as s a b true (by rw [B2, eb]; rfl) B2)
    clear hB ha hb hs hs' ea eb B1 B2
    go_enter Try.func10, Try.ntmps10
    go_wp2_with fail
    refine (H.out _).mono ?_
    rintro e w1 ⟨rfl, hb1⟩
    go_wp2_with fail
    refine (H1.out _).mono ?_
    rintro e w2 ⟨rfl, hb2⟩
    go_wp2_with fail
    refine (H2.out _).mono ?_
    rintro e w3 ⟨rfl, hb3⟩
    go_wp2_with fail
    refine (alive_any _).mono ?_
    rintro e w4 ⟨rfl, hb4⟩
    go_wp2
    go_ret
    exact ⟨rfl, bstep (bstep (bstep hb1 hb2) hb3) hb4⟩

theorem ceilN_neg_left (a b c : Int) : ceilN (-a) b c = -(a * b / c) := by unfold ceilN; rw [Int.neg_mul, Int.neg_neg]
theorem ceilN_neg_right (a b c : Int) : ceilN a (-b) c = -(a * b / c) := by unfold ceilN; rw [Int.mul_neg, Int.neg_neg]
theorem ceilB_neg_left (a b c : Int) : ceilB (-a) b c = floorB a b c := by unfold ceilB floorB; rw [ceilN_neg_left, smallB_neg, smallB_neg]
theorem ceilB_neg_right (a b c : Int) : ceilB a (-b) c = floorB a b c := by unfold ceilB floorB; rw [ceilN_neg_right, smallB_neg, smallB_neg]

set_option maxHeartbeats 1000000 in
theorem signs_walk (a b c : Int) (w : World) :
    Calls Try.prog 6 #[.int .i64 a, .int .i64 b, .int .i64 c] w fun e w' => e = .returned (.bool true) ∧ Below w.heap.size w w' := by
  cases hs : (smallB a && (smallB b && smallB c))
  · go_enter Try.func6, Try.ntmps6
    go_wp2_with (go_at_call 18; refine (small_3 _ _ _ _).mono ?_; rintro e w' ⟨rfl, rfl⟩)
    refine (alive_any _).mono ?_
    rintro e w2 ⟨rfl, hb2⟩
    go_wp2
    go_ret
    exact ⟨rfl, bstep (bnew _ _) hb2⟩
  · obtain ⟨ha, hb, hc⟩ := small_conj hs
    have a1 := smallB_iff.1 ha
    have b1 := smallB_iff.1 hb
    obtain ⟨a1, a2⟩ := a1
    obtain ⟨b1, b2⟩ := b1
    obtain ⟨X, hX⟩ : ∃ X, told (floorB a b c) (a * b / c) = X := ⟨_, rfl⟩
    obtain ⟨B, hB⟩ : ∃ X, floorB a b c = X := ⟨_, rfl⟩
    have hXb := told_bd (B := floorB a b c) (n := a * b / c) (fun h => (floorB_parts h).2.2.2.2)
    rw [hX] at hXb
    obtain ⟨x1, x2⟩ := hXb
    have t1 : told (ceilB (-a) b c) (ceilN (-a) b c) = -X := by rw [ceilB_neg_left, ceilN_neg_left, ← hX, ← told_neg, Int.neg_neg]
    have t2 : told (ceilB a (-b) c) (ceilN a (-b) c) = -X := by rw [ceilB_neg_right, ceilN_neg_right, ← hX, ← told_neg, Int.neg_neg]
    have H1 := Lib.hid (floor_as a b c X B hX hB)
    have H2 := Lib.hid (ceil_as (-a) b c (-X) B t1 (by rw [ceilB_neg_left, hB]) (by unfold In64; omega))
    have H3 := Lib.hid (ceil_as a (-b) c (-X) B t2 (by rw [ceilB_neg_right, hB]) (by unfold In64; omega))
    clear hX hB t1 t2 ha hb hc
    go_enter Try.func6, Try.ntmps6
    go_wp2_with (go_at_call 18; refine (small_3 _ _ _ _).mono ?_; rintro e w' ⟨rfl, rfl⟩)
    refine (H1.out _).mono ?_
    rintro e w2 ⟨rfl, hb2⟩
    go_wp2_with fail
    refine (H2.out _).mono ?_
    rintro e w3 ⟨rfl, hb3⟩
    go_wp2_with fail
    refine (H3.out _).mono ?_
    rintro e w4 ⟨rfl, hb4⟩
    go_wp2_with fail
    refine (alive_any _).mono ?_
    rintro e w5 ⟨rfl, hb5⟩
    go_wp2
    go_ret
    exact ⟨rfl, bstep (bstep (bstep (bstep (bnew _ _) hb2) hb3) hb4) hb5⟩

theorem back_num {a c : Int} (h : 1 ≤ c) : a * c / c = a ∧ ceilN a c c = a := by
  have h1 : a * c / c = a := Int.mul_ediv_cancel _ (by omega)
  have h2 : -(a * c) / c = -a := by rw [← Int.neg_mul]; exact Int.mul_ediv_cancel _ (by omega)
  exact ⟨h1, by unfold ceilN; rw [h2]; omega⟩

set_option maxHeartbeats 1000000 in
theorem back_walk (a c : Int) (ha : In64 a) (w : World) :
    Calls Try.prog 7 #[.int .i64 a, .int .i64 c] w fun e w' => e = .returned (.bool true) ∧ Below w.heap.size w w' := by
  by_cases hm : (smallB a && smallB c) = true ∧ 0 < c
  · obtain ⟨hs, hc⟩ := hm
    obtain ⟨e1, e2⟩ := back_num (a := a) (c := c) (by omega)
    have hs' := hs
    rw [Bool.and_eq_true] at hs'
    have B1 : floorB a c c = true := by unfold floorB; rw [e1, hs'.1, hs'.2]; simp; omega
    have B2 : ceilB a c c = true := by unfold ceilB; rw [e2, hs'.1, hs'.2]; simp; omega
    have H1 := Lib.hid (floor_as a c c a true (by rw [B1, e1]; rfl) B1)
    have H2 := Lib.hid (ceil_as a c c a true (by rw [B2, e2]; rfl) B2 ha)
    clear e1 e2 B1 B2 hs' ha
    go_enter Try.func7, Try.ntmps7
    go_wp2_with fail
    refine (H1.out _).mono ?_
    rintro e w1 ⟨rfl, hb1⟩
    go_wp2_with fail
    refine (H2.out _).mono ?_
    rintro e w2 ⟨rfl, hb2⟩
    go_wp2_with fail
    refine (small_2 _ _ _).mono ?_
    rintro e w3 ⟨rfl, rfl⟩
    go_wp2_with fail
    refine (alive_any _).mono ?_
    rintro e w4 ⟨rfl, hb4⟩
    go_wp2
    go_ret
    exact ⟨rfl, bstep (bstep (bstep hb1 hb2) (bnew _ _)) hb4⟩
  · have B1 : floorB a c c = false := by
      cases h : floorB a c c
      · rfl
      · obtain ⟨p1, _, p2, p3, _⟩ := floorB_parts h
        exact absurd ⟨by rw [p1, p2]; rfl, by omega⟩ hm
    have B2 : ceilB a c c = false := by
      cases h : ceilB a c c
      · rfl
      · obtain ⟨p1, _, p2, p3, _⟩ := ceilB_parts h
        exact absurd ⟨by rw [p1, p2]; rfl, by omega⟩ hm
    have H1 := Lib.hid (floor_as a c c 0 false (by rw [B1]; rfl) B1)
    have H2 := Lib.hid (ceil_as a c c 0 false (by rw [B2]; rfl) B2 ha)
    clear B1 B2 ha
    cases hs : (smallB a && smallB c)
    · clear hm
      go_enter Try.func7, Try.ntmps7
      go_wp2_with fail
      refine (H1.out _).mono ?_
      rintro e w1 ⟨rfl, hb1⟩
      go_wp2_with fail
      refine (H2.out _).mono ?_
      rintro e w2 ⟨rfl, hb2⟩
      go_wp2_with fail
      refine (small_2 _ _ _).mono ?_
      rintro e w3 ⟨rfl, rfl⟩
      go_wp2_with fail
      refine (alive_any _).mono ?_
      rintro e w4 ⟨rfl, hb4⟩
      go_wp2
      go_ret
      exact ⟨rfl, bstep (bstep (bstep hb1 hb2) (bnew _ _)) hb4⟩
    · have hc : c ≤ 0 := by
        have : ¬ 0 < c := fun h => hm ⟨hs, h⟩
        omega
      clear hm
      go_enter Try.func7, Try.ntmps7
      go_wp2_with fail
      refine (H1.out _).mono ?_
      rintro e w1 ⟨rfl, hb1⟩
      go_wp2_with fail
      refine (H2.out _).mono ?_
      rintro e w2 ⟨rfl, hb2⟩
      go_wp2_with fail
      refine (small_2 _ _ _).mono ?_
      rintro e w3 ⟨rfl, rfl⟩
      go_wp2_with fail
      refine (alive_any _).mono ?_
      rintro e w4 ⟨rfl, hb4⟩
      go_wp2
      go_ret
      exact ⟨rfl, bstep (bstep (bstep hb1 hb2) (bnew _ _)) hb4⟩

theorem floor_mono {a b x y : Int} (h : a ≤ b) (hx : 0 ≤ x) (hy : 1 ≤ y) : a * x / y ≤ b * x / y :=
  Int.ediv_le_ediv (by omega) (Int.mul_le_mul_of_nonneg_right h hx)

set_option maxHeartbeats 1000000 in
theorem order_walk (a b x y : Int) (w : World) :
    Calls Try.prog 8 #[.int .i64 a, .int .i64 b, .agg #[.int .i64 x, .int .i64 y]] w fun e w' => e = .returned (.bool true) ∧ Below w.heap.size w w' := by
  by_cases hab : b < a
  · go_enter Try.func8, Try.ntmps8
    go_wp2_with fail
    refine (alive_any _).mono ?_
    rintro e w1 ⟨rfl, hb1⟩
    go_wp2
    go_ret
    exact ⟨rfl, bstep (bnew _ _) hb1⟩
  · by_cases hx : x < 0
    · go_enter Try.func8, Try.ntmps8
      go_wp2_with fail
      refine (alive_any _).mono ?_
      rintro e w1 ⟨rfl, hb1⟩
      go_wp2
      go_ret
      exact ⟨rfl, bstep (bnew _ _) hb1⟩
    · obtain ⟨X, hX⟩ : ∃ X, told (floorB a x y) (a * x / y) = X := ⟨_, rfl⟩
      obtain ⟨B, hB⟩ : ∃ X, floorB a x y = X := ⟨_, rfl⟩
      obtain ⟨Y, hY⟩ : ∃ X, told (floorB b x y) (b * x / y) = X := ⟨_, rfl⟩
      obtain ⟨D, hD⟩ : ∃ X, floorB b x y = X := ⟨_, rfl⟩
      have hle : B = false ∨ D = false ∨ X ≤ Y := by
        cases B
        · exact .inl rfl
        · cases D
          · exact .inr (.inl rfl)
          · refine .inr (.inr ?_)
            rw [← hX, ← hY, hB, hD, told_true, told_true]
            exact floor_mono (by omega) (by omega) (floorB_parts hB).2.2.2.1
      have H1 := Lib.hid (floor_as a x y X B hX hB)
      have H2 := Lib.hid (floor_as b x y Y D hY hD)
      clear hX hB hY hD
      rcases hle with rfl | rfl | hle
      all_goals
        go_enter Try.func8, Try.ntmps8
        go_wp2_with fail
        refine (H1.out _).mono ?_
        rintro e w1 ⟨rfl, hb1⟩
        have k0 := (Holds.fresh w 32 #[.int .i64 x, .int .i64 y] rfl).kept hb1 (by simp)
        have c0 := k0.reads (i := 0) rfl
        have c1 := k0.reads (i := 1) rfl
        clear k0
        go_wp2_with fail
        refine (H2.out _).mono ?_
        rintro e w2 ⟨rfl, hb2⟩
        go_wp2_with fail
        refine (alive_any _).mono ?_
        rintro e w3 ⟨rfl, hb3⟩
      · go_wp2
        go_ret
        exact ⟨rfl, bstep (bstep (bstep (bnew _ _) hb1) hb2) hb3⟩
      · cases B
        all_goals
          go_wp2
          go_ret
          exact ⟨rfl, bstep (bstep (bstep (bnew _ _) hb1) hb2) hb3⟩
      · cases B
        · go_wp2
          go_ret
          exact ⟨rfl, bstep (bstep (bstep (bnew _ _) hb1) hb2) hb3⟩
        · cases D
          all_goals
            go_wp2
            go_ret
            exact ⟨rfl, bstep (bstep (bstep (bnew _ _) hb1) hb2) hb3⟩

theorem near_num {a b c : Int} (hc : 1 ≤ c) : (ceilN a b c = a * b / c ∧ (a * b).tmod c = 0) ∨ (ceilN a b c = a * b / c + 1 ∧ (a * b).tmod c ≠ 0) := by
  have h := neg_div hc (N := a * b) rfl rfl
  have h0 := Int.emod_nonneg (a * b) (show c ≠ 0 by omega)
  have hd : (a * b).tmod c = 0 ↔ (a * b) % c = 0 := by
    rw [← Int.dvd_iff_tmod_eq_zero, ← Int.dvd_iff_emod_eq_zero]
  unfold ceilN
  rw [h]
  split
  · right
    refine ⟨by omega, ?_⟩
    rw [Ne, hd]; omega
  · left
    refine ⟨by omega, ?_⟩
    rw [hd]; omega

end Go.Proofs.Ytanckimgmcbbmaa
