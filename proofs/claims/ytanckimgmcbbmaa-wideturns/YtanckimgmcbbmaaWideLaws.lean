/- The walks over the laws that speak of wide alone. -/
import Derived.Test.YtanckimgmcbbmaaWideAlive
namespace Go.Proofs.Ytanckimgmcbbmaa
open Go.RowKit

theorem addB_comm (a b : Int) : addB b a = addB a b := by
  unfold addB; rw [Int.add_comm b a]; cases smallB a <;> cases smallB b <;> rfl
theorem mulB_comm (a b : Int) : floorB b a 1 = floorB a b 1 := by
  unfold floorB; rw [Int.mul_comm b a]; cases smallB a <;> cases smallB b <;> rfl
theorem subB_comm (a b : Int) : subB b a = subB a b := by
  unfold subB
  have : smallB (b - a) = smallB (a - b) := by rw [← smallB_neg (a - b)]; congr 1; omega
  rw [this]; cases smallB a <;> cases smallB b <;> rfl
theorem told_sub (B : Bool) (a b : Int) : told B (a - b) = -told B (b - a) := by
  cases B <;> simp [told]; omega

theorem told_bd {B : Bool} {n : Int} (h : B = true → smallB n = true) : -4611686018427387904 ≤ told B n ∧ told B n ≤ 4611686018427387904 := by
  cases B
  · simp [told]
  · exact smallB_iff.1 (h rfl)

set_option maxHeartbeats 1000000 in
theorem turns_walk (a b : Int) (w : World) :
    Calls Try.prog 9 #[.int .i64 a, .int .i64 b] w fun e w' => e = .returned (.bool true) ∧ Below w.heap.size w w' := by
  obtain ⟨A, hA⟩ : ∃ A, A = told (addB a b) (a + b) := ⟨_, rfl⟩
  obtain ⟨Ab, hAb⟩ : ∃ A, A = addB a b := ⟨_, rfl⟩
  obtain ⟨M, hM⟩ : ∃ A, A = told (floorB a b 1) (a * b) := ⟨_, rfl⟩
  obtain ⟨Mb, hMb⟩ : ∃ A, A = floorB a b 1 := ⟨_, rfl⟩
  obtain ⟨D, hD⟩ : ∃ A, A = told (subB b a) (b - a) := ⟨_, rfl⟩
  obtain ⟨Db, hDb⟩ : ∃ A, A = subB a b := ⟨_, rfl⟩
  have hDbd : -4611686018427387904 ≤ D ∧ D ≤ 4611686018427387904 := by
    rw [hD]; exact told_bd (fun h => by unfold subB at h; simp only [Bool.and_eq_true] at h; exact h.2)
  obtain ⟨d1, d2⟩ := hDbd
  have c1 : ∀ w, Calls Try.prog 11 #[.int .i64 a, .int .i64 b] w fun e w' => e = .returned (.tuple #[.int .i64 A, .bool Ab]) ∧ Below w.heap.size w w' :=
    fun w => (add_any a b w).mono fun _ _ ⟨he, hb⟩ => ⟨he.trans (ret_ib hA.symm hAb.symm), hb⟩
  have c2 : ∀ w, Calls Try.prog 11 #[.int .i64 b, .int .i64 a] w fun e w' => e = .returned (.tuple #[.int .i64 A, .bool Ab]) ∧ Below w.heap.size w w' :=
    fun w => (add_any b a w).mono fun _ _ ⟨he, hb⟩ => ⟨he.trans (ret_ib (by rw [hA, addB_comm, Int.add_comm]) (by rw [hAb, addB_comm])), hb⟩
  have c3 : ∀ w, Calls Try.prog 15 #[.int .i64 a, .int .i64 b] w fun e w' => e = .returned (.tuple #[.int .i64 M, .bool Mb]) ∧ Below w.heap.size w w' :=
    fun w => (mul_any a b w).mono fun _ _ ⟨he, hb⟩ => ⟨he.trans (ret_ib hM.symm hMb.symm), hb⟩
  have c4 : ∀ w, Calls Try.prog 15 #[.int .i64 b, .int .i64 a] w fun e w' => e = .returned (.tuple #[.int .i64 M, .bool Mb]) ∧ Below w.heap.size w w' :=
    fun w => (mul_any b a w).mono fun _ _ ⟨he, hb⟩ => ⟨he.trans (ret_ib (by rw [hM, mulB_comm, Int.mul_comm]) (by rw [hMb, mulB_comm])), hb⟩
  have c5 : ∀ w, Calls Try.prog 13 #[.int .i64 a, .int .i64 b] w fun e w' => e = .returned (.tuple #[.int .i64 (-D), .bool Db]) ∧ Below w.heap.size w w' :=
    fun w => (sub_any a b w).mono fun _ _ ⟨he, hb⟩ => ⟨he.trans (ret_ib (by rw [hD, subB_comm, told_sub]) hDb.symm), hb⟩
  have c6 : ∀ w, Calls Try.prog 13 #[.int .i64 b, .int .i64 a] w fun e w' => e = .returned (.tuple #[.int .i64 D, .bool Db]) ∧ Below w.heap.size w w' :=
    fun w => (sub_any b a w).mono fun _ _ ⟨he, hb⟩ => ⟨he.trans (ret_ib hD.symm (by rw [hDb, subB_comm])), hb⟩
  clear hA hAb hM hMb hD hDb
  have C1 := Lib.hid c1
  have C2 := Lib.hid c2
  have C3 := Lib.hid c3
  have C4 := Lib.hid c4
  have C5 := Lib.hid c5
  have C6 := Lib.hid c6
  clear c1 c2 c3 c4 c5 c6
  go_enter Try.func9, Try.ntmps9
  go_wp2_with fail
  refine (C1.out _).mono ?_
  rintro e w1 ⟨rfl, hb1⟩
  go_wp2_with fail
  refine (C2.out _).mono ?_
  rintro e w2 ⟨rfl, hb2⟩
  go_wp2_with fail
  refine (C3.out _).mono ?_
  rintro e w3 ⟨rfl, hb3⟩
  go_wp2_with fail
  refine (C4.out _).mono ?_
  rintro e w4 ⟨rfl, hb4⟩
  go_wp2_with fail
  refine (C5.out _).mono ?_
  rintro e w5 ⟨rfl, hb5⟩
  go_wp2_with fail
  refine (C6.out _).mono ?_
  rintro e w6 ⟨rfl, hb6⟩
  go_wp2_with fail
  refine (alive_any _).mono ?_
  rintro e w7 ⟨rfl, hb7⟩
  go_wp2
  go_ret
  exact ⟨rfl, bstep (bstep (bstep (bstep (bstep (bstep hb1 hb2) hb3) hb4) hb5) hb6) hb7⟩

end Go.Proofs.Ytanckimgmcbbmaa
