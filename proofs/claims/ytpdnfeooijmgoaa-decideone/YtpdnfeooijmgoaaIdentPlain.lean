/- The walks over ident's Compare, Ports, Zero, Of, and the reference's. -/
import Derived.Test.YtpdnfeooijmgoaaIdentEq
import Derived.Deep.RegionHeld3
import Derived.RegionTactic
namespace Go.Proofs.Ytpdnfeooijmgoaa
set_option maxRecDepth 100000
open Go.RowKit
set_option linter.unusedVariables false

set_option maxHeartbeats 400000 in
theorem nan_byte (x : Int) (w : World) : Calls Try.prog 55 #[.int .u8 x] w fun e w' => e = .returned (.bool false) ∧ w = w' := by
  go_enter Try.func55, Try.ntmps55
  go_wp2
  go_ret
  exact ⟨by simp, rfl⟩
set_option maxHeartbeats 400000 in
theorem nan_int (x : Int) (w : World) : Calls Try.prog 54 #[.int .i64 x] w fun e w' => e = .returned (.bool false) ∧ w = w' := by
  go_enter Try.func54, Try.ntmps54
  go_wp2
  go_ret
  exact ⟨by simp, rfl⟩

set_option maxHeartbeats 400000 in
theorem cmp_byte (x y : Int) (w : World) : Calls Try.prog 53 #[.int .u8 x, .int .u8 y] w fun e w' => e = .returned (.int .i64 (cmpI x y)) ∧ w = w' := by
  have HI := Lib.hid (show cmpI x y = if x < y then -1 else if y < x then 1 else 0 from rfl)
  obtain ⟨v, hv⟩ : ∃ v, cmpI x y = v := ⟨_, rfl⟩
  rw [hv] at HI ⊢
  clear hv
  go_enter Try.func53, Try.ntmps53
  go_wp2_with fail
  refine (nan_byte x _).mono ?_
  rintro e w' ⟨rfl, rfl⟩
  go_wp2_with fail
  refine (nan_byte y _).mono ?_
  rintro e w' ⟨rfl, rfl⟩
  rcases Int.lt_trichotomy x y with h | h | h
  · have h1 : decide (x < y) = true := by simpa using h
    go_wp2
    go_ret
    exact ⟨ret_int (by rw [HI.out, if_pos h]), rfl⟩
  · subst h
    go_wp2
    go_ret
    exact ⟨ret_int (by rw [HI.out]; simp), rfl⟩
  · have h1 : decide (x < y) = false := by simp; omega
    have h2 : decide (y < x) = true := by simpa using h
    go_wp2
    go_ret
    exact ⟨ret_int (by rw [HI.out, if_neg (by omega), if_pos h]), rfl⟩
set_option maxHeartbeats 400000 in
theorem cmp_int (x y : Int) (w : World) : Calls Try.prog 52 #[.int .i64 x, .int .i64 y] w fun e w' => e = .returned (.int .i64 (cmpI x y)) ∧ w = w' := by
  have HI := Lib.hid (show cmpI x y = if x < y then -1 else if y < x then 1 else 0 from rfl)
  obtain ⟨v, hv⟩ : ∃ v, cmpI x y = v := ⟨_, rfl⟩
  rw [hv] at HI ⊢
  clear hv
  go_enter Try.func52, Try.ntmps52
  go_wp2_with fail
  refine (nan_int x _).mono ?_
  rintro e w' ⟨rfl, rfl⟩
  go_wp2_with fail
  refine (nan_int y _).mono ?_
  rintro e w' ⟨rfl, rfl⟩
  rcases Int.lt_trichotomy x y with h | h | h
  · have h1 : decide (x < y) = true := by simpa using h
    go_wp2
    go_ret
    exact ⟨ret_int (by rw [HI.out, if_pos h]), rfl⟩
  · subst h
    go_wp2
    go_ret
    exact ⟨ret_int (by rw [HI.out]; simp), rfl⟩
  · have h1 : decide (x < y) = false := by simp; omega
    have h2 : decide (y < x) = true := by simpa using h
    go_wp2
    go_ret
    exact ⟨ret_int (by rw [HI.out, if_neg (by omega), if_pos h]), rfl⟩

set_option maxHeartbeats 1000000 in
theorem compare_any (a b : Ck) (w : World) :
    Calls Try.prog 50 #[.agg #[.int .u8 a.b0, .int .u8 a.b1, .int .u8 a.b2, .int .u8 a.b3, .int .u8 a.b4, .int .u8 a.b5, .int .u8 a.b6, .int .u8 a.b7], .agg #[.int .u8 b.b0, .int .u8 b.b1, .int .u8 b.b2, .int .u8 b.b3, .int .u8 b.b4, .int .u8 b.b5, .int .u8 b.b6, .int .u8 b.b7]] w fun e w' => e = .returned (.int .i64 (cmpC a b)) ∧ Below w.heap.size w w' := by
  have K2 := Lib.hid ((Holds.fresh w 25 #[.int .u8 a.b0, .int .u8 a.b1, .int .u8 a.b2, .int .u8 a.b3, .int .u8 a.b4, .int .u8 a.b5, .int .u8 a.b6, .int .u8 a.b7] rfl).laid (.cells #[.int .u8 b.b0, .int .u8 b.b1, .int .u8 b.b2, .int .u8 b.b3, .int .u8 b.b4, .int .u8 b.b5, .int .u8 b.b6, .int .u8 b.b7] 25))
  have K3 := Lib.hid (Holds.fresh (w.alloc (.cells #[.int .u8 a.b0, .int .u8 a.b1, .int .u8 a.b2, .int .u8 a.b3, .int .u8 a.b4, .int .u8 a.b5, .int .u8 a.b6, .int .u8 a.b7] 25)) 25 #[.int .u8 b.b0, .int .u8 b.b1, .int .u8 b.b2, .int .u8 b.b3, .int .u8 b.b4, .int .u8 b.b5, .int .u8 b.b6, .int .u8 b.b7] (g := w.heap.size + 1) (by simp))
  have HB := Lib.hid (bstep (bnew w (.cells #[.int .u8 a.b0, .int .u8 a.b1, .int .u8 a.b2, .int .u8 a.b3, .int .u8 a.b4, .int .u8 a.b5, .int .u8 a.b6, .int .u8 a.b7] 25)) (bnew _ (.cells #[.int .u8 b.b0, .int .u8 b.b1, .int .u8 b.b2, .int .u8 b.b3, .int .u8 b.b4, .int .u8 b.b5, .int .u8 b.b6, .int .u8 b.b7] 25)))
  go_enter Try.func50, Try.ntmps50
  go_wp2
  generalize (w.alloc (.cells #[.int .u8 a.b0, .int .u8 a.b1, .int .u8 a.b2, .int .u8 a.b3, .int .u8 a.b4, .int .u8 a.b5, .int .u8 a.b6, .int .u8 a.b7] 25)).alloc (.cells #[.int .u8 b.b0, .int .u8 b.b1, .int .u8 b.b2, .int .u8 b.b3, .int .u8 b.b4, .int .u8 b.b5, .int .u8 b.b6, .int .u8 b.b7] 25) = W at *
  go_loopw [7] (fun i v => ∃ k : Nat, k ≤ 8 ∧ i = .int .i64 k ∧ Hid (cmpC a b = cmpL (a.l.drop k) (b.l.drop k)) ∧ Hid (Holds v w.heap.size 25 #[.int .u8 a.b0, .int .u8 a.b1, .int .u8 a.b2, .int .u8 a.b3, .int .u8 a.b4, .int .u8 a.b5, .int .u8 a.b6, .int .u8 a.b7]) ∧ Hid (Holds v (w.heap.size + 1) 25 #[.int .u8 b.b0, .int .u8 b.b1, .int .u8 b.b2, .int .u8 b.b3, .int .u8 b.b4, .int .u8 b.b5, .int .u8 b.b6, .int .u8 b.b7]) ∧ Hid (Below w.heap.size w v)) (fun i _ => 8 - (intOf i).toNat)
  case atStart => exact ⟨0, by omega, rfl, Lib.hid rfl, K2, K3, HB⟩
  case round =>
    clear K2 K3 HB
    rename_i V
    obtain ⟨k, hk, rfl, HC, K2, K3, HB⟩ := hrel
    by_cases hlt : k < 8
    · obtain ⟨x, HX⟩ : ∃ x, Hid (a.l.getD k 0 = x) := ⟨_, Lib.hid rfl⟩
      obtain ⟨y, HY⟩ : ∃ x, Hid (b.l.getD k 0 = x) := ⟨_, Lib.hid rfl⟩
      have c2 := Ck.cell K2.out hlt
      have c3 := Ck.cell K3.out hlt
      rw [HX.out] at c2
      rw [HY.out] at c3
      have HS := Lib.hid (cmpL_step a b hlt)
      rw [HX.out, HY.out, ← HC.out] at HS
      obtain ⟨m, HM⟩ : ∃ m, Hid (cmpI x y = m) := ⟨_, Lib.hid rfl⟩
      have CM : Hid (∀ v, Calls Try.prog 53 #[.int .u8 x, .int .u8 y] v fun e w' => e = .returned (.int .i64 m) ∧ v = w') := by rw [← HM.out]; exact cmp_byte x y
      go_wp2
      go_quiet ((go_at_call 53; exact quiet_same (CM.out _)))
      clear CM c2 c3
      by_cases hm : m = 0
      · have h0 : (m != 0) = false := by simp [hm]
        have HM0 := Lib.hid hm
        clear hm
        go_wp2
        go_roundw
        case rel =>
          refine ⟨k + 1, by omega, by go_num, ?_, (K2.out).drawn _, (K3.out).drawn _, bdrawn HB.out _⟩
          have h1 := HM.out
          rw [HM0.out, cmpI_zero] at h1
          rw [Hid, HS.out, h1, if_neg (by omega), if_neg (by omega)]
        case measure => simp [intOf]; omega
      · have h0 : (m != 0) = true := by simp [hm]
        have HM0 := Lib.hid hm
        clear hm
        go_wp2
        go_ret
        refine ⟨ret_int ?_, bdrawn HB.out _⟩
        have h1 := HM.out
        have h2 := HM0.out
        rw [HS.out]
        unfold cmpI at h1
        split at h1
        · rename_i hlt'; rw [if_pos hlt']; exact h1.symm
        · rename_i hlt'
          rw [if_neg hlt']
          split at h1
          · rename_i hgt; rw [if_pos hgt]; exact h1.symm
          · exact absurd h1.symm h2
    · go_wp2
      go_ret
      exact ⟨ret_int (by rw [HC.out, cmpL_done a b (by omega)]), HB.out⟩

set_option maxHeartbeats 400000 in
theorem ports_any (a b : Pt) (w : World) (ha : a.c.ok) (hb : b.c.ok) :
    Calls Try.prog 51 #[.agg #[.int .u8 a.c.b0, .int .u8 a.c.b1, .int .u8 a.c.b2, .int .u8 a.c.b3, .int .u8 a.c.b4, .int .u8 a.c.b5, .int .u8 a.c.b6, .int .u8 a.c.b7, .int .i64 a.n], .agg #[.int .u8 b.c.b0, .int .u8 b.c.b1, .int .u8 b.c.b2, .int .u8 b.c.b3, .int .u8 b.c.b4, .int .u8 b.c.b5, .int .u8 b.c.b6, .int .u8 b.c.b7, .int .i64 b.n]] w fun e w' => e = .returned (.int .i64 (cmpP a b)) ∧ Below w.heap.size w w' := by
  have heq := eql_clock a.c b.c
  cases hE : eqC a.c b.c
  · have H := Lib.hid (cmpP_other ha hb hE)
    rw [hE] at heq
    clear hE ha hb
    go_enter Try.func51, Try.ntmps51
    go_wp2_with fail
    refine (compare_any a.c b.c _).mono ?_
    rintro e w1 ⟨rfl, hb1⟩
    go_wp2
    go_ret
    exact ⟨ret_int H.out.symm, bstep (bstep (bnew _ _) (bnew _ _)) hb1⟩
  · have H := Lib.hid (cmpP_same hE)
    rw [hE] at heq
    clear hE ha hb
    go_enter Try.func51, Try.ntmps51
    go_wp2_with fail
    refine (cmp_int a.n b.n _).mono ?_
    rintro e w1 ⟨rfl, rfl⟩
    go_wp2
    go_ret
    exact ⟨ret_int H.out.symm, bstep (bnew _ _) (bnew _ _)⟩

/-- the clock of a card -/
def ofC (m0 m1 m2 m3 m4 m5 : Int) : Ck := ⟨m0, m1, m2, 255, 254, m3, m4, m5⟩

end Go.Proofs.Ytpdnfeooijmgoaa
