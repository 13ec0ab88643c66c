/- Ports compared: behind it the world has but new blocks, and draws; bits.Len of small numbers. -/
import Derived.Test.YtnddmaadmibpeaaIdentPlain
import Derived.Test.YtnddmaadmibpeaaForeignMap
import Derived.Sort.Grow
namespace Go.Proofs.Ytnddmaadmibpeaa
set_option maxRecDepth 100000
open Go.RowKit Go.Sort
set_option linter.unusedVariables false

/-- new blocks, and draws, and nothing else -/
def Grown (w v : World) : Prop := ∃ q os, v = Go.Sort.grow (w.drewN q) os
theorem gnew (w : World) (o : Obj) : Grown w (w.alloc o) := ⟨0, #[o], by rw [alloc_eq_grow]; rfl⟩
theorem gdrawn {a w : World} (h : Grown a w) (n : Nat) : Grown a (w.drewN n) := by
  obtain ⟨q, os, rfl⟩ := h
  exact ⟨q + n, os, by simp [Go.Sort.grow, World.drewN, Nat.add_assoc]⟩
theorem gstep {w v u : World} (h : Grown w v) (k : Grown v u) : Grown w u := by
  obtain ⟨q, os, rfl⟩ := h
  obtain ⟨q', os', rfl⟩ := k
  exact ⟨q + q', os ++ os', by simp [Go.Sort.grow, World.drewN, Nat.add_assoc, Array.append_assoc]⟩
theorem Grown.below {w v : World} (h : Grown w v) : Below w.heap.size w v := by
  obtain ⟨q, os, rfl⟩ := h
  refine ⟨rfl, rfl, rfl, by simp [Go.Sort.grow, World.drewN], fun k hk => ?_⟩
  show (w.heap ++ os)[k]? = w.heap[k]?
  exact Array.getElem?_append_left hk
set_option maxHeartbeats 1000000 in
theorem compare_grown (a b : Ck) (w : World) :
    Calls Try.prog 32 #[.agg #[.int .u8 a.b0, .int .u8 a.b1, .int .u8 a.b2, .int .u8 a.b3, .int .u8 a.b4, .int .u8 a.b5, .int .u8 a.b6, .int .u8 a.b7], .agg #[.int .u8 b.b0, .int .u8 b.b1, .int .u8 b.b2, .int .u8 b.b3, .int .u8 b.b4, .int .u8 b.b5, .int .u8 b.b6, .int .u8 b.b7]] w fun e w' => e = .returned (.int .i64 (cmpC a b)) ∧ Grown w w' := by
  have K2 := Lib.hid ((Holds.fresh w 23 #[.int .u8 a.b0, .int .u8 a.b1, .int .u8 a.b2, .int .u8 a.b3, .int .u8 a.b4, .int .u8 a.b5, .int .u8 a.b6, .int .u8 a.b7] rfl).laid (.cells #[.int .u8 b.b0, .int .u8 b.b1, .int .u8 b.b2, .int .u8 b.b3, .int .u8 b.b4, .int .u8 b.b5, .int .u8 b.b6, .int .u8 b.b7] 23))
  have K3 := Lib.hid (Holds.fresh (w.alloc (.cells #[.int .u8 a.b0, .int .u8 a.b1, .int .u8 a.b2, .int .u8 a.b3, .int .u8 a.b4, .int .u8 a.b5, .int .u8 a.b6, .int .u8 a.b7] 23)) 23 #[.int .u8 b.b0, .int .u8 b.b1, .int .u8 b.b2, .int .u8 b.b3, .int .u8 b.b4, .int .u8 b.b5, .int .u8 b.b6, .int .u8 b.b7] (g := w.heap.size + 1) (by simp))
  have HB := Lib.hid (gstep (gnew w (.cells #[.int .u8 a.b0, .int .u8 a.b1, .int .u8 a.b2, .int .u8 a.b3, .int .u8 a.b4, .int .u8 a.b5, .int .u8 a.b6, .int .u8 a.b7] 23)) (gnew _ (.cells #[.int .u8 b.b0, .int .u8 b.b1, .int .u8 b.b2, .int .u8 b.b3, .int .u8 b.b4, .int .u8 b.b5, .int .u8 b.b6, .int .u8 b.b7] 23)))
  go_enter Try.func32, Try.ntmps32
  go_wp2
  generalize (w.alloc (.cells #[.int .u8 a.b0, .int .u8 a.b1, .int .u8 a.b2, .int .u8 a.b3, .int .u8 a.b4, .int .u8 a.b5, .int .u8 a.b6, .int .u8 a.b7] 23)).alloc (.cells #[.int .u8 b.b0, .int .u8 b.b1, .int .u8 b.b2, .int .u8 b.b3, .int .u8 b.b4, .int .u8 b.b5, .int .u8 b.b6, .int .u8 b.b7] 23) = W at *
  go_loopw [7] (fun i v => ∃ k : Nat, k ≤ 8 ∧ i = .int .i64 k ∧ Hid (cmpC a b = cmpL (a.l.drop k) (b.l.drop k)) ∧ Hid (Holds v w.heap.size 23 #[.int .u8 a.b0, .int .u8 a.b1, .int .u8 a.b2, .int .u8 a.b3, .int .u8 a.b4, .int .u8 a.b5, .int .u8 a.b6, .int .u8 a.b7]) ∧ Hid (Holds v (w.heap.size + 1) 23 #[.int .u8 b.b0, .int .u8 b.b1, .int .u8 b.b2, .int .u8 b.b3, .int .u8 b.b4, .int .u8 b.b5, .int .u8 b.b6, .int .u8 b.b7]) ∧ Hid (Grown w v)) (fun i _ => 8 - (intOf i).toNat)
  case atStart => exact ⟨0, by omega, rfl, Lib.hid rfl, K2, K3, HB⟩
  case round =>
    clear K2 K3 HB
    rename_i V
    obtain ⟨k, hk, rfl, HC, K2, K3, HB⟩ := hrel
    by_cases hlt : k < 8
    · obtain ⟨x, HX⟩ : ∃ x, Hid (a.l.getD k 0 = x) := ⟨_, Lib.hid rfl⟩
      obtain ⟨y, HY⟩ : ∃ x, Hid (b.l.getD k 0 = x) := ⟨_, Lib.hid rfl⟩
      have c2 := Ck.cell K2.out hlt
      have c3 := Ck.cell K3.out hlt
      rw [HX.out] at c2
      rw [HY.out] at c3
      have HS := Lib.hid (cmpL_step a b hlt)
      rw [HX.out, HY.out, ← HC.out] at HS
      obtain ⟨m, HM⟩ : ∃ m, Hid (cmpI x y = m) := ⟨_, Lib.hid rfl⟩
      have CM : Hid (∀ v, Calls Try.prog 41 #[.int .u8 x, .int .u8 y] v fun e w' => e = .returned (.int .i64 m) ∧ v = w') := by rw [← HM.out]; exact cmp_byte x y
      go_wp2
      go_quiet ((go_at_call 41; exact quiet_same (CM.out _)))
      clear CM c2 c3
      by_cases hm : m = 0
      · have h0 : (m != 0) = false := by simp [hm]
        have HM0 := Lib.hid hm
        clear hm
        go_wp2
        go_roundw
        case rel =>
          refine ⟨k + 1, by omega, by go_num, ?_, (K2.out).drawn _, (K3.out).drawn _, gdrawn HB.out _⟩
          have h1 := HM.out
          rw [HM0.out, cmpI_zero] at h1
          rw [Hid, HS.out, h1, if_neg (by omega), if_neg (by omega)]
        case measure => simp [intOf]; omega
      · have h0 : (m != 0) = true := by simp [hm]
        have HM0 := Lib.hid hm
        clear hm
        go_wp2
        go_ret
        refine ⟨ret_int ?_, gdrawn HB.out _⟩
        have h1 := HM.out
        have h2 := HM0.out
        rw [HS.out]
        unfold cmpI at h1
        split at h1
        · rename_i hlt'; rw [if_pos hlt']; exact h1.symm
        · rename_i hlt'
          rw [if_neg hlt']
          split at h1
          · rename_i hgt; rw [if_pos hgt]; exact h1.symm
          · exact absurd h1.symm h2
    · go_wp2
      go_ret
      exact ⟨ret_int (by rw [HC.out, cmpL_done a b (by omega)]), HB.out⟩

set_option maxHeartbeats 400000 in
theorem ports_grown (a b : Pt) (w : World) (ha : a.c.ok) (hb : b.c.ok) :
    Calls Try.prog 26 #[.agg #[.int .u8 a.c.b0, .int .u8 a.c.b1, .int .u8 a.c.b2, .int .u8 a.c.b3, .int .u8 a.c.b4, .int .u8 a.c.b5, .int .u8 a.c.b6, .int .u8 a.c.b7, .int .i64 a.n], .agg #[.int .u8 b.c.b0, .int .u8 b.c.b1, .int .u8 b.c.b2, .int .u8 b.c.b3, .int .u8 b.c.b4, .int .u8 b.c.b5, .int .u8 b.c.b6, .int .u8 b.c.b7, .int .i64 b.n]] w fun e w' => e = .returned (.int .i64 (cmpP a b)) ∧ Grown w w' := by
  have heq := eql_clock a.c b.c
  cases hE : eqC a.c b.c
  · have H := Lib.hid (cmpP_other ha hb hE)
    rw [hE] at heq
    clear hE ha hb
    go_enter Try.func26, Try.ntmps26
    go_wp2_with fail
    refine (compare_grown a.c b.c _).mono ?_
    rintro e w1 ⟨rfl, hb1⟩
    go_wp2
    go_ret
    exact ⟨ret_int H.out.symm, gstep (gstep (gnew _ _) (gnew _ _)) hb1⟩
  · have H := Lib.hid (cmpP_same hE)
    rw [hE] at heq
    clear hE ha hb
    go_enter Try.func26, Try.ntmps26
    go_wp2_with fail
    refine (cmp_int a.n b.n _).mono ?_
    rintro e w1 ⟨rfl, rfl⟩
    go_wp2
    go_ret
    exact ⟨ret_int H.out.symm, gstep (gnew _ _) (gnew _ _)⟩

theorem len64_0 (w : World) : Calls Try.prog 52 #[.int .u64 0] w fun e w' => (∃ l : Int, e = .returned (.int .i64 l)) ∧ w = w' := by
  go_enter Try.func52, Try.ntmps52
  go_wp2
  go_ret
  exact ⟨⟨_, rfl⟩, rfl⟩
theorem len64_1 (w : World) : Calls Try.prog 52 #[.int .u64 1] w fun e w' => (∃ l : Int, e = .returned (.int .i64 l)) ∧ w = w' := by
  go_enter Try.func52, Try.ntmps52
  go_wp2
  go_ret
  exact ⟨⟨_, rfl⟩, rfl⟩
theorem len64_2 (w : World) : Calls Try.prog 52 #[.int .u64 2] w fun e w' => (∃ l : Int, e = .returned (.int .i64 l)) ∧ w = w' := by
  go_enter Try.func52, Try.ntmps52
  go_wp2
  go_ret
  exact ⟨⟨_, rfl⟩, rfl⟩
theorem len64_3 (w : World) : Calls Try.prog 52 #[.int .u64 3] w fun e w' => (∃ l : Int, e = .returned (.int .i64 l)) ∧ w = w' := by
  go_enter Try.func52, Try.ntmps52
  go_wp2
  go_ret
  exact ⟨⟨_, rfl⟩, rfl⟩
theorem len64_4 (w : World) : Calls Try.prog 52 #[.int .u64 4] w fun e w' => (∃ l : Int, e = .returned (.int .i64 l)) ∧ w = w' := by
  go_enter Try.func52, Try.ntmps52
  go_wp2
  go_ret
  exact ⟨⟨_, rfl⟩, rfl⟩
theorem len64_5 (w : World) : Calls Try.prog 52 #[.int .u64 5] w fun e w' => (∃ l : Int, e = .returned (.int .i64 l)) ∧ w = w' := by
  go_enter Try.func52, Try.ntmps52
  go_wp2
  go_ret
  exact ⟨⟨_, rfl⟩, rfl⟩
theorem len64_6 (w : World) : Calls Try.prog 52 #[.int .u64 6] w fun e w' => (∃ l : Int, e = .returned (.int .i64 l)) ∧ w = w' := by
  go_enter Try.func52, Try.ntmps52
  go_wp2
  go_ret
  exact ⟨⟨_, rfl⟩, rfl⟩
theorem len64_7 (w : World) : Calls Try.prog 52 #[.int .u64 7] w fun e w' => (∃ l : Int, e = .returned (.int .i64 l)) ∧ w = w' := by
  go_enter Try.func52, Try.ntmps52
  go_wp2
  go_ret
  exact ⟨⟨_, rfl⟩, rfl⟩
theorem len64_8 (w : World) : Calls Try.prog 52 #[.int .u64 8] w fun e w' => (∃ l : Int, e = .returned (.int .i64 l)) ∧ w = w' := by
  go_enter Try.func52, Try.ntmps52
  go_wp2
  go_ret
  exact ⟨⟨_, rfl⟩, rfl⟩
theorem len64_9 (w : World) : Calls Try.prog 52 #[.int .u64 9] w fun e w' => (∃ l : Int, e = .returned (.int .i64 l)) ∧ w = w' := by
  go_enter Try.func52, Try.ntmps52
  go_wp2
  go_ret
  exact ⟨⟨_, rfl⟩, rfl⟩
theorem len64_10 (w : World) : Calls Try.prog 52 #[.int .u64 10] w fun e w' => (∃ l : Int, e = .returned (.int .i64 l)) ∧ w = w' := by
  go_enter Try.func52, Try.ntmps52
  go_wp2
  go_ret
  exact ⟨⟨_, rfl⟩, rfl⟩
theorem len64_11 (w : World) : Calls Try.prog 52 #[.int .u64 11] w fun e w' => (∃ l : Int, e = .returned (.int .i64 l)) ∧ w = w' := by
  go_enter Try.func52, Try.ntmps52
  go_wp2
  go_ret
  exact ⟨⟨_, rfl⟩, rfl⟩
theorem len64_12 (w : World) : Calls Try.prog 52 #[.int .u64 12] w fun e w' => (∃ l : Int, e = .returned (.int .i64 l)) ∧ w = w' := by
  go_enter Try.func52, Try.ntmps52
  go_wp2
  go_ret
  exact ⟨⟨_, rfl⟩, rfl⟩
theorem len64_any (n : Nat) (w : World) (h : n ≤ 12) : Calls Try.prog 52 #[.int .u64 n] w fun e w' => (∃ l : Int, e = .returned (.int .i64 l)) ∧ w = w' := by
  obtain rfl | rfl | rfl | rfl | rfl | rfl | rfl | rfl | rfl | rfl | rfl | rfl | rfl : n = 0 ∨ n = 1 ∨ n = 2 ∨ n = 3 ∨ n = 4 ∨ n = 5 ∨ n = 6 ∨ n = 7 ∨ n = 8 ∨ n = 9 ∨ n = 10 ∨ n = 11 ∨ n = 12 := by omega
  · exact len64_0 w
  · exact len64_1 w
  · exact len64_2 w
  · exact len64_3 w
  · exact len64_4 w
  · exact len64_5 w
  · exact len64_6 w
  · exact len64_7 w
  · exact len64_8 w
  · exact len64_9 w
  · exact len64_10 w
  · exact len64_11 w
  · exact len64_12 w
theorem len_any (n : Nat) (w : World) (h : n ≤ 12) : Calls Try.prog 39 #[.int .u64 n] w fun e w' => (∃ l : Int, e = .returned (.int .i64 l)) ∧ w' = w := by
  go_enter Try.func39, Try.ntmps39
  go_wp2_with fail
  refine (len64_any n _ h).mono ?_
  rintro e w1 ⟨⟨l, rfl⟩, rfl⟩
  go_wp2
  go_ret
  exact ⟨⟨l, rfl⟩, rfl⟩

end Go.Proofs.Ytnddmaadmibpeaa
