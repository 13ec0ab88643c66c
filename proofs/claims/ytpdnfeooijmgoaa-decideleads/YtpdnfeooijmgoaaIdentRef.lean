/- The walks over the reference's Compare, Ports, Of of layer 4. -/
import Derived.Test.YtpdnfeooijmgoaaIdentPlain
namespace Go.Proofs.Ytpdnfeooijmgoaa
set_option maxRecDepth 100000
open Go.RowKit
set_option linter.unusedVariables false

set_option maxHeartbeats 1000000 in
theorem rcompare_any (a b : Ck) (w : World) :
    Calls Try.prog 38 #[.agg #[.int .u8 a.b0, .int .u8 a.b1, .int .u8 a.b2, .int .u8 a.b3, .int .u8 a.b4, .int .u8 a.b5, .int .u8 a.b6, .int .u8 a.b7], .agg #[.int .u8 b.b0, .int .u8 b.b1, .int .u8 b.b2, .int .u8 b.b3, .int .u8 b.b4, .int .u8 b.b5, .int .u8 b.b6, .int .u8 b.b7]] w fun e w' => e = .returned (.int .i64 (cmpC a b)) ∧ Below w.heap.size w w' := by
  have K2 := Lib.hid ((Holds.fresh w 25 #[.int .u8 a.b0, .int .u8 a.b1, .int .u8 a.b2, .int .u8 a.b3, .int .u8 a.b4, .int .u8 a.b5, .int .u8 a.b6, .int .u8 a.b7] rfl).laid (.cells #[.int .u8 b.b0, .int .u8 b.b1, .int .u8 b.b2, .int .u8 b.b3, .int .u8 b.b4, .int .u8 b.b5, .int .u8 b.b6, .int .u8 b.b7] 25))
  have K3 := Lib.hid (Holds.fresh (w.alloc (.cells #[.int .u8 a.b0, .int .u8 a.b1, .int .u8 a.b2, .int .u8 a.b3, .int .u8 a.b4, .int .u8 a.b5, .int .u8 a.b6, .int .u8 a.b7] 25)) 25 #[.int .u8 b.b0, .int .u8 b.b1, .int .u8 b.b2, .int .u8 b.b3, .int .u8 b.b4, .int .u8 b.b5, .int .u8 b.b6, .int .u8 b.b7] (g := w.heap.size + 1) (by simp))
  have HB := Lib.hid (bstep (bnew w (.cells #[.int .u8 a.b0, .int .u8 a.b1, .int .u8 a.b2, .int .u8 a.b3, .int .u8 a.b4, .int .u8 a.b5, .int .u8 a.b6, .int .u8 a.b7] 25)) (bnew _ (.cells #[.int .u8 b.b0, .int .u8 b.b1, .int .u8 b.b2, .int .u8 b.b3, .int .u8 b.b4, .int .u8 b.b5, .int .u8 b.b6, .int .u8 b.b7] 25)))
  go_enter Try.func38, Try.ntmps38
  go_wp2
  generalize (w.alloc (.cells #[.int .u8 a.b0, .int .u8 a.b1, .int .u8 a.b2, .int .u8 a.b3, .int .u8 a.b4, .int .u8 a.b5, .int .u8 a.b6, .int .u8 a.b7] 25)).alloc (.cells #[.int .u8 b.b0, .int .u8 b.b1, .int .u8 b.b2, .int .u8 b.b3, .int .u8 b.b4, .int .u8 b.b5, .int .u8 b.b6, .int .u8 b.b7] 25) = W at *
  go_loopw [5] (fun i v => ∃ k : Nat, k ≤ 8 ∧ i = .int .i64 k ∧ Hid (cmpC a b = cmpL (a.l.drop k) (b.l.drop k)) ∧ Hid (Holds v w.heap.size 25 #[.int .u8 a.b0, .int .u8 a.b1, .int .u8 a.b2, .int .u8 a.b3, .int .u8 a.b4, .int .u8 a.b5, .int .u8 a.b6, .int .u8 a.b7]) ∧ Hid (Holds v (w.heap.size + 1) 25 #[.int .u8 b.b0, .int .u8 b.b1, .int .u8 b.b2, .int .u8 b.b3, .int .u8 b.b4, .int .u8 b.b5, .int .u8 b.b6, .int .u8 b.b7]) ∧ Hid (Below w.heap.size w v)) (fun i _ => 8 - (intOf i).toNat)
  case atStart => exact ⟨0, by omega, rfl, Lib.hid rfl, K2, K3, HB⟩
  case round =>
    clear K2 K3 HB
    rename_i V
    obtain ⟨k, hk, rfl, HC, K2, K3, HB⟩ := hrel
    by_cases hlt : k < 8
    · obtain ⟨x, HX⟩ : ∃ x, Hid (a.l.getD k 0 = x) := ⟨_, Lib.hid rfl⟩
      obtain ⟨y, HY⟩ : ∃ x, Hid (b.l.getD k 0 = x) := ⟨_, Lib.hid rfl⟩
      have c2 := Ck.cell K2.out hlt
      have c3 := Ck.cell K3.out hlt
      rw [HX.out] at c2
      rw [HY.out] at c3
      have HS := Lib.hid (cmpL_step a b hlt)
      rw [HX.out, HY.out, ← HC.out] at HS
      go_wp2
      rcases Int.lt_trichotomy x y with h | h | h
      · have h1 : decide (x < y) = true := by simpa using h
        go_quiet (fail)
        go_wp2
        go_ret
        exact ⟨ret_int (by rw [HS.out, if_pos h]), bdrawn HB.out _⟩
      · subst h
        go_quiet (fail)
        go_wp2
        go_quiet (fail)
        go_wp2
        go_roundw
        case rel =>
          refine ⟨k + 1, by omega, by go_num, ?_, (K2.out).drawn _, (K3.out).drawn _, bdrawn HB.out _⟩
          rw [Hid, HS.out, if_neg (by omega), if_neg (by omega)]
        case measure => simp [intOf]; omega
      · have h1 : decide (x < y) = false := by simp; omega
        have h2 : decide (y < x) = true := by simpa using h
        go_quiet (fail)
        go_wp2
        go_quiet (fail)
        go_wp2
        go_ret
        exact ⟨ret_int (by rw [HS.out, if_neg (by omega), if_pos h]), bdrawn (bdrawn HB.out _) _⟩
    · go_wp2
      go_ret
      exact ⟨ret_int (by rw [HC.out, cmpL_done a b (by omega)]), HB.out⟩

set_option maxHeartbeats 400000 in
theorem rports_any (a b : Pt) (w : World) (ha : a.c.ok) (hb : b.c.ok) :
    Calls Try.prog 39 #[.agg #[.int .u8 a.c.b0, .int .u8 a.c.b1, .int .u8 a.c.b2, .int .u8 a.c.b3, .int .u8 a.c.b4, .int .u8 a.c.b5, .int .u8 a.c.b6, .int .u8 a.c.b7, .int .i64 a.n], .agg #[.int .u8 b.c.b0, .int .u8 b.c.b1, .int .u8 b.c.b2, .int .u8 b.c.b3, .int .u8 b.c.b4, .int .u8 b.c.b5, .int .u8 b.c.b6, .int .u8 b.c.b7, .int .i64 b.n]] w fun e w' => e = .returned (.int .i64 (cmpP a b)) ∧ Below w.heap.size w w' := by
  obtain ⟨m, HM⟩ : ∃ m, Hid (cmpC a.c b.c = m) := ⟨_, Lib.hid rfl⟩
  have K2 := Lib.hid ((Holds.fresh w 27 #[.int .u8 a.c.b0, .int .u8 a.c.b1, .int .u8 a.c.b2, .int .u8 a.c.b3, .int .u8 a.c.b4, .int .u8 a.c.b5, .int .u8 a.c.b6, .int .u8 a.c.b7, .int .i64 a.n] rfl).laid (.cells #[.int .u8 b.c.b0, .int .u8 b.c.b1, .int .u8 b.c.b2, .int .u8 b.c.b3, .int .u8 b.c.b4, .int .u8 b.c.b5, .int .u8 b.c.b6, .int .u8 b.c.b7, .int .i64 b.n] 27))
  have K3 := Lib.hid (Holds.fresh (w.alloc (.cells #[.int .u8 a.c.b0, .int .u8 a.c.b1, .int .u8 a.c.b2, .int .u8 a.c.b3, .int .u8 a.c.b4, .int .u8 a.c.b5, .int .u8 a.c.b6, .int .u8 a.c.b7, .int .i64 a.n] 27)) 27 #[.int .u8 b.c.b0, .int .u8 b.c.b1, .int .u8 b.c.b2, .int .u8 b.c.b3, .int .u8 b.c.b4, .int .u8 b.c.b5, .int .u8 b.c.b6, .int .u8 b.c.b7, .int .i64 b.n] (g := w.heap.size + 1) (by simp))
  have HB := Lib.hid (bstep (bnew w (.cells #[.int .u8 a.c.b0, .int .u8 a.c.b1, .int .u8 a.c.b2, .int .u8 a.c.b3, .int .u8 a.c.b4, .int .u8 a.c.b5, .int .u8 a.c.b6, .int .u8 a.c.b7, .int .i64 a.n] 27)) (bnew _ (.cells #[.int .u8 b.c.b0, .int .u8 b.c.b1, .int .u8 b.c.b2, .int .u8 b.c.b3, .int .u8 b.c.b4, .int .u8 b.c.b5, .int .u8 b.c.b6, .int .u8 b.c.b7, .int .i64 b.n] 27)))
  clear ha hb
  go_enter Try.func39, Try.ntmps39
  go_wp2_with fail
  refine (rcompare_any a.c b.c _).mono ?_
  rintro e w1 ⟨rfl, hb1⟩
  replace K2 := Lib.hid ((K2.out).kept hb1 (K2.out).inside)
  replace K3 := Lib.hid ((K3.out).kept hb1 (K3.out).inside)
  replace HB := Lib.hid (bstep HB.out hb1)
  rw [HM.out]
  clear hb1
  have c2 := (K2.out).reads (i := 8) rfl
  have c3 := (K3.out).reads (i := 8) rfl
  by_cases hm : m = 0
  · subst hm
    have H : Hid (cmpP a b = cmpI a.n b.n) := by rw [Hid, cmpP, HM.out, if_pos rfl]
    rcases Int.lt_trichotomy a.n b.n with h | h | h
    · have h1 : decide (a.n < b.n) = true := by simpa using h
      go_wp2
      go_ret
      exact ⟨ret_int (by rw [H.out, cmpI, if_pos h]), HB.out⟩
    · have h1 : decide (a.n < b.n) = false := by simp; omega
      have h2 : decide (b.n < a.n) = false := by simp; omega
      have H0 := Lib.hid h
      clear h
      go_wp2
      go_ret
      exact ⟨ret_int (by rw [H.out, H0.out]; simp [cmpI]), HB.out⟩
    · have h1 : decide (a.n < b.n) = false := by simp; omega
      have h2 : decide (b.n < a.n) = true := by simpa using h
      go_wp2
      go_ret
      exact ⟨ret_int (by rw [H.out, cmpI, if_neg (by omega), if_pos h]), HB.out⟩
  · have H : Hid (cmpP a b = m) := by rw [Hid, cmpP, HM.out, if_neg hm]
    have h0 : (m != 0) = true := by simp [hm]
    clear hm
    go_wp2
    go_ret
    exact ⟨ret_int H.out.symm, HB.out⟩

end Go.Proofs.Ytpdnfeooijmgoaa
