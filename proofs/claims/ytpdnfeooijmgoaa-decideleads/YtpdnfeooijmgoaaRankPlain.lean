/- The walks over the functions of rank that compare two sets. -/
import Derived.Test.YtpdnfeooijmgoaaRankSets
import Derived.Test.YtpdnfeooijmgoaaIdentPlain
import Derived.Test.YtpdnfeooijmgoaaByHand
namespace Go.Proofs.Ytpdnfeooijmgoaa
set_option maxRecDepth 100000
open Go.RowKit
set_option linter.unusedVariables false

def prL (p : Int × Int) : List Value := [.int .i64 p.1, .int .i64 p.2]
/-- the cells of pairs -/
def prA (ps : List (Int × Int)) : Array Value := (ps.flatMap prL).toArray
def ordL : List (Int × Int) → Int
  | [] => 0
  | p :: ps => if cmpI p.1 p.2 = 0 then ordL ps else cmpI p.1 p.2
theorem ordL_cmp : ∀ ps : List (Int × Int), ordL ps = cmpL (ps.map (·.1)) (ps.map (·.2))
  | [] => rfl
  | p :: ps => by
    have ih := ordL_cmp ps
    simp only [ordL, List.map_cons, ih, cmpL, cmpI]
    split <;> (try split) <;> simp_all
set_option maxHeartbeats 4000000 in
theorem order_any (ps : List (Int × Int)) (gK1 n : Nat) (w : World) (hn : ps.length = n) (hn2 : n ≤ 1000) (h : Holds w gK1 70 (prA ps)) :
    Calls Try.prog 49 #[.slice (some ⟨gK1, 0, none⟩) n n] w fun e w' => e = .returned (.int .i64 (ordL ps)) ∧ Below w.heap.size w w' := by
  have HB := Lib.hid (Below.refl w.heap.size w)
  have K1 := Lib.hid h
  clear h
  go_enter Try.func49, Try.ntmps49
  go_wp2
  go_loopw [8] (fun i v => ∃ k : Nat, k ≤ n ∧ i = .int .i64 k ∧ Hid (ordL ps = ordL (ps.drop k)) ∧ Hid (Holds v gK1 70 (prA ps)) ∧ Hid (Below w.heap.size w v)) (fun i _ => n - (intOf i).toNat)
  case atStart => exact ⟨0, by omega, rfl, Lib.hid rfl, K1, HB⟩
  case round =>
    clear K1 HB
    rename_i V
    obtain ⟨k, hk, rfl, HC, K1, HB⟩ := hrel
    by_cases hlt : k < n
    · have hd : decide ((k : Int) < (n : Int)) = true := by simpa using hlt
      have hkl : k < ps.length := by omega
      obtain ⟨x, y, hxy⟩ : ∃ x y, ps[k]? = some (x, y) := ⟨_, _, List.getElem?_eq_getElem hkl⟩
      have HP : Hid (((prA ps).toList.drop (0 + k * 2)).take (#[Value.int .i64 x, Value.int .i64 y].toList).length = #[Value.int .i64 x, Value.int .i64 y].toList) := by
        rw [Nat.zero_add]; exact rows_at (f := prL) (c := 2) (fun _ => rfl) ps k (x, y) hxy
      have HK := Lib.hid hlt
      have HS : Hid (ordL ps = if cmpI x y = 0 then ordL (ps.drop (k + 1)) else cmpI x y) := by
        have e : ps[k]'hkl = (x, y) := by rw [List.getElem?_eq_getElem hkl] at hxy; exact Option.some.inj hxy
        rw [Hid, HC.out, List.drop_eq_getElem_cons hkl, ordL, e]
      obtain ⟨m, HM⟩ : ∃ m, Hid (cmpI x y = m) := ⟨_, Lib.hid rfl⟩
      clear hxy hlt hkl HC
      rw [HM.out] at HS
      go_wp2_with (first | (refine big_fill rfl 70 _ _ rfl gK2 (#[.int .i64 x, .int .i64 y]) rfl rfl K2.out (by kernel_rfl) (by kernel_rfl) (by kernel_rfl) ?_; intro vK2 nK2 htK2; replace K2 := Lib.hid nK2; replace K1 := Lib.hid ((K1.out).touch htK2 NK1K2.out); replace HB := Lib.hid (btouch HB.out htK2 LK2.out); clear nK2 htK2; have x0 := (K2.out).reads (i := 0) (x := .int .i64 x) rfl; have x1 := (K2.out).reads (i := 1) (x := .int .i64 y) rfl) | (refine big_alloc rfl 70 rfl (#[.int .i64 0, .int .i64 0]) (by kernel_rfl) ?_; intro gK2 wK2 hlK2 nK2 hbK2; have K2 := Lib.hid nK2; have LK2 := Lib.hid (Nat.le_trans (HB.out).size hlK2); have NK1K2 := Lib.hid (show gK1 ≠ gK2 by have := (K1.out).inside; omega); replace K1 := Lib.hid ((K1.out).keptB hbK2); replace HB := Lib.hid (bstep HB.out hbK2); clear hlK2 nK2 hbK2) | (refine big_loadAt rfl 70 _ rfl gK1 (0 + k * 2) rfl (#[.int .i64 x, .int .i64 y]) ((K1.out).range (HP.out)) Try.underlying70 rfl (by kernel_rfl) ?_) | (refine big_index rfl 71 _ _ rfl gK1 0 n n k 2 rfl rfl HK.out Try.underlying71 (by kernel_rfl) ?_))
      refine (cmp_int x y _).mono ?_
      rintro e w1 ⟨rfl, rfl⟩
      rw [HM.out]
      clear x0 x1
      by_cases hm : m = 0
      · have h0 : (m != 0) = false := by simp [hm]
        have HM0 := Lib.hid hm
        clear hm
        go_wp2
        go_roundw
        case rel => exact ⟨k + 1, by omega, by go_num, by rw [Hid, HS.out, if_pos HM0.out], K1, HB⟩
        case measure => simp [intOf]; omega
      · have h0 : (m != 0) = true := by simp [hm]
        have HM0 := Lib.hid hm
        clear hm
        go_wp2
        go_ret
        exact ⟨ret_int (by rw [HS.out, if_neg HM0.out]), HB.out⟩
    · have hd : decide ((k : Int) < (n : Int)) = false := by simpa using hlt
      go_wp2
      go_ret
      exact ⟨ret_int (by rw [HC.out, List.drop_of_length_le (by omega)]; rfl), HB.out⟩
set_option maxHeartbeats 4000000 in
theorem grand_any (a b : Rs) (w : World) :
    Calls Try.prog 45 #[.agg (rsA a), .agg (rsA b)] w fun e w' => e = .returned (.int .i64 (grandN a b)) ∧ Below w.heap.size w w' := by
  have HB := Lib.hid (Below.refl w.heap.size w)
  obtain ⟨m, HM⟩ : ∃ m, Hid (cmpL (numL a) (numL b) = m) := ⟨_, Lib.hid rfl⟩
  by_cases hm : m = 0
  · have HE : Hid (ordL [(a.p1, b.p1), (a.q1, b.q1), (a.q2, b.q2), (a.q3, b.q3), (a.p2, b.p2)] = m) := by rw [Hid, ordL_cmp]; exact HM.out
    have h0 : (m != 0) = false := by simp [hm]
    have HX : Hid (grandN a b = cmpC a.gr b.gr) := by unfold grandN; rw [Hid, HM.out, if_pos hm]
    clear hm HM
    go_enter Try.func45, Try.ntmps45
    go_wp2_with (first | (refine big_slices rfl 71 70 5 _ rfl (prA [(a.p1, b.p1), (a.q1, b.q1), (a.q2, b.q2), (a.q3, b.q3), (a.p2, b.p2)]) 2 Try.underlying71 rfl rfl rfl (of_decide_eq_true (by kernel_rfl)) (of_decide_eq_true (by kernel_rfl)) (by kernel_rfl) ?_; intro gK3 wK3 hlK3 nK3 hbK3; have K3 := Lib.hid nK3; replace K1 := Lib.hid ((K1.out).keptB hbK3); replace K2 := Lib.hid ((K2.out).keptB hbK3); replace HB := Lib.hid (bstep HB.out hbK3); clear hlK3 nK3 hbK3) | (refine big_box rfl 29 _ rfl (rsA b) rfl (by kernel_rfl) ?_; intro gK2 wK2 hlK2 nK2 hbK2; have K2 := Lib.hid nK2; have LK2 := Lib.hid (Nat.le_trans (HB.out).size hlK2); have NK1K2 := Lib.hid (show gK1 ≠ gK2 by have := (K1.out).inside; omega); replace K1 := Lib.hid ((K1.out).keptB hbK2); replace HB := Lib.hid (bstep HB.out hbK2); clear hlK2 nK2 hbK2; have K1x0 := (K1.out).reads (i := 0) (x := .int .i64 a.p1) rfl; have K1x1 := (K1.out).reads (i := 1) (x := .int .i64 a.p2) rfl; have K1x2 := (K1.out).reads (i := 2) (x := .int .i64 a.q1) rfl; have K1x3 := (K1.out).reads (i := 3) (x := .int .i64 a.q2) rfl; have K1x4 := (K1.out).reads (i := 4) (x := .int .i64 a.q3) rfl; have K2x0 := (K2.out).reads (i := 0) (x := .int .i64 b.p1) rfl; have K2x1 := (K2.out).reads (i := 1) (x := .int .i64 b.p2) rfl; have K2x2 := (K2.out).reads (i := 2) (x := .int .i64 b.q1) rfl; have K2x3 := (K2.out).reads (i := 3) (x := .int .i64 b.q2) rfl; have K2x4 := (K2.out).reads (i := 4) (x := .int .i64 b.q3) rfl) | (refine big_box rfl 29 _ rfl (rsA a) rfl (by kernel_rfl) ?_; intro gK1 wK1 hlK1 nK1 hbK1; have K1 := Lib.hid nK1; have LK1 := Lib.hid (Nat.le_trans (HB.out).size hlK1); replace HB := Lib.hid (bstep HB.out hbK1); clear hlK1 nK1 hbK1))
    clear K1x0 K1x1 K1x2 K1x3 K1x4
    clear K2x0 K2x1 K2x2 K2x3 K2x4
    refine (order_any _ gK3 5 _ rfl (by omega) K3.out).mono ?_
    rintro e w1 ⟨rfl, h1⟩
    rw [HE.out]
    replace K1 := Lib.hid ((K1.out).keptB h1)
    replace K2 := Lib.hid ((K2.out).keptB h1)
    replace K3 := Lib.hid ((K3.out).keptB h1)
    replace HB := Lib.hid (bstep HB.out h1)
    clear h1
    go_wp2_with (first | (refine big_load rfl 25 _ rfl gK2 5 rfl K2.out [.int .u8 b.gr.b0, .int .u8 b.gr.b1, .int .u8 b.gr.b2, .int .u8 b.gr.b3, .int .u8 b.gr.b4, .int .u8 b.gr.b5, .int .u8 b.gr.b6, .int .u8 b.gr.b7] rfl Try.underlying25 rfl (by kernel_rfl) ?_) | (refine big_load rfl 25 _ rfl gK1 5 rfl K1.out [.int .u8 a.gr.b0, .int .u8 a.gr.b1, .int .u8 a.gr.b2, .int .u8 a.gr.b3, .int .u8 a.gr.b4, .int .u8 a.gr.b5, .int .u8 a.gr.b6, .int .u8 a.gr.b7] rfl Try.underlying25 rfl (by kernel_rfl) ?_))
    refine (compare_any a.gr b.gr _).mono ?_
    rintro e w2 ⟨rfl, h2⟩
    replace HB := Lib.hid (bstep HB.out h2)
    clear h2
    go_wp2
    go_ret
    exact ⟨ret_int (by rw [HX.out]), HB.out⟩
  · have HE : Hid (ordL [(a.p1, b.p1), (a.q1, b.q1), (a.q2, b.q2), (a.q3, b.q3), (a.p2, b.p2)] = m) := by rw [Hid, ordL_cmp]; exact HM.out
    have h0 : (m != 0) = true := by simp [hm]
    have HX : Hid (grandN a b = m) := by unfold grandN; rw [Hid, HM.out, if_neg hm]
    clear hm HM
    go_enter Try.func45, Try.ntmps45
    go_wp2_with (first | (refine big_slices rfl 71 70 5 _ rfl (prA [(a.p1, b.p1), (a.q1, b.q1), (a.q2, b.q2), (a.q3, b.q3), (a.p2, b.p2)]) 2 Try.underlying71 rfl rfl rfl (of_decide_eq_true (by kernel_rfl)) (of_decide_eq_true (by kernel_rfl)) (by kernel_rfl) ?_; intro gK3 wK3 hlK3 nK3 hbK3; have K3 := Lib.hid nK3; replace K1 := Lib.hid ((K1.out).keptB hbK3); replace K2 := Lib.hid ((K2.out).keptB hbK3); replace HB := Lib.hid (bstep HB.out hbK3); clear hlK3 nK3 hbK3) | (refine big_box rfl 29 _ rfl (rsA b) rfl (by kernel_rfl) ?_; intro gK2 wK2 hlK2 nK2 hbK2; have K2 := Lib.hid nK2; have LK2 := Lib.hid (Nat.le_trans (HB.out).size hlK2); have NK1K2 := Lib.hid (show gK1 ≠ gK2 by have := (K1.out).inside; omega); replace K1 := Lib.hid ((K1.out).keptB hbK2); replace HB := Lib.hid (bstep HB.out hbK2); clear hlK2 nK2 hbK2; have K1x0 := (K1.out).reads (i := 0) (x := .int .i64 a.p1) rfl; have K1x1 := (K1.out).reads (i := 1) (x := .int .i64 a.p2) rfl; have K1x2 := (K1.out).reads (i := 2) (x := .int .i64 a.q1) rfl; have K1x3 := (K1.out).reads (i := 3) (x := .int .i64 a.q2) rfl; have K1x4 := (K1.out).reads (i := 4) (x := .int .i64 a.q3) rfl; have K2x0 := (K2.out).reads (i := 0) (x := .int .i64 b.p1) rfl; have K2x1 := (K2.out).reads (i := 1) (x := .int .i64 b.p2) rfl; have K2x2 := (K2.out).reads (i := 2) (x := .int .i64 b.q1) rfl; have K2x3 := (K2.out).reads (i := 3) (x := .int .i64 b.q2) rfl; have K2x4 := (K2.out).reads (i := 4) (x := .int .i64 b.q3) rfl) | (refine big_box rfl 29 _ rfl (rsA a) rfl (by kernel_rfl) ?_; intro gK1 wK1 hlK1 nK1 hbK1; have K1 := Lib.hid nK1; have LK1 := Lib.hid (Nat.le_trans (HB.out).size hlK1); replace HB := Lib.hid (bstep HB.out hbK1); clear hlK1 nK1 hbK1))
    clear K1x0 K1x1 K1x2 K1x3 K1x4
    clear K2x0 K2x1 K2x2 K2x3 K2x4
    refine (order_any _ gK3 5 _ rfl (by omega) K3.out).mono ?_
    rintro e w1 ⟨rfl, h1⟩
    rw [HE.out]
    replace K1 := Lib.hid ((K1.out).keptB h1)
    replace K2 := Lib.hid ((K2.out).keptB h1)
    replace K3 := Lib.hid ((K3.out).keptB h1)
    replace HB := Lib.hid (bstep HB.out h1)
    clear h1
    go_wp2
    go_ret
    exact ⟨ret_int (by rw [HX.out]), HB.out⟩
set_option maxHeartbeats 4000000 in
theorem turn7_any (n : Int) (w : World) :
    Calls Try.prog 47 #[.int .i64 n] w fun e w' => e = .returned (.int .i64 (turnN n)) ∧ w = w' := by
  by_cases h : n = 1
  · have HX : Hid (turnN n = 3) := by unfold turnN; rw [Hid]; simp [h]
    have d1 : (n == 1) = true := by simp [h]
    clear h
    go_enter Try.func47, Try.ntmps47
    go_wp2
    go_ret
    exact ⟨ret_int (by rw [HX.out]), rfl⟩
  have e1 := h
  clear h
  by_cases h : n = 2
  · have HX : Hid (turnN n = 4) := by unfold turnN; rw [Hid]; simp [h]
    have d1 : (n == 1) = false := by simp; omega
    have d2 : (n == 2) = true := by simp [h]
    clear h
    clear e1
    go_enter Try.func47, Try.ntmps47
    go_wp2
    go_ret
    exact ⟨ret_int (by rw [HX.out]), rfl⟩
  have e2 := h
  clear h
  by_cases h : n = 3
  · have HX : Hid (turnN n = 1) := by unfold turnN; rw [Hid]; simp [h]
    have d1 : (n == 1) = false := by simp; omega
    have d2 : (n == 2) = false := by simp; omega
    have d3 : (n == 3) = true := by simp [h]
    clear h
    clear e1 e2
    go_enter Try.func47, Try.ntmps47
    go_wp2
    go_ret
    exact ⟨ret_int (by rw [HX.out]), rfl⟩
  have e3 := h
  clear h
  by_cases h : n = 4
  · have HX : Hid (turnN n = 2) := by unfold turnN; rw [Hid]; simp [h]
    have d1 : (n == 1) = false := by simp; omega
    have d2 : (n == 2) = false := by simp; omega
    have d3 : (n == 3) = false := by simp; omega
    have d4 : (n == 4) = true := by simp [h]
    clear h
    clear e1 e2 e3
    go_enter Try.func47, Try.ntmps47
    go_wp2
    go_ret
    exact ⟨ret_int (by rw [HX.out]), rfl⟩
  have e4 := h
  clear h
  have HX : Hid (turnN n = n) := by unfold turnN; rw [Hid]; simp [e1, e2, e3, e4]
  have d1 : (n == 1) = false := by simp; omega
  have d2 : (n == 2) = false := by simp; omega
  have d3 : (n == 3) = false := by simp; omega
  have d4 : (n == 4) = false := by simp; omega
  clear e1 e2 e3 e4
  go_enter Try.func47, Try.ntmps47
  go_wp2
  go_ret
  exact ⟨ret_int (by rw [HX.out]), rfl⟩
set_option maxHeartbeats 4000000 in
theorem further_any (a : Rs) (f : Int) (w : World) (f0 : -9223372036854775808 ≤ f) (f1 : f + 1 ≤ 9223372036854775807) :
    Calls Try.prog 46 #[.agg (rsA a), .int .i64 f] w fun e w' => e = .returned (.int .i64 (farN a f)) ∧ Below w.heap.size w w' := by
  have HB := Lib.hid (Below.refl w.heap.size w)
  obtain ⟨m, HM⟩ : ∃ m, Hid (cmpC a.rc.c a.sn.c = m) := ⟨_, Lib.hid rfl⟩
  by_cases hc : f + 1 < a.st
  · have d0 : decide (f + 1 < a.st) = true := by simpa using hc
    have HX : Hid (farN a f = 3) := by unfold farN; rw [Hid, if_pos hc]
    clear hc 
    go_enter Try.func46, Try.ntmps46
    go_wp2_with (first | (refine big_load rfl 25 _ rfl gK1 14 rfl K1.out [.int .u8 a.sn.c.b0, .int .u8 a.sn.c.b1, .int .u8 a.sn.c.b2, .int .u8 a.sn.c.b3, .int .u8 a.sn.c.b4, .int .u8 a.sn.c.b5, .int .u8 a.sn.c.b6, .int .u8 a.sn.c.b7] rfl Try.underlying25 rfl (by kernel_rfl) ?_) | (refine big_load rfl 25 _ rfl gK1 23 rfl K1.out [.int .u8 a.rc.c.b0, .int .u8 a.rc.c.b1, .int .u8 a.rc.c.b2, .int .u8 a.rc.c.b3, .int .u8 a.rc.c.b4, .int .u8 a.rc.c.b5, .int .u8 a.rc.c.b6, .int .u8 a.rc.c.b7] rfl Try.underlying25 rfl (by kernel_rfl) ?_) | (refine big_box rfl 29 _ rfl (rsA a) rfl (by kernel_rfl) ?_; intro gK1 wK1 hlK1 nK1 hbK1; have K1 := Lib.hid nK1; have LK1 := Lib.hid (Nat.le_trans (HB.out).size hlK1); replace HB := Lib.hid (bstep HB.out hbK1); clear hlK1 nK1 hbK1; have K1x13 := (K1.out).reads (i := 13) (x := .int .i64 a.st) rfl))
    go_ret
    exact ⟨ret_int (by rw [HX.out]), HB.out⟩
  · by_cases h1 : m = -1
    · have d0 : decide (f + 1 < a.st) = false := by simpa using hc
      have HX : Hid (farN a f = 3) := by unfold farN; rw [Hid, if_neg hc, HM.out, if_pos h1]
      have d1 : (m == -1) = true := by simp [h1]
      clear hc h1 
      go_enter Try.func46, Try.ntmps46
      go_wp2_with (first | (refine big_load rfl 25 _ rfl gK1 14 rfl K1.out [.int .u8 a.sn.c.b0, .int .u8 a.sn.c.b1, .int .u8 a.sn.c.b2, .int .u8 a.sn.c.b3, .int .u8 a.sn.c.b4, .int .u8 a.sn.c.b5, .int .u8 a.sn.c.b6, .int .u8 a.sn.c.b7] rfl Try.underlying25 rfl (by kernel_rfl) ?_) | (refine big_load rfl 25 _ rfl gK1 23 rfl K1.out [.int .u8 a.rc.c.b0, .int .u8 a.rc.c.b1, .int .u8 a.rc.c.b2, .int .u8 a.rc.c.b3, .int .u8 a.rc.c.b4, .int .u8 a.rc.c.b5, .int .u8 a.rc.c.b6, .int .u8 a.rc.c.b7] rfl Try.underlying25 rfl (by kernel_rfl) ?_) | (refine big_box rfl 29 _ rfl (rsA a) rfl (by kernel_rfl) ?_; intro gK1 wK1 hlK1 nK1 hbK1; have K1 := Lib.hid nK1; have LK1 := Lib.hid (Nat.le_trans (HB.out).size hlK1); replace HB := Lib.hid (bstep HB.out hbK1); clear hlK1 nK1 hbK1; have K1x13 := (K1.out).reads (i := 13) (x := .int .i64 a.st) rfl))
      clear K1x13
      refine (compare_any a.rc.c a.sn.c _).mono ?_
      rintro e w2 ⟨rfl, h2⟩
      rw [HM.out]
      replace HB := Lib.hid (bstep HB.out h2)
      clear h2
      go_wp2
      go_ret
      exact ⟨ret_int (by rw [HX.out]), HB.out⟩
    · by_cases h2 : m = 1
      · have d0 : decide (f + 1 < a.st) = false := by simpa using hc
        have HX : Hid (farN a f = 4) := by unfold farN; rw [Hid, if_neg hc, HM.out, if_neg h1, if_pos h2]
        have d1 : (m == -1) = false := by simp [h1]
        have d2 : (m == 1) = true := by simp [h2]
        clear hc h1 h2 
        go_enter Try.func46, Try.ntmps46
        go_wp2_with (first | (refine big_load rfl 25 _ rfl gK1 14 rfl K1.out [.int .u8 a.sn.c.b0, .int .u8 a.sn.c.b1, .int .u8 a.sn.c.b2, .int .u8 a.sn.c.b3, .int .u8 a.sn.c.b4, .int .u8 a.sn.c.b5, .int .u8 a.sn.c.b6, .int .u8 a.sn.c.b7] rfl Try.underlying25 rfl (by kernel_rfl) ?_) | (refine big_load rfl 25 _ rfl gK1 23 rfl K1.out [.int .u8 a.rc.c.b0, .int .u8 a.rc.c.b1, .int .u8 a.rc.c.b2, .int .u8 a.rc.c.b3, .int .u8 a.rc.c.b4, .int .u8 a.rc.c.b5, .int .u8 a.rc.c.b6, .int .u8 a.rc.c.b7] rfl Try.underlying25 rfl (by kernel_rfl) ?_) | (refine big_box rfl 29 _ rfl (rsA a) rfl (by kernel_rfl) ?_; intro gK1 wK1 hlK1 nK1 hbK1; have K1 := Lib.hid nK1; have LK1 := Lib.hid (Nat.le_trans (HB.out).size hlK1); replace HB := Lib.hid (bstep HB.out hbK1); clear hlK1 nK1 hbK1; have K1x13 := (K1.out).reads (i := 13) (x := .int .i64 a.st) rfl))
        clear K1x13
        refine (compare_any a.rc.c a.sn.c _).mono ?_
        rintro e w2 ⟨rfl, h2⟩
        rw [HM.out]
        replace HB := Lib.hid (bstep HB.out h2)
        clear h2
        go_wp2
        go_ret
        exact ⟨ret_int (by rw [HX.out]), HB.out⟩
      · have d0 : decide (f + 1 < a.st) = false := by simpa using hc
        have HX : Hid (farN a f = 5) := by unfold farN; rw [Hid, if_neg hc, HM.out, if_neg h1, if_neg h2]
        have d1 : (m == -1) = false := by simp [h1]
        have d2 : (m == 1) = false := by simp [h2]
        clear hc h1 h2 
        go_enter Try.func46, Try.ntmps46
        go_wp2_with (first | (refine big_load rfl 25 _ rfl gK1 14 rfl K1.out [.int .u8 a.sn.c.b0, .int .u8 a.sn.c.b1, .int .u8 a.sn.c.b2, .int .u8 a.sn.c.b3, .int .u8 a.sn.c.b4, .int .u8 a.sn.c.b5, .int .u8 a.sn.c.b6, .int .u8 a.sn.c.b7] rfl Try.underlying25 rfl (by kernel_rfl) ?_) | (refine big_load rfl 25 _ rfl gK1 23 rfl K1.out [.int .u8 a.rc.c.b0, .int .u8 a.rc.c.b1, .int .u8 a.rc.c.b2, .int .u8 a.rc.c.b3, .int .u8 a.rc.c.b4, .int .u8 a.rc.c.b5, .int .u8 a.rc.c.b6, .int .u8 a.rc.c.b7] rfl Try.underlying25 rfl (by kernel_rfl) ?_) | (refine big_box rfl 29 _ rfl (rsA a) rfl (by kernel_rfl) ?_; intro gK1 wK1 hlK1 nK1 hbK1; have K1 := Lib.hid nK1; have LK1 := Lib.hid (Nat.le_trans (HB.out).size hlK1); replace HB := Lib.hid (bstep HB.out hbK1); clear hlK1 nK1 hbK1; have K1x13 := (K1.out).reads (i := 13) (x := .int .i64 a.st) rfl))
        clear K1x13
        refine (compare_any a.rc.c a.sn.c _).mono ?_
        rintro e w2 ⟨rfl, h2⟩
        rw [HM.out]
        replace HB := Lib.hid (bstep HB.out h2)
        clear h2
        go_wp2
        go_ret
        exact ⟨ret_int (by rw [HX.out]), HB.out⟩
set_option maxHeartbeats 4000000 in
theorem byWay_any (a b : Rs) (w : World) (ha : a.ok) (hb : b.ok) :
    Calls Try.prog 48 #[.agg (rsA a), .agg (rsA b)] w fun e w' => e = .returned (.int .i64 (wayN a b)) ∧ Below w.heap.size w w' := by
  have HB := Lib.hid (Below.refl w.heap.size w)
  have HO1 := Lib.hid ha.s
  have HO2 := Lib.hid hb.s
  clear ha hb
  obtain ⟨m, HM⟩ : ∃ m, Hid (cmpP a.sn b.sn = m) := ⟨_, Lib.hid rfl⟩
  by_cases hm : m = 0
  · obtain ⟨r, HR⟩ : ∃ r, Hid (ordL [(a.rc.n, b.rc.n)] = r) := ⟨_, Lib.hid rfl⟩
    have HI : Hid (wayI a b = r) := by
      unfold wayI
      rw [Hid, HM.out, if_pos hm, ← HR.out]
      simp only [ordL]
      split <;> simp_all
    by_cases h1 : r = -1
    · have HX : Hid (wayN a b = 2) := by unfold wayN; rw [Hid, HI.out, if_pos h1]
      have d1 : (r == -1) = true := by simp [h1]
      have d0 : (m == 0) = true := by simp [hm]
      clear hm h1 HI
      go_enter Try.func48, Try.ntmps48
      go_wp2_with (first | (refine big_load rfl 27 _ rfl gK2 14 rfl K2.out [.int .u8 b.sn.c.b0, .int .u8 b.sn.c.b1, .int .u8 b.sn.c.b2, .int .u8 b.sn.c.b3, .int .u8 b.sn.c.b4, .int .u8 b.sn.c.b5, .int .u8 b.sn.c.b6, .int .u8 b.sn.c.b7, .int .i64 b.sn.n] rfl Try.underlying27 rfl (by kernel_rfl) ?_) | (refine big_load rfl 27 _ rfl gK1 14 rfl K1.out [.int .u8 a.sn.c.b0, .int .u8 a.sn.c.b1, .int .u8 a.sn.c.b2, .int .u8 a.sn.c.b3, .int .u8 a.sn.c.b4, .int .u8 a.sn.c.b5, .int .u8 a.sn.c.b6, .int .u8 a.sn.c.b7, .int .i64 a.sn.n] rfl Try.underlying27 rfl (by kernel_rfl) ?_) | (refine big_box rfl 29 _ rfl (rsA b) rfl (by kernel_rfl) ?_; intro gK2 wK2 hlK2 nK2 hbK2; have K2 := Lib.hid nK2; have LK2 := Lib.hid (Nat.le_trans (HB.out).size hlK2); have NK1K2 := Lib.hid (show gK1 ≠ gK2 by have := (K1.out).inside; omega); replace K1 := Lib.hid ((K1.out).keptB hbK2); replace HB := Lib.hid (bstep HB.out hbK2); clear hlK2 nK2 hbK2) | (refine big_box rfl 29 _ rfl (rsA a) rfl (by kernel_rfl) ?_; intro gK1 wK1 hlK1 nK1 hbK1; have K1 := Lib.hid nK1; have LK1 := Lib.hid (Nat.le_trans (HB.out).size hlK1); replace HB := Lib.hid (bstep HB.out hbK1); clear hlK1 nK1 hbK1))
      refine (ports_any a.sn b.sn _ HO1.out HO2.out).mono ?_
      rintro e w1 ⟨rfl, h1⟩
      rw [HM.out]
      replace K1 := Lib.hid ((K1.out).keptB h1)
      replace K2 := Lib.hid ((K2.out).keptB h1)
      replace HB := Lib.hid (bstep HB.out h1)
      clear h1
      have K1x31 := (K1.out).reads (i := 31) (x := .int .i64 a.rc.n) rfl
      have K2x31 := (K2.out).reads (i := 31) (x := .int .i64 b.rc.n) rfl
      go_wp2_with ((refine big_slices rfl 71 70 1 _ rfl (prA [(a.rc.n, b.rc.n)]) 2 Try.underlying71 rfl rfl rfl (of_decide_eq_true (by kernel_rfl)) (of_decide_eq_true (by kernel_rfl)) (by kernel_rfl) ?_; intro gK3 wK3 hlK3 nK3 hbK3; have K3 := Lib.hid nK3; replace K1 := Lib.hid ((K1.out).keptB hbK3); replace K2 := Lib.hid ((K2.out).keptB hbK3); replace HB := Lib.hid (bstep HB.out hbK3); clear hlK3 nK3 hbK3; clear K1x31 K2x31))
      refine (order_any _ gK3 1 _ rfl (by omega) K3.out).mono ?_
      rintro e w2 ⟨rfl, h2⟩
      rw [HR.out]
      replace HB := Lib.hid (bstep HB.out h2)
      clear h2
      go_wp2
      go_ret
      exact ⟨ret_int (by rw [HX.out]), HB.out⟩
    · by_cases h2 : r = 1
      · have HX : Hid (wayN a b = 4) := by unfold wayN; rw [Hid, HI.out, if_neg h1, if_pos h2]
        have d1 : (r == -1) = false := by simp [h1]
        have d2 : (r == 1) = true := by simp [h2]
        have d0 : (m == 0) = true := by simp [hm]
        clear hm h1 h2 HI
        go_enter Try.func48, Try.ntmps48
        go_wp2_with (first | (refine big_load rfl 27 _ rfl gK2 14 rfl K2.out [.int .u8 b.sn.c.b0, .int .u8 b.sn.c.b1, .int .u8 b.sn.c.b2, .int .u8 b.sn.c.b3, .int .u8 b.sn.c.b4, .int .u8 b.sn.c.b5, .int .u8 b.sn.c.b6, .int .u8 b.sn.c.b7, .int .i64 b.sn.n] rfl Try.underlying27 rfl (by kernel_rfl) ?_) | (refine big_load rfl 27 _ rfl gK1 14 rfl K1.out [.int .u8 a.sn.c.b0, .int .u8 a.sn.c.b1, .int .u8 a.sn.c.b2, .int .u8 a.sn.c.b3, .int .u8 a.sn.c.b4, .int .u8 a.sn.c.b5, .int .u8 a.sn.c.b6, .int .u8 a.sn.c.b7, .int .i64 a.sn.n] rfl Try.underlying27 rfl (by kernel_rfl) ?_) | (refine big_box rfl 29 _ rfl (rsA b) rfl (by kernel_rfl) ?_; intro gK2 wK2 hlK2 nK2 hbK2; have K2 := Lib.hid nK2; have LK2 := Lib.hid (Nat.le_trans (HB.out).size hlK2); have NK1K2 := Lib.hid (show gK1 ≠ gK2 by have := (K1.out).inside; omega); replace K1 := Lib.hid ((K1.out).keptB hbK2); replace HB := Lib.hid (bstep HB.out hbK2); clear hlK2 nK2 hbK2) | (refine big_box rfl 29 _ rfl (rsA a) rfl (by kernel_rfl) ?_; intro gK1 wK1 hlK1 nK1 hbK1; have K1 := Lib.hid nK1; have LK1 := Lib.hid (Nat.le_trans (HB.out).size hlK1); replace HB := Lib.hid (bstep HB.out hbK1); clear hlK1 nK1 hbK1))
        refine (ports_any a.sn b.sn _ HO1.out HO2.out).mono ?_
        rintro e w1 ⟨rfl, h1⟩
        rw [HM.out]
        replace K1 := Lib.hid ((K1.out).keptB h1)
        replace K2 := Lib.hid ((K2.out).keptB h1)
        replace HB := Lib.hid (bstep HB.out h1)
        clear h1
        have K1x31 := (K1.out).reads (i := 31) (x := .int .i64 a.rc.n) rfl
        have K2x31 := (K2.out).reads (i := 31) (x := .int .i64 b.rc.n) rfl
        go_wp2_with ((refine big_slices rfl 71 70 1 _ rfl (prA [(a.rc.n, b.rc.n)]) 2 Try.underlying71 rfl rfl rfl (of_decide_eq_true (by kernel_rfl)) (of_decide_eq_true (by kernel_rfl)) (by kernel_rfl) ?_; intro gK3 wK3 hlK3 nK3 hbK3; have K3 := Lib.hid nK3; replace K1 := Lib.hid ((K1.out).keptB hbK3); replace K2 := Lib.hid ((K2.out).keptB hbK3); replace HB := Lib.hid (bstep HB.out hbK3); clear hlK3 nK3 hbK3; clear K1x31 K2x31))
        refine (order_any _ gK3 1 _ rfl (by omega) K3.out).mono ?_
        rintro e w2 ⟨rfl, h2⟩
        rw [HR.out]
        replace HB := Lib.hid (bstep HB.out h2)
        clear h2
        go_wp2
        go_ret
        exact ⟨ret_int (by rw [HX.out]), HB.out⟩
      · have HX : Hid (wayN a b = 6) := by unfold wayN; rw [Hid, HI.out, if_neg h1, if_neg h2]
        have d1 : (r == -1) = false := by simp [h1]
        have d2 : (r == 1) = false := by simp [h2]
        have d0 : (m == 0) = true := by simp [hm]
        clear hm h1 h2 HI
        go_enter Try.func48, Try.ntmps48
        go_wp2_with (first | (refine big_load rfl 27 _ rfl gK2 14 rfl K2.out [.int .u8 b.sn.c.b0, .int .u8 b.sn.c.b1, .int .u8 b.sn.c.b2, .int .u8 b.sn.c.b3, .int .u8 b.sn.c.b4, .int .u8 b.sn.c.b5, .int .u8 b.sn.c.b6, .int .u8 b.sn.c.b7, .int .i64 b.sn.n] rfl Try.underlying27 rfl (by kernel_rfl) ?_) | (refine big_load rfl 27 _ rfl gK1 14 rfl K1.out [.int .u8 a.sn.c.b0, .int .u8 a.sn.c.b1, .int .u8 a.sn.c.b2, .int .u8 a.sn.c.b3, .int .u8 a.sn.c.b4, .int .u8 a.sn.c.b5, .int .u8 a.sn.c.b6, .int .u8 a.sn.c.b7, .int .i64 a.sn.n] rfl Try.underlying27 rfl (by kernel_rfl) ?_) | (refine big_box rfl 29 _ rfl (rsA b) rfl (by kernel_rfl) ?_; intro gK2 wK2 hlK2 nK2 hbK2; have K2 := Lib.hid nK2; have LK2 := Lib.hid (Nat.le_trans (HB.out).size hlK2); have NK1K2 := Lib.hid (show gK1 ≠ gK2 by have := (K1.out).inside; omega); replace K1 := Lib.hid ((K1.out).keptB hbK2); replace HB := Lib.hid (bstep HB.out hbK2); clear hlK2 nK2 hbK2) | (refine big_box rfl 29 _ rfl (rsA a) rfl (by kernel_rfl) ?_; intro gK1 wK1 hlK1 nK1 hbK1; have K1 := Lib.hid nK1; have LK1 := Lib.hid (Nat.le_trans (HB.out).size hlK1); replace HB := Lib.hid (bstep HB.out hbK1); clear hlK1 nK1 hbK1))
        refine (ports_any a.sn b.sn _ HO1.out HO2.out).mono ?_
        rintro e w1 ⟨rfl, h1⟩
        rw [HM.out]
        replace K1 := Lib.hid ((K1.out).keptB h1)
        replace K2 := Lib.hid ((K2.out).keptB h1)
        replace HB := Lib.hid (bstep HB.out h1)
        clear h1
        have K1x31 := (K1.out).reads (i := 31) (x := .int .i64 a.rc.n) rfl
        have K2x31 := (K2.out).reads (i := 31) (x := .int .i64 b.rc.n) rfl
        go_wp2_with ((refine big_slices rfl 71 70 1 _ rfl (prA [(a.rc.n, b.rc.n)]) 2 Try.underlying71 rfl rfl rfl (of_decide_eq_true (by kernel_rfl)) (of_decide_eq_true (by kernel_rfl)) (by kernel_rfl) ?_; intro gK3 wK3 hlK3 nK3 hbK3; have K3 := Lib.hid nK3; replace K1 := Lib.hid ((K1.out).keptB hbK3); replace K2 := Lib.hid ((K2.out).keptB hbK3); replace HB := Lib.hid (bstep HB.out hbK3); clear hlK3 nK3 hbK3; clear K1x31 K2x31))
        refine (order_any _ gK3 1 _ rfl (by omega) K3.out).mono ?_
        rintro e w2 ⟨rfl, h2⟩
        rw [HR.out]
        replace HB := Lib.hid (bstep HB.out h2)
        clear h2
        go_wp2
        go_ret
        exact ⟨ret_int (by rw [HX.out]), HB.out⟩
  · have HI : Hid (wayI a b = m) := by unfold wayI; rw [Hid, HM.out, if_neg hm]
    by_cases h1 : m = -1
    · have HX : Hid (wayN a b = 2) := by unfold wayN; rw [Hid, HI.out, if_pos h1]
      have d1 : (m == -1) = true := by simp [h1]
      have d0 : (m == 0) = false := by simp [hm]
      clear hm h1 HI
      go_enter Try.func48, Try.ntmps48
      go_wp2_with (first | (refine big_load rfl 27 _ rfl gK2 14 rfl K2.out [.int .u8 b.sn.c.b0, .int .u8 b.sn.c.b1, .int .u8 b.sn.c.b2, .int .u8 b.sn.c.b3, .int .u8 b.sn.c.b4, .int .u8 b.sn.c.b5, .int .u8 b.sn.c.b6, .int .u8 b.sn.c.b7, .int .i64 b.sn.n] rfl Try.underlying27 rfl (by kernel_rfl) ?_) | (refine big_load rfl 27 _ rfl gK1 14 rfl K1.out [.int .u8 a.sn.c.b0, .int .u8 a.sn.c.b1, .int .u8 a.sn.c.b2, .int .u8 a.sn.c.b3, .int .u8 a.sn.c.b4, .int .u8 a.sn.c.b5, .int .u8 a.sn.c.b6, .int .u8 a.sn.c.b7, .int .i64 a.sn.n] rfl Try.underlying27 rfl (by kernel_rfl) ?_) | (refine big_box rfl 29 _ rfl (rsA b) rfl (by kernel_rfl) ?_; intro gK2 wK2 hlK2 nK2 hbK2; have K2 := Lib.hid nK2; have LK2 := Lib.hid (Nat.le_trans (HB.out).size hlK2); have NK1K2 := Lib.hid (show gK1 ≠ gK2 by have := (K1.out).inside; omega); replace K1 := Lib.hid ((K1.out).keptB hbK2); replace HB := Lib.hid (bstep HB.out hbK2); clear hlK2 nK2 hbK2) | (refine big_box rfl 29 _ rfl (rsA a) rfl (by kernel_rfl) ?_; intro gK1 wK1 hlK1 nK1 hbK1; have K1 := Lib.hid nK1; have LK1 := Lib.hid (Nat.le_trans (HB.out).size hlK1); replace HB := Lib.hid (bstep HB.out hbK1); clear hlK1 nK1 hbK1))
      refine (ports_any a.sn b.sn _ HO1.out HO2.out).mono ?_
      rintro e w1 ⟨rfl, h1⟩
      rw [HM.out]
      replace K1 := Lib.hid ((K1.out).keptB h1)
      replace K2 := Lib.hid ((K2.out).keptB h1)
      replace HB := Lib.hid (bstep HB.out h1)
      clear h1
      go_wp2
      go_ret
      exact ⟨ret_int (by rw [HX.out]), HB.out⟩
    · by_cases h2 : m = 1
      · have HX : Hid (wayN a b = 4) := by unfold wayN; rw [Hid, HI.out, if_neg h1, if_pos h2]
        have d1 : (m == -1) = false := by simp [h1]
        have d2 : (m == 1) = true := by simp [h2]
        have d0 : (m == 0) = false := by simp [hm]
        clear hm h1 h2 HI
        go_enter Try.func48, Try.ntmps48
        go_wp2_with (first | (refine big_load rfl 27 _ rfl gK2 14 rfl K2.out [.int .u8 b.sn.c.b0, .int .u8 b.sn.c.b1, .int .u8 b.sn.c.b2, .int .u8 b.sn.c.b3, .int .u8 b.sn.c.b4, .int .u8 b.sn.c.b5, .int .u8 b.sn.c.b6, .int .u8 b.sn.c.b7, .int .i64 b.sn.n] rfl Try.underlying27 rfl (by kernel_rfl) ?_) | (refine big_load rfl 27 _ rfl gK1 14 rfl K1.out [.int .u8 a.sn.c.b0, .int .u8 a.sn.c.b1, .int .u8 a.sn.c.b2, .int .u8 a.sn.c.b3, .int .u8 a.sn.c.b4, .int .u8 a.sn.c.b5, .int .u8 a.sn.c.b6, .int .u8 a.sn.c.b7, .int .i64 a.sn.n] rfl Try.underlying27 rfl (by kernel_rfl) ?_) | (refine big_box rfl 29 _ rfl (rsA b) rfl (by kernel_rfl) ?_; intro gK2 wK2 hlK2 nK2 hbK2; have K2 := Lib.hid nK2; have LK2 := Lib.hid (Nat.le_trans (HB.out).size hlK2); have NK1K2 := Lib.hid (show gK1 ≠ gK2 by have := (K1.out).inside; omega); replace K1 := Lib.hid ((K1.out).keptB hbK2); replace HB := Lib.hid (bstep HB.out hbK2); clear hlK2 nK2 hbK2) | (refine big_box rfl 29 _ rfl (rsA a) rfl (by kernel_rfl) ?_; intro gK1 wK1 hlK1 nK1 hbK1; have K1 := Lib.hid nK1; have LK1 := Lib.hid (Nat.le_trans (HB.out).size hlK1); replace HB := Lib.hid (bstep HB.out hbK1); clear hlK1 nK1 hbK1))
        refine (ports_any a.sn b.sn _ HO1.out HO2.out).mono ?_
        rintro e w1 ⟨rfl, h1⟩
        rw [HM.out]
        replace K1 := Lib.hid ((K1.out).keptB h1)
        replace K2 := Lib.hid ((K2.out).keptB h1)
        replace HB := Lib.hid (bstep HB.out h1)
        clear h1
        go_wp2
        go_ret
        exact ⟨ret_int (by rw [HX.out]), HB.out⟩
      · have HX : Hid (wayN a b = 6) := by unfold wayN; rw [Hid, HI.out, if_neg h1, if_neg h2]
        have d1 : (m == -1) = false := by simp [h1]
        have d2 : (m == 1) = false := by simp [h2]
        have d0 : (m == 0) = false := by simp [hm]
        clear hm h1 h2 HI
        go_enter Try.func48, Try.ntmps48
        go_wp2_with (first | (refine big_load rfl 27 _ rfl gK2 14 rfl K2.out [.int .u8 b.sn.c.b0, .int .u8 b.sn.c.b1, .int .u8 b.sn.c.b2, .int .u8 b.sn.c.b3, .int .u8 b.sn.c.b4, .int .u8 b.sn.c.b5, .int .u8 b.sn.c.b6, .int .u8 b.sn.c.b7, .int .i64 b.sn.n] rfl Try.underlying27 rfl (by kernel_rfl) ?_) | (refine big_load rfl 27 _ rfl gK1 14 rfl K1.out [.int .u8 a.sn.c.b0, .int .u8 a.sn.c.b1, .int .u8 a.sn.c.b2, .int .u8 a.sn.c.b3, .int .u8 a.sn.c.b4, .int .u8 a.sn.c.b5, .int .u8 a.sn.c.b6, .int .u8 a.sn.c.b7, .int .i64 a.sn.n] rfl Try.underlying27 rfl (by kernel_rfl) ?_) | (refine big_box rfl 29 _ rfl (rsA b) rfl (by kernel_rfl) ?_; intro gK2 wK2 hlK2 nK2 hbK2; have K2 := Lib.hid nK2; have LK2 := Lib.hid (Nat.le_trans (HB.out).size hlK2); have NK1K2 := Lib.hid (show gK1 ≠ gK2 by have := (K1.out).inside; omega); replace K1 := Lib.hid ((K1.out).keptB hbK2); replace HB := Lib.hid (bstep HB.out hbK2); clear hlK2 nK2 hbK2) | (refine big_box rfl 29 _ rfl (rsA a) rfl (by kernel_rfl) ?_; intro gK1 wK1 hlK1 nK1 hbK1; have K1 := Lib.hid nK1; have LK1 := Lib.hid (Nat.le_trans (HB.out).size hlK1); replace HB := Lib.hid (bstep HB.out hbK1); clear hlK1 nK1 hbK1))
        refine (ports_any a.sn b.sn _ HO1.out HO2.out).mono ?_
        rintro e w1 ⟨rfl, h1⟩
        rw [HM.out]
        replace K1 := Lib.hid ((K1.out).keptB h1)
        replace K2 := Lib.hid ((K2.out).keptB h1)
        replace HB := Lib.hid (bstep HB.out h1)
        clear h1
        go_wp2
        go_ret
        exact ⟨ret_int (by rw [HX.out]), HB.out⟩

end Go.Proofs.Ytpdnfeooijmgoaa
