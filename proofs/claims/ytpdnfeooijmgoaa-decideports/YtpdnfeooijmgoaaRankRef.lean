/- The walks over the reference's Grand, Compare, Turn and Less. -/
import Derived.Test.YtpdnfeooijmgoaaRankComp
import Derived.Test.YtpdnfeooijmgoaaIdentRef
namespace Go.Proofs.Ytpdnfeooijmgoaa
set_option maxRecDepth 100000
open Go.RowKit
set_option linter.unusedVariables false

def intA (l : List Int) : Array Value := (l.map (Value.int .i64)).toArray
set_option maxHeartbeats 4000000 in
theorem numbers7_any (a : Rs) (w : World) :
    Calls Try.prog 44 #[.agg (rsA a)] w fun e w' => ∃ g, w.heap.size ≤ g ∧ e = .returned (.slice (some ⟨g, 0, none⟩) 5 5) ∧ Holds w' g 3 (intA (numL a)) ∧ Below w.heap.size w w' := by
  have HB := Lib.hid (Below.refl w.heap.size w)
  go_enter Try.func44, Try.ntmps44
  go_wp2_with (first | (refine big_slice rfl 31 3 5 _ rfl (#[.int .i64 a.p1, .int .i64 a.q1, .int .i64 a.q2, .int .i64 a.q3, .int .i64 a.p2]) Try.underlying31 rfl rfl rfl (of_decide_eq_true (by kernel_rfl)) (of_decide_eq_true (by kernel_rfl)) (by kernel_rfl) ?_; intro gK3 wK3 hlK3 nK3 hbK3; have K3 := Lib.hid nK3; have L3 := Lib.hid (Nat.le_trans (HB.out).size hlK3); replace HB := Lib.hid (bstep HB.out hbK3); clear hlK3 nK3 hbK3) | (refine big_box rfl 29 _ rfl (rsA a) rfl (by kernel_rfl) ?_; intro gK1 wK1 hlK1 nK1 hbK1; have K1 := Lib.hid nK1; have LK1 := Lib.hid (Nat.le_trans (HB.out).size hlK1); replace HB := Lib.hid (bstep HB.out hbK1); clear hlK1 nK1 hbK1; have K1x0 := (K1.out).reads (i := 0) (x := .int .i64 a.p1) rfl; have K1x1 := (K1.out).reads (i := 1) (x := .int .i64 a.p2) rfl; have K1x2 := (K1.out).reads (i := 2) (x := .int .i64 a.q1) rfl; have K1x3 := (K1.out).reads (i := 3) (x := .int .i64 a.q2) rfl; have K1x4 := (K1.out).reads (i := 4) (x := .int .i64 a.q3) rfl))
  go_ret
  exact ⟨gK3, L3.out, rfl, K3.out, HB.out⟩
theorem num_cell {w : World} {g : Nat} {t : TypeId} {a : Rs} (h : Holds w g t (intA (numL a))) {k : Nat} (hk : k < 5) : w.cell? ⟨g, k, none⟩ = some (.int .i64 ((numL a).getD k 0)) := by
  refine h.reads ?_
  match k, hk with
  | 0, _ => rfl
  | 1, _ => rfl
  | 2, _ => rfl
  | 3, _ => rfl
  | 4, _ => rfl
theorem num_step (a b : Rs) {k : Nat} (hk : k < 5) : cmpL ((numL a).drop k) ((numL b).drop k) = if (numL a).getD k 0 < (numL b).getD k 0 then -1 else if (numL b).getD k 0 < (numL a).getD k 0 then 1 else cmpL ((numL a).drop (k + 1)) ((numL b).drop (k + 1)) := by
  have ha : k < (numL a).length := hk
  have hb : k < (numL b).length := hk
  rw [List.drop_eq_getElem_cons ha, List.drop_eq_getElem_cons hb, cmpL]
  simp only [List.getD, List.getElem?_eq_getElem ha, List.getElem?_eq_getElem hb, Option.getD_some]
set_option maxHeartbeats 4000000 in
theorem rgrand_any (a b : Rs) (w : World) :
    Calls Try.prog 36 #[.agg (rsA a), .agg (rsA b)] w fun e w' => e = .returned (.int .i64 (grandN a b)) ∧ Below w.heap.size w w' := by
  have HB := Lib.hid (Below.refl w.heap.size w)
  go_enter Try.func36, Try.ntmps36
  go_wp2_with (first | (refine big_whole rfl 29 _ rfl gK1 rfl K1.out Try.underlying29 rfl (by kernel_rfl) ?_) | (refine big_box rfl 29 _ rfl (rsA b) rfl (by kernel_rfl) ?_; intro gK2 wK2 hlK2 nK2 hbK2; have K2 := Lib.hid nK2; have LK2 := Lib.hid (Nat.le_trans (HB.out).size hlK2); have NK1K2 := Lib.hid (show gK1 ≠ gK2 by have := (K1.out).inside; omega); replace K1 := Lib.hid ((K1.out).keptB hbK2); replace HB := Lib.hid (bstep HB.out hbK2); clear hlK2 nK2 hbK2) | (refine big_box rfl 29 _ rfl (rsA a) rfl (by kernel_rfl) ?_; intro gK1 wK1 hlK1 nK1 hbK1; have K1 := Lib.hid nK1; have LK1 := Lib.hid (Nat.le_trans (HB.out).size hlK1); replace HB := Lib.hid (bstep HB.out hbK1); clear hlK1 nK1 hbK1))
  refine (numbers7_any a _).mono ?_
  rintro e w1 ⟨gX, -, rfl, hX, h1⟩
  replace K1 := Lib.hid ((K1.out).keptB h1)
  replace K2 := Lib.hid ((K2.out).keptB h1)
  replace HB := Lib.hid (bstep HB.out h1)
  clear h1
  have KX := Lib.hid hX
  clear hX
  go_wp2_with ((refine big_whole rfl 29 _ rfl gK2 rfl K2.out Try.underlying29 rfl (by kernel_rfl) ?_))
  refine (numbers7_any b _).mono ?_
  rintro e w2 ⟨gY, -, rfl, hY, h2⟩
  replace K1 := Lib.hid ((K1.out).keptB h2)
  replace K2 := Lib.hid ((K2.out).keptB h2)
  replace KX := Lib.hid ((KX.out).keptB h2)
  replace HB := Lib.hid (bstep HB.out h2)
  clear h2
  have KY := Lib.hid hY
  clear hY
  go_wp2
  go_loopw [7] (fun i v => ∃ k : Nat, k ≤ 5 ∧ i = .int .i64 k ∧ Hid (cmpL (numL a) (numL b) = cmpL ((numL a).drop k) ((numL b).drop k)) ∧ Hid (Holds v gK1 29 (rsA a)) ∧ Hid (Holds v gK2 29 (rsA b)) ∧ Hid (Holds v gX 3 (intA (numL a))) ∧ Hid (Holds v gY 3 (intA (numL b))) ∧ Hid (Below w.heap.size w v)) (fun i _ => 5 - (intOf i).toNat)
  case atStart => exact ⟨0, by omega, rfl, Lib.hid rfl, K1, K2, KX, KY, HB⟩
  case round =>
    clear K1 K2 KX KY HB
    rename_i V
    obtain ⟨k, hk, rfl, HC, K1, K2, KX, KY, HB⟩ := hrel
    by_cases hlt : k < 5
    · obtain ⟨x, HX⟩ : ∃ x, Hid ((numL a).getD k 0 = x) := ⟨_, Lib.hid rfl⟩
      obtain ⟨y, HY⟩ : ∃ y, Hid ((numL b).getD k 0 = y) := ⟨_, Lib.hid rfl⟩
      have cx := num_cell KX.out hlt
      have cy := num_cell KY.out hlt
      rw [HX.out] at cx
      rw [HY.out] at cy
      have HS := Lib.hid (num_step a b hlt)
      rw [HX.out, HY.out, ← HC.out] at HS
      clear HC
      rcases Int.lt_trichotomy x y with h | h | h
      · have d1 : decide (x < y) = true := by simpa using h
        have HR : Hid (grandN a b = -1) := by unfold grandN; rw [Hid, HS.out, if_pos h]; simp
        clear h HS
        go_wp2
        go_quiet (fail)
        go_wp2
        go_ret
        exact ⟨ret_int (by rw [HR.out]), bdrawn HB.out _⟩
      · have d1 : decide (x < y) = false := by simp; omega
        have d2 : decide (y < x) = false := by simp; omega
        have HZ : Hid (cmpL (numL a) (numL b) = cmpL ((numL a).drop (k + 1)) ((numL b).drop (k + 1))) := by rw [Hid, HS.out, if_neg (by omega), if_neg (by omega)]
        clear h HS
        go_wp2
        go_quiet (fail)
        go_wp2
        go_quiet (fail)
        go_wp2
        go_roundw
        case rel => exact ⟨k + 1, by omega, by go_num, HZ, (K1.out).drawn _, (K2.out).drawn _, (KX.out).drawn _, (KY.out).drawn _, bdrawn HB.out _⟩
        case measure => simp [intOf]; omega
      · have d1 : decide (x < y) = false := by simp; omega
        have d2 : decide (y < x) = true := by simpa using h
        have HR : Hid (grandN a b = 1) := by unfold grandN; rw [Hid, HS.out, if_neg (show ¬ x < y by omega), if_pos h]; simp
        clear h HS
        go_wp2
        go_quiet (fail)
        go_wp2
        go_quiet (fail)
        go_wp2
        go_ret
        exact ⟨ret_int (by rw [HR.out]), bdrawn (bdrawn HB.out _) _⟩
    · have HR : Hid (grandN a b = cmpC a.gr b.gr) := by unfold grandN; rw [Hid, HC.out, List.drop_of_length_le (show (numL a).length ≤ k by simp [numL]; omega)]; simp [cmpL]
      go_wp2_with (first | (refine big_load rfl 25 _ rfl gK2 5 rfl K2.out [.int .u8 b.gr.b0, .int .u8 b.gr.b1, .int .u8 b.gr.b2, .int .u8 b.gr.b3, .int .u8 b.gr.b4, .int .u8 b.gr.b5, .int .u8 b.gr.b6, .int .u8 b.gr.b7] rfl Try.underlying25 rfl (by kernel_rfl) ?_) | (refine big_load rfl 25 _ rfl gK1 5 rfl K1.out [.int .u8 a.gr.b0, .int .u8 a.gr.b1, .int .u8 a.gr.b2, .int .u8 a.gr.b3, .int .u8 a.gr.b4, .int .u8 a.gr.b5, .int .u8 a.gr.b6, .int .u8 a.gr.b7] rfl Try.underlying25 rfl (by kernel_rfl) ?_))
      refine (rcompare_any a.gr b.gr _).mono ?_
      rintro e w3 ⟨rfl, h3⟩
      replace HB := Lib.hid (bstep HB.out h3)
      clear h3
      go_wp2
      go_ret
      exact ⟨ret_int (by rw [HR.out]), HB.out⟩
set_option maxHeartbeats 4000000 in
theorem rturn_any (n : Int) (w : World) :
    Calls Try.prog 37 #[.int .i64 n] w fun e w' => e = .returned (.int .i64 (turnN n)) ∧ w = w' := by
  by_cases h : n = 1
  · subst h
    go_enter Try.func37, Try.ntmps37
    go_wp2
    go_ret
    exact ⟨rfl, rfl⟩
  have e1 := h
  clear h
  by_cases h : n = 2
  · clear e1
    subst h
    go_enter Try.func37, Try.ntmps37
    go_wp2
    go_ret
    exact ⟨rfl, rfl⟩
  have e2 := h
  clear h
  by_cases h : n = 3
  · clear e1 e2
    subst h
    go_enter Try.func37, Try.ntmps37
    go_wp2
    go_ret
    exact ⟨rfl, rfl⟩
  have e3 := h
  clear h
  by_cases h : n = 4
  · clear e1 e2 e3
    subst h
    go_enter Try.func37, Try.ntmps37
    go_wp2
    go_ret
    exact ⟨rfl, rfl⟩
  have e4 := h
  clear h
  have HX : Hid (turnN n = n) := by unfold turnN; rw [Hid]; simp [e1, e2, e3, e4]
  have d1 : (n == 1) = false := by simp; omega
  have d2 : (n == 2) = false := by simp; omega
  have d3 : (n == 3) = false := by simp; omega
  have d4 : (n == 4) = false := by simp; omega
  clear e1 e2 e3 e4
  go_enter Try.func37, Try.ntmps37
  go_wp2
  go_ret
  exact ⟨ret_int (by rw [HX.out]), rfl⟩

end Go.Proofs.Ytpdnfeooijmgoaa
