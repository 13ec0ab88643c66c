/- The walks over rank's Compare and Less. -/
import Derived.Test.YtpdnfeooijmgoaaRankPlain
namespace Go.Proofs.Ytpdnfeooijmgoaa
set_option maxRecDepth 100000
open Go.RowKit
set_option linter.unusedVariables false

theorem ret_bool7 {a b : Bool} (h : a = b) : (Ending.returned (.bool a)) = .returned (.bool b) := by rw [h]
set_option maxHeartbeats 4000000 in
theorem comp7_any (a b : Rs) (w : World) (ha : a.ok) (hb : b.ok) :
    Calls Try.prog 43 #[.agg (rsA a), .agg (rsA b)] w fun e w' => e = .returned (.int .i64 (compN a b)) ∧ Below w.heap.size w w' := by
  have HB := Lib.hid (Below.refl w.heap.size w)
  have OA := Lib.hid ha
  have OB := Lib.hid hb
  clear ha hb
  cases hg : eqC a.gr b.gr
  · have HG := Lib.hid hg
    clear hg
    obtain ⟨n, HN⟩ : ∃ n, Hid (grandN a b = n) := ⟨_, Lib.hid rfl⟩
    by_cases hn : n < 0
    · have HX : Hid (compN a b = 1) := by unfold compN; rw [Hid, if_pos HG.out, HN.out, if_pos hn]
      have d0 : decide (n < 0) = true := by simpa using hn
      clear hn
      go_enter Try.func43, Try.ntmps43
      go_wp2_with (first | (refine big_whole rfl 29 _ rfl gK2 rfl K2.out Try.underlying29 rfl (by kernel_rfl) ?_) | (refine big_whole rfl 29 _ rfl gK1 rfl K1.out Try.underlying29 rfl (by kernel_rfl) ?_) | (refine big_cmp rfl .neq 25 _ _ _ rfl (#[.int .u8 a.gr.b0, .int .u8 a.gr.b1, .int .u8 a.gr.b2, .int .u8 a.gr.b3, .int .u8 a.gr.b4, .int .u8 a.gr.b5, .int .u8 a.gr.b6, .int .u8 a.gr.b7]) (#[.int .u8 b.gr.b0, .int .u8 b.gr.b1, .int .u8 b.gr.b2, .int .u8 b.gr.b3, .int .u8 b.gr.b4, .int .u8 b.gr.b5, .int .u8 b.gr.b6, .int .u8 b.gr.b7]) rfl rfl (by kernel_rfl) true (fun v => (neq_clock a.gr b.gr v).trans (by rw [HG.out]; rfl)) ?_) | (refine big_load rfl 25 _ rfl gK2 5 rfl K2.out [.int .u8 b.gr.b0, .int .u8 b.gr.b1, .int .u8 b.gr.b2, .int .u8 b.gr.b3, .int .u8 b.gr.b4, .int .u8 b.gr.b5, .int .u8 b.gr.b6, .int .u8 b.gr.b7] rfl Try.underlying25 rfl (by kernel_rfl) ?_) | (refine big_load rfl 25 _ rfl gK1 5 rfl K1.out [.int .u8 a.gr.b0, .int .u8 a.gr.b1, .int .u8 a.gr.b2, .int .u8 a.gr.b3, .int .u8 a.gr.b4, .int .u8 a.gr.b5, .int .u8 a.gr.b6, .int .u8 a.gr.b7] rfl Try.underlying25 rfl (by kernel_rfl) ?_) | (refine big_box rfl 29 _ rfl (rsA b) rfl (by kernel_rfl) ?_; intro gK2 wK2 hlK2 nK2 hbK2; have K2 := Lib.hid nK2; have LK2 := Lib.hid (Nat.le_trans (HB.out).size hlK2); have NK1K2 := Lib.hid (show gK1 ≠ gK2 by have := (K1.out).inside; omega); replace K1 := Lib.hid ((K1.out).keptB hbK2); replace HB := Lib.hid (bstep HB.out hbK2); clear hlK2 nK2 hbK2) | (refine big_box rfl 29 _ rfl (rsA a) rfl (by kernel_rfl) ?_; intro gK1 wK1 hlK1 nK1 hbK1; have K1 := Lib.hid nK1; have LK1 := Lib.hid (Nat.le_trans (HB.out).size hlK1); replace HB := Lib.hid (bstep HB.out hbK1); clear hlK1 nK1 hbK1))
      refine (grand_any a b _).mono ?_
      rintro e w1 ⟨rfl, h1⟩
      rw [HN.out]
      replace K1 := Lib.hid ((K1.out).keptB h1)
      replace K2 := Lib.hid ((K2.out).keptB h1)
      replace HB := Lib.hid (bstep HB.out h1)
      clear h1
      go_wp2
      go_ret
      exact ⟨ret_int (by rw [HX.out]), HB.out⟩
    · have HX : Hid (compN a b = 3) := by unfold compN; rw [Hid, if_pos HG.out, HN.out, if_neg hn]
      have d0 : decide (n < 0) = false := by simpa using hn
      clear hn
      go_enter Try.func43, Try.ntmps43
      go_wp2_with (first | (refine big_whole rfl 29 _ rfl gK2 rfl K2.out Try.underlying29 rfl (by kernel_rfl) ?_) | (refine big_whole rfl 29 _ rfl gK1 rfl K1.out Try.underlying29 rfl (by kernel_rfl) ?_) | (refine big_cmp rfl .neq 25 _ _ _ rfl (#[.int .u8 a.gr.b0, .int .u8 a.gr.b1, .int .u8 a.gr.b2, .int .u8 a.gr.b3, .int .u8 a.gr.b4, .int .u8 a.gr.b5, .int .u8 a.gr.b6, .int .u8 a.gr.b7]) (#[.int .u8 b.gr.b0, .int .u8 b.gr.b1, .int .u8 b.gr.b2, .int .u8 b.gr.b3, .int .u8 b.gr.b4, .int .u8 b.gr.b5, .int .u8 b.gr.b6, .int .u8 b.gr.b7]) rfl rfl (by kernel_rfl) true (fun v => (neq_clock a.gr b.gr v).trans (by rw [HG.out]; rfl)) ?_) | (refine big_load rfl 25 _ rfl gK2 5 rfl K2.out [.int .u8 b.gr.b0, .int .u8 b.gr.b1, .int .u8 b.gr.b2, .int .u8 b.gr.b3, .int .u8 b.gr.b4, .int .u8 b.gr.b5, .int .u8 b.gr.b6, .int .u8 b.gr.b7] rfl Try.underlying25 rfl (by kernel_rfl) ?_) | (refine big_load rfl 25 _ rfl gK1 5 rfl K1.out [.int .u8 a.gr.b0, .int .u8 a.gr.b1, .int .u8 a.gr.b2, .int .u8 a.gr.b3, .int .u8 a.gr.b4, .int .u8 a.gr.b5, .int .u8 a.gr.b6, .int .u8 a.gr.b7] rfl Try.underlying25 rfl (by kernel_rfl) ?_) | (refine big_box rfl 29 _ rfl (rsA b) rfl (by kernel_rfl) ?_; intro gK2 wK2 hlK2 nK2 hbK2; have K2 := Lib.hid nK2; have LK2 := Lib.hid (Nat.le_trans (HB.out).size hlK2); have NK1K2 := Lib.hid (show gK1 ≠ gK2 by have := (K1.out).inside; omega); replace K1 := Lib.hid ((K1.out).keptB hbK2); replace HB := Lib.hid (bstep HB.out hbK2); clear hlK2 nK2 hbK2) | (refine big_box rfl 29 _ rfl (rsA a) rfl (by kernel_rfl) ?_; intro gK1 wK1 hlK1 nK1 hbK1; have K1 := Lib.hid nK1; have LK1 := Lib.hid (Nat.le_trans (HB.out).size hlK1); replace HB := Lib.hid (bstep HB.out hbK1); clear hlK1 nK1 hbK1))
      refine (grand_any a b _).mono ?_
      rintro e w1 ⟨rfl, h1⟩
      rw [HN.out]
      replace K1 := Lib.hid ((K1.out).keptB h1)
      replace K2 := Lib.hid ((K2.out).keptB h1)
      replace HB := Lib.hid (bstep HB.out h1)
      clear h1
      go_wp2_with (first | (refine big_cmp rfl .neq 25 _ _ _ rfl (#[.int .u8 a.gr.b0, .int .u8 a.gr.b1, .int .u8 a.gr.b2, .int .u8 a.gr.b3, .int .u8 a.gr.b4, .int .u8 a.gr.b5, .int .u8 a.gr.b6, .int .u8 a.gr.b7]) (#[.int .u8 b.gr.b0, .int .u8 b.gr.b1, .int .u8 b.gr.b2, .int .u8 b.gr.b3, .int .u8 b.gr.b4, .int .u8 b.gr.b5, .int .u8 b.gr.b6, .int .u8 b.gr.b7]) rfl rfl (by kernel_rfl) true (fun v => (neq_clock a.gr b.gr v).trans (by rw [HG.out]; rfl)) ?_) | (refine big_load rfl 25 _ rfl gK2 5 rfl K2.out [.int .u8 b.gr.b0, .int .u8 b.gr.b1, .int .u8 b.gr.b2, .int .u8 b.gr.b3, .int .u8 b.gr.b4, .int .u8 b.gr.b5, .int .u8 b.gr.b6, .int .u8 b.gr.b7] rfl Try.underlying25 rfl (by kernel_rfl) ?_) | (refine big_load rfl 25 _ rfl gK1 5 rfl K1.out [.int .u8 a.gr.b0, .int .u8 a.gr.b1, .int .u8 a.gr.b2, .int .u8 a.gr.b3, .int .u8 a.gr.b4, .int .u8 a.gr.b5, .int .u8 a.gr.b6, .int .u8 a.gr.b7] rfl Try.underlying25 rfl (by kernel_rfl) ?_))
      go_ret
      exact ⟨ret_int (by rw [HX.out]), HB.out⟩
  · have HG := Lib.hid hg
    clear hg
    by_cases h1 : b.st < a.st
    · have HX : Hid (compN a b = farN a b.st) := by unfold compN; rw [Hid, if_neg (by rw [HG.out]; simp), if_pos h1]
      have d1 : decide (b.st < a.st) = true := by simpa using h1
      have HF := Lib.hid (show b.st + 1 ≤ 9223372036854775807 by have := (OA.out).hi; omega)
      clear h1 
      go_enter Try.func43, Try.ntmps43
      go_wp2_with (first | (refine big_whole rfl 29 _ rfl gK2 rfl K2.out Try.underlying29 rfl (by kernel_rfl) ?_) | (refine big_whole rfl 29 _ rfl gK1 rfl K1.out Try.underlying29 rfl (by kernel_rfl) ?_) | (refine big_cmp rfl .neq 25 _ _ _ rfl (#[.int .u8 a.gr.b0, .int .u8 a.gr.b1, .int .u8 a.gr.b2, .int .u8 a.gr.b3, .int .u8 a.gr.b4, .int .u8 a.gr.b5, .int .u8 a.gr.b6, .int .u8 a.gr.b7]) (#[.int .u8 b.gr.b0, .int .u8 b.gr.b1, .int .u8 b.gr.b2, .int .u8 b.gr.b3, .int .u8 b.gr.b4, .int .u8 b.gr.b5, .int .u8 b.gr.b6, .int .u8 b.gr.b7]) rfl rfl (by kernel_rfl) false (fun v => (neq_clock a.gr b.gr v).trans (by rw [HG.out]; rfl)) ?_) | (refine big_load rfl 25 _ rfl gK2 5 rfl K2.out [.int .u8 b.gr.b0, .int .u8 b.gr.b1, .int .u8 b.gr.b2, .int .u8 b.gr.b3, .int .u8 b.gr.b4, .int .u8 b.gr.b5, .int .u8 b.gr.b6, .int .u8 b.gr.b7] rfl Try.underlying25 rfl (by kernel_rfl) ?_) | (refine big_load rfl 25 _ rfl gK1 5 rfl K1.out [.int .u8 a.gr.b0, .int .u8 a.gr.b1, .int .u8 a.gr.b2, .int .u8 a.gr.b3, .int .u8 a.gr.b4, .int .u8 a.gr.b5, .int .u8 a.gr.b6, .int .u8 a.gr.b7] rfl Try.underlying25 rfl (by kernel_rfl) ?_) | (refine big_box rfl 29 _ rfl (rsA b) rfl (by kernel_rfl) ?_; intro gK2 wK2 hlK2 nK2 hbK2; have K2 := Lib.hid nK2; have LK2 := Lib.hid (Nat.le_trans (HB.out).size hlK2); have NK1K2 := Lib.hid (show gK1 ≠ gK2 by have := (K1.out).inside; omega); replace K1 := Lib.hid ((K1.out).keptB hbK2); replace HB := Lib.hid (bstep HB.out hbK2); clear hlK2 nK2 hbK2; have K1x13 := (K1.out).reads (i := 13) (x := .int .i64 a.st) rfl; have K2x13 := (K2.out).reads (i := 13) (x := .int .i64 b.st) rfl) | (refine big_box rfl 29 _ rfl (rsA a) rfl (by kernel_rfl) ?_; intro gK1 wK1 hlK1 nK1 hbK1; have K1 := Lib.hid nK1; have LK1 := Lib.hid (Nat.le_trans (HB.out).size hlK1); replace HB := Lib.hid (bstep HB.out hbK1); clear hlK1 nK1 hbK1))
      clear K1x13 K2x13
      refine (further_any a b.st _ (OB.out).lo HF.out).mono ?_
      rintro e w1 ⟨rfl, h1⟩
      replace K1 := Lib.hid ((K1.out).keptB h1)
      replace K2 := Lib.hid ((K2.out).keptB h1)
      replace HB := Lib.hid (bstep HB.out h1)
      clear h1
      go_wp2
      go_ret
      exact ⟨ret_int (by rw [HX.out]), HB.out⟩
    · by_cases h2 : a.st < b.st
      · have HX : Hid (compN a b = turnN (farN b a.st)) := by unfold compN; rw [Hid, if_neg (by rw [HG.out]; simp), if_neg h1, if_pos h2]
        have d1 : decide (b.st < a.st) = false := by simpa using h1
        have d2 : decide (a.st < b.st) = true := by simpa using h2
        have HF := Lib.hid (show a.st + 1 ≤ 9223372036854775807 by have := (OB.out).hi; omega)
        clear h1 h2 
        go_enter Try.func43, Try.ntmps43
        go_wp2_with (first | (refine big_whole rfl 29 _ rfl gK2 rfl K2.out Try.underlying29 rfl (by kernel_rfl) ?_) | (refine big_whole rfl 29 _ rfl gK1 rfl K1.out Try.underlying29 rfl (by kernel_rfl) ?_) | (refine big_cmp rfl .neq 25 _ _ _ rfl (#[.int .u8 a.gr.b0, .int .u8 a.gr.b1, .int .u8 a.gr.b2, .int .u8 a.gr.b3, .int .u8 a.gr.b4, .int .u8 a.gr.b5, .int .u8 a.gr.b6, .int .u8 a.gr.b7]) (#[.int .u8 b.gr.b0, .int .u8 b.gr.b1, .int .u8 b.gr.b2, .int .u8 b.gr.b3, .int .u8 b.gr.b4, .int .u8 b.gr.b5, .int .u8 b.gr.b6, .int .u8 b.gr.b7]) rfl rfl (by kernel_rfl) false (fun v => (neq_clock a.gr b.gr v).trans (by rw [HG.out]; rfl)) ?_) | (refine big_load rfl 25 _ rfl gK2 5 rfl K2.out [.int .u8 b.gr.b0, .int .u8 b.gr.b1, .int .u8 b.gr.b2, .int .u8 b.gr.b3, .int .u8 b.gr.b4, .int .u8 b.gr.b5, .int .u8 b.gr.b6, .int .u8 b.gr.b7] rfl Try.underlying25 rfl (by kernel_rfl) ?_) | (refine big_load rfl 25 _ rfl gK1 5 rfl K1.out [.int .u8 a.gr.b0, .int .u8 a.gr.b1, .int .u8 a.gr.b2, .int .u8 a.gr.b3, .int .u8 a.gr.b4, .int .u8 a.gr.b5, .int .u8 a.gr.b6, .int .u8 a.gr.b7] rfl Try.underlying25 rfl (by kernel_rfl) ?_) | (refine big_box rfl 29 _ rfl (rsA b) rfl (by kernel_rfl) ?_; intro gK2 wK2 hlK2 nK2 hbK2; have K2 := Lib.hid nK2; have LK2 := Lib.hid (Nat.le_trans (HB.out).size hlK2); have NK1K2 := Lib.hid (show gK1 ≠ gK2 by have := (K1.out).inside; omega); replace K1 := Lib.hid ((K1.out).keptB hbK2); replace HB := Lib.hid (bstep HB.out hbK2); clear hlK2 nK2 hbK2; have K1x13 := (K1.out).reads (i := 13) (x := .int .i64 a.st) rfl; have K2x13 := (K2.out).reads (i := 13) (x := .int .i64 b.st) rfl) | (refine big_box rfl 29 _ rfl (rsA a) rfl (by kernel_rfl) ?_; intro gK1 wK1 hlK1 nK1 hbK1; have K1 := Lib.hid nK1; have LK1 := Lib.hid (Nat.le_trans (HB.out).size hlK1); replace HB := Lib.hid (bstep HB.out hbK1); clear hlK1 nK1 hbK1))
        clear K1x13 K2x13
        refine (further_any b a.st _ (OA.out).lo HF.out).mono ?_
        rintro e w1 ⟨rfl, h1⟩
        replace K1 := Lib.hid ((K1.out).keptB h1)
        replace K2 := Lib.hid ((K2.out).keptB h1)
        replace HB := Lib.hid (bstep HB.out h1)
        clear h1
        go_wp2_with fail
        refine (turn7_any _ _).mono ?_
        rintro e w2 ⟨rfl, rfl⟩
        go_wp2
        go_ret
        exact ⟨ret_int (by rw [HX.out]), HB.out⟩
      · have HX : Hid (compN a b = wayN a b) := by unfold compN; rw [Hid, if_neg (by rw [HG.out]; simp), if_neg h1, if_neg h2]
        have d1 : decide (b.st < a.st) = false := by simpa using h1
        have d2 : decide (a.st < b.st) = false := by simpa using h2
        clear h1 h2 
        go_enter Try.func43, Try.ntmps43
        go_wp2_with (first | (refine big_whole rfl 29 _ rfl gK2 rfl K2.out Try.underlying29 rfl (by kernel_rfl) ?_) | (refine big_whole rfl 29 _ rfl gK1 rfl K1.out Try.underlying29 rfl (by kernel_rfl) ?_) | (refine big_cmp rfl .neq 25 _ _ _ rfl (#[.int .u8 a.gr.b0, .int .u8 a.gr.b1, .int .u8 a.gr.b2, .int .u8 a.gr.b3, .int .u8 a.gr.b4, .int .u8 a.gr.b5, .int .u8 a.gr.b6, .int .u8 a.gr.b7]) (#[.int .u8 b.gr.b0, .int .u8 b.gr.b1, .int .u8 b.gr.b2, .int .u8 b.gr.b3, .int .u8 b.gr.b4, .int .u8 b.gr.b5, .int .u8 b.gr.b6, .int .u8 b.gr.b7]) rfl rfl (by kernel_rfl) false (fun v => (neq_clock a.gr b.gr v).trans (by rw [HG.out]; rfl)) ?_) | (refine big_load rfl 25 _ rfl gK2 5 rfl K2.out [.int .u8 b.gr.b0, .int .u8 b.gr.b1, .int .u8 b.gr.b2, .int .u8 b.gr.b3, .int .u8 b.gr.b4, .int .u8 b.gr.b5, .int .u8 b.gr.b6, .int .u8 b.gr.b7] rfl Try.underlying25 rfl (by kernel_rfl) ?_) | (refine big_load rfl 25 _ rfl gK1 5 rfl K1.out [.int .u8 a.gr.b0, .int .u8 a.gr.b1, .int .u8 a.gr.b2, .int .u8 a.gr.b3, .int .u8 a.gr.b4, .int .u8 a.gr.b5, .int .u8 a.gr.b6, .int .u8 a.gr.b7] rfl Try.underlying25 rfl (by kernel_rfl) ?_) | (refine big_box rfl 29 _ rfl (rsA b) rfl (by kernel_rfl) ?_; intro gK2 wK2 hlK2 nK2 hbK2; have K2 := Lib.hid nK2; have LK2 := Lib.hid (Nat.le_trans (HB.out).size hlK2); have NK1K2 := Lib.hid (show gK1 ≠ gK2 by have := (K1.out).inside; omega); replace K1 := Lib.hid ((K1.out).keptB hbK2); replace HB := Lib.hid (bstep HB.out hbK2); clear hlK2 nK2 hbK2; have K1x13 := (K1.out).reads (i := 13) (x := .int .i64 a.st) rfl; have K2x13 := (K2.out).reads (i := 13) (x := .int .i64 b.st) rfl) | (refine big_box rfl 29 _ rfl (rsA a) rfl (by kernel_rfl) ?_; intro gK1 wK1 hlK1 nK1 hbK1; have K1 := Lib.hid nK1; have LK1 := Lib.hid (Nat.le_trans (HB.out).size hlK1); replace HB := Lib.hid (bstep HB.out hbK1); clear hlK1 nK1 hbK1))
        clear K1x13 K2x13
        refine (byWay_any a b _ OA.out OB.out).mono ?_
        rintro e w1 ⟨rfl, h1⟩
        replace K1 := Lib.hid ((K1.out).keptB h1)
        replace K2 := Lib.hid ((K2.out).keptB h1)
        replace HB := Lib.hid (bstep HB.out h1)
        clear h1
        go_wp2
        go_ret
        exact ⟨ret_int (by rw [HX.out]), HB.out⟩
set_option maxHeartbeats 4000000 in
theorem less7_any (a b : Rs) (w : World) (ha : a.ok) (hb : b.ok) :
    Calls Try.prog 40 #[.agg (rsA a), .agg (rsA b)] w fun e w' => e = .returned (.bool (lessB a b)) ∧ Below w.heap.size w w' := by
  have HB := Lib.hid (Below.refl w.heap.size w)
  have OA := Lib.hid ha
  have OB := Lib.hid hb
  clear ha hb
  obtain ⟨n, HN⟩ : ∃ n, Hid (compN a b = n) := ⟨_, Lib.hid rfl⟩
  by_cases h1 : n = 1
  · have HX : Hid (lessB a b = true) := by unfold lessB; rw [Hid, HN.out]; simp [h1]
    have d1 : (n == 1) = true := by simp [h1]
    clear h1 
    go_enter Try.func40, Try.ntmps40
    go_wp2_with (first | (refine big_whole rfl 29 _ rfl gK2 rfl K2.out Try.underlying29 rfl (by kernel_rfl) ?_) | (refine big_whole rfl 29 _ rfl gK1 rfl K1.out Try.underlying29 rfl (by kernel_rfl) ?_) | (refine big_box rfl 29 _ rfl (rsA b) rfl (by kernel_rfl) ?_; intro gK2 wK2 hlK2 nK2 hbK2; have K2 := Lib.hid nK2; have LK2 := Lib.hid (Nat.le_trans (HB.out).size hlK2); have NK1K2 := Lib.hid (show gK1 ≠ gK2 by have := (K1.out).inside; omega); replace K1 := Lib.hid ((K1.out).keptB hbK2); replace HB := Lib.hid (bstep HB.out hbK2); clear hlK2 nK2 hbK2) | (refine big_box rfl 29 _ rfl (rsA a) rfl (by kernel_rfl) ?_; intro gK1 wK1 hlK1 nK1 hbK1; have K1 := Lib.hid nK1; have LK1 := Lib.hid (Nat.le_trans (HB.out).size hlK1); replace HB := Lib.hid (bstep HB.out hbK1); clear hlK1 nK1 hbK1))
    refine (comp7_any a b _ OA.out OB.out).mono ?_
    rintro e w1 ⟨rfl, h1⟩
    rw [HN.out]
    replace K1 := Lib.hid ((K1.out).keptB h1)
    replace K2 := Lib.hid ((K2.out).keptB h1)
    replace HB := Lib.hid (bstep HB.out h1)
    clear h1
    go_wp2
    go_ret
    exact ⟨ret_bool7 HX.out.symm, HB.out⟩
  · by_cases h2 : n = 2
    · have HX : Hid (lessB a b = true) := by unfold lessB; rw [Hid, HN.out]; simp [h2]
      have d1 : (n == 1) = false := by simp [h1]
      have d2 : (n == 2) = true := by simp [h2]
      clear h1 h2
      go_enter Try.func40, Try.ntmps40
      go_wp2_with (first | (refine big_whole rfl 29 _ rfl gK2 rfl K2.out Try.underlying29 rfl (by kernel_rfl) ?_) | (refine big_whole rfl 29 _ rfl gK1 rfl K1.out Try.underlying29 rfl (by kernel_rfl) ?_) | (refine big_box rfl 29 _ rfl (rsA b) rfl (by kernel_rfl) ?_; intro gK2 wK2 hlK2 nK2 hbK2; have K2 := Lib.hid nK2; have LK2 := Lib.hid (Nat.le_trans (HB.out).size hlK2); have NK1K2 := Lib.hid (show gK1 ≠ gK2 by have := (K1.out).inside; omega); replace K1 := Lib.hid ((K1.out).keptB hbK2); replace HB := Lib.hid (bstep HB.out hbK2); clear hlK2 nK2 hbK2) | (refine big_box rfl 29 _ rfl (rsA a) rfl (by kernel_rfl) ?_; intro gK1 wK1 hlK1 nK1 hbK1; have K1 := Lib.hid nK1; have LK1 := Lib.hid (Nat.le_trans (HB.out).size hlK1); replace HB := Lib.hid (bstep HB.out hbK1); clear hlK1 nK1 hbK1))
      refine (comp7_any a b _ OA.out OB.out).mono ?_
      rintro e w1 ⟨rfl, h1⟩
      rw [HN.out]
      replace K1 := Lib.hid ((K1.out).keptB h1)
      replace K2 := Lib.hid ((K2.out).keptB h1)
      replace HB := Lib.hid (bstep HB.out h1)
      clear h1
      go_wp2
      go_ret
      exact ⟨ret_bool7 HX.out.symm, HB.out⟩
    · have HX : Hid (lessB a b = false) := by unfold lessB; rw [Hid, HN.out]; simp [h1, h2]
      have d1 : (n == 1) = false := by simp [h1]
      have d2 : (n == 2) = false := by simp [h2]
      clear h1 h2
      go_enter Try.func40, Try.ntmps40
      go_wp2_with (first | (refine big_whole rfl 29 _ rfl gK2 rfl K2.out Try.underlying29 rfl (by kernel_rfl) ?_) | (refine big_whole rfl 29 _ rfl gK1 rfl K1.out Try.underlying29 rfl (by kernel_rfl) ?_) | (refine big_box rfl 29 _ rfl (rsA b) rfl (by kernel_rfl) ?_; intro gK2 wK2 hlK2 nK2 hbK2; have K2 := Lib.hid nK2; have LK2 := Lib.hid (Nat.le_trans (HB.out).size hlK2); have NK1K2 := Lib.hid (show gK1 ≠ gK2 by have := (K1.out).inside; omega); replace K1 := Lib.hid ((K1.out).keptB hbK2); replace HB := Lib.hid (bstep HB.out hbK2); clear hlK2 nK2 hbK2) | (refine big_box rfl 29 _ rfl (rsA a) rfl (by kernel_rfl) ?_; intro gK1 wK1 hlK1 nK1 hbK1; have K1 := Lib.hid nK1; have LK1 := Lib.hid (Nat.le_trans (HB.out).size hlK1); replace HB := Lib.hid (bstep HB.out hbK1); clear hlK1 nK1 hbK1))
      refine (comp7_any a b _ OA.out OB.out).mono ?_
      rintro e w1 ⟨rfl, h1⟩
      rw [HN.out]
      replace K1 := Lib.hid ((K1.out).keptB h1)
      replace K2 := Lib.hid ((K2.out).keptB h1)
      replace HB := Lib.hid (bstep HB.out h1)
      clear h1
      go_wp2
      go_ret
      exact ⟨ret_bool7 HX.out.symm, HB.out⟩

end Go.Proofs.Ytpdnfeooijmgoaa
