/- The walks over the reference's less, value, same and whole. -/
import Derived.Test.YtblbjljfcoeeeaaRefTimes
namespace Go.Proofs.Ytblbjljfcoeeeaa
set_option maxRecDepth 100000
open Go.RowKit

set_option maxHeartbeats 2000000 in
theorem rless_any (A B : Option Addr) (la lb ca cb : Nat) (a b : List Int) (w : World) (ha : Row w A la ca a) (hb : Row w B lb cb b) (da : Dig a) (db : Dig b) (hla : la ≤ 900) (hlb : lb ≤ 900) :
    Calls Try.prog 40 #[.slice A la ca, .slice B lb cb] w fun e w' => e = .returned (.bool (decide (val a < val b))) ∧ Below w.heap.size w w' := by
  have HA := Lib.hid ha
  have HB := Lib.hid hb
  have DA := Lib.hid da
  have DB := Lib.hid db
  clear ha hb da db
  go_enter Try.func40, Try.ntmps40
  go_wp2_with fail
  refine (rtrim_any A la ca a _ HA.out (by omega)).mono ?_
  rintro e w2 ⟨m, hm, rfl, hrow, htr, hval, rfl⟩
  have HR := Lib.hid hrow
  have HT := Lib.hid htr
  have HV := Lib.hid hval
  have e1 := HA.out.1
  have hm' : m ≤ la := by omega
  clear hrow htr hval hm e1
  go_wp2_with fail
  refine (rtrim_any B lb cb b _ HB.out (by omega)).mono ?_
  rintro e w2 ⟨n, hn, rfl, hrow, htr, hval, rfl⟩
  have HR2 := Lib.hid hrow
  have HT2 := Lib.hid htr
  have HV2 := Lib.hid hval
  have e1 := HB.out.1
  have hn' : n ≤ lb := by omega
  clear hrow htr hval hn e1
  have HD := Lib.hid (DA.out.take m)
  have HD2 := Lib.hid (DB.out.take n)
  generalize a.take m = x at *
  generalize b.take n = y at *
  by_cases hne : m = n
  · subst hne
    go_wp2
    go_loopw [5] (fun iv wr => ∃ j : Nat, j ≤ m ∧ iv = .int .i64 ((j : Int) - 1) ∧ Hid (val (x.drop j) = val (y.drop j)) ∧ ∃ n, wr = w.drewN n) (fun iv _ => (intOf iv + 1).toNat)
    case atStart =>
      have e1 := HR.out.1
      have e2 := HR2.out.1
      exact ⟨m, Nat.le_refl _, rfl, Lib.hid (by rw [List.drop_of_length_le (by omega), List.drop_of_length_le (by omega)]), 0, rfl⟩
    case round =>
      obtain ⟨j, hj, rfl, HE, nd, rfl⟩ := hrel
      by_cases hlt : 0 < j
      · obtain ⟨k, rfl⟩ : ∃ k, j = k + 1 := ⟨j - 1, by omega⟩
        obtain ⟨l1, _, h3⟩ := HR.out
        obtain ⟨g, rfl, hg, hc⟩ := h3 (by omega)
        obtain ⟨l2, _, h4⟩ := HR2.out
        obtain ⟨g2, rfl, hg2, hc2⟩ := h4 (by omega)
        obtain ⟨u, hu⟩ : ∃ u, u = x.getD k 0 := ⟨_, rfl⟩
        obtain ⟨v, hv⟩ : ∃ u, u = y.getD k 0 := ⟨_, rfl⟩
        have c0 : w.cell? ⟨g, k, none⟩ = some (.int .i64 u) := by rw [hu]; exact hc k (by omega)
        have c1 : w.cell? ⟨g2, k, none⟩ = some (.int .i64 v) := by rw [hv]; exact hc2 k (by omega)
        have HU := Lib.hid hu
        have HV' := Lib.hid hv
        have L1 := Lib.hid l1
        have L2 := Lib.hid l2
        have p1 : (0 : Int) ≤ (k : Int) := by omega
        have p2 : (k : Int) < (m : Int) := by omega
        clear hu hv hc hc2 h3 h4 l1 l2
        by_cases huv : u = v
        · subst huv
          go_wp2
          go_quiet (fail)
          go_wp2
          go_roundw
          case rel =>
            refine ⟨k, by omega, rfl, Lib.hid ?_, _, rfl⟩
            have e1 := L1.out
            have e2 := L2.out
            rw [val_drop (by omega), val_drop (show k < y.length by omega), ← HU.out, ← HV'.out, HE.out]
          case measure => simp [intOf]
        · have hq : (u != v) = true := by simp [huv]
          have HF : Hid (decide (u < v) = decide (val a < val b)) := by
            have e1 := L1.out
            have e2 := L2.out
            rw [Hid, decide_eq_decide, ← HV.out, ← HV2.out]
            constructor
            · intro h
              exact high_lt HD.out HD2.out (by omega) (k := k) (by omega) HE.out (by rw [← HU.out, ← HV'.out]; exact h)
            · intro h
              by_cases h2 : v < u
              · have := high_lt HD2.out HD.out (by omega) (k := k) (by omega) HE.out.symm (by rw [← HU.out, ← HV'.out]; exact h2)
                omega
              · omega
          go_wp2
          go_quiet (fail)
          go_wp2
          go_quiet (fail)
          go_wp2
          go_ret
          exact ⟨ret_bool HF.out, bdrawn (bdrawn (bdrawn (Below.refl _ _) _) _) _⟩
      · obtain rfl : j = 0 := by omega
        have HF : Hid (false = decide (val a < val b)) := by
          have := HE.out
          rw [List.drop_zero, List.drop_zero] at this
          rw [Hid, ← HV.out, ← HV2.out, this]; simp
        go_wp2
        go_ret
        exact ⟨ret_bool HF.out, bdrawn (Below.refl _ _) _⟩
  · have hne' : ((m : Int) != (n : Int)) = true := by simp; omega
    have HF : Hid (decide (m < n) = decide (val a < val b)) := by
      have e1 := HR.out.1
      have e2 := HR2.out.1
      rw [Hid, decide_eq_decide, ← HV.out, ← HV2.out]
      constructor
      · intro h; exact len_lt HD.out HD2.out HT2.out (by omega)
      · intro h
        by_cases h2 : n < m
        · have := len_lt HD2.out HD.out HT.out (by omega)
          omega
        · omega
    go_wp2
    go_ret
    exact ⟨ret_bool HF.out, Below.refl _ _⟩

/-- digits of a number that is told, as a contract for plain use -/
theorem val_low {ds : List Int} {k : Nat} (hd : Dig ds) (h : k ≤ ds.length) : val (ds.drop k) ≤ val ds := by
  rw [val_split ds k h]
  have h1 := (val_bd (hd.take k)).1
  have h2 := (val_bd (hd.drop k)).1
  have h3 : (1 : Int) * val (ds.drop k) ≤ 32768 ^ k * val (ds.drop k) := Int.mul_le_mul_of_nonneg_right (by have := base_pos k; omega) h2
  omega

set_option maxHeartbeats 2000000 in
theorem rvalue_any (A : Option Addr) (n c : Nat) (ds : List Int) (w : World) (h : Row w A n c ds) (hd : Dig ds) (hn : n ≤ 800) :
    Calls Try.prog 69 #[.slice A n c] w fun e w' =>
      e = .returned (.tuple #[.int .i64 (told (decide (val ds ≤ 4611686018427387904)) (val ds)), .bool (decide (val ds ≤ 4611686018427387904))]) ∧ Below w.heap.size w w' := by
  have HR := Lib.hid h
  have HD := Lib.hid hd
  clear h hd
  go_enter Try.func69, Try.ntmps69
  go_wp2_with fail
  refine (rtrim_any A n c ds _ HR.out (by omega)).mono ?_
  rintro e w2 ⟨m, hm, rfl, hrow, htr, hval, rfl⟩
  have hl := HR.out.1
  have hm' : m ≤ n := by omega
  have HX := Lib.hid (HD.out.take m)
  have HRX := Lib.hid hrow
  have HV := Lib.hid hval
  clear hrow htr hval hm hl HR HD
  generalize ds.take m = x at *
  go_wp2_with fail
  refine (rdigits_any 4611686018427387904 _ (by omega) (by omega)).mono ?_
  rintro e w1 ⟨A1, k1, c1, es, rfl, hr1, hd1, _, hv1, hk1, hb1⟩
  have HR1 := Lib.hid hr1
  have HD1 := Lib.hid hd1
  have HV1 := Lib.hid hv1
  clear hr1 hd1 hv1
  go_wp2_with fail
  refine (rless_any A1 A k1 m c1 c es x _ HR1.out (HRX.out.below hb1) HD1.out HX.out (by omega) (by omega)).mono ?_
  rintro e w3 ⟨rfl, hb3⟩
  rw [HV1.out, HV.out]
  by_cases hs : 4611686018427387904 < val ds
  · have HF := Lib.hid (show decide (val ds ≤ 4611686018427387904) = false by simp; omega)
    have hs' : decide (4611686018427387904 < val ds) = true := by simp [hs]
    clear hs
    go_wp2
    go_ret2
    exact ⟨by rw [HF.out]; rfl, bstep hb1 hb3⟩
  · have HF := Lib.hid (show decide (val ds ≤ 4611686018427387904) = true by simp; omega)
    have hs' : decide (4611686018427387904 < val ds) = false := by simp; omega
    have HS : Hid (val x ≤ 4611686018427387904) := by rw [Hid, HV.out]; omega
    have HBW := Lib.hid (bstep hb1 hb3)
    have HRX2 := Lib.hid ((HRX.out.below hb1).below hb3)
    clear hs hb1 hb3 HRX
    go_wp2
    go_loopw [4, 5] (fun nv iv wr => ∃ (j : Nat) (t : Int), j ≤ m ∧ iv = .int .i64 ((j : Int) - 1) ∧ nv = .int .i64 t ∧ 0 ≤ t ∧ t ≤ 4611686018427387904 ∧ Hid (t = val (x.drop j)) ∧ wr = w3) (fun _ iv _ => (intOf iv + 1).toNat)
    case atStart =>
      have e1 := HRX2.out.1
      exact ⟨m, 0, Nat.le_refl _, rfl, rfl, by omega, by omega, Lib.hid (by rw [List.drop_of_length_le (by omega)]; rfl), rfl⟩
    case round =>
      obtain ⟨j, t, hj, rfl, rfl, ht0, ht1, HT, rfl⟩ := hrel
      by_cases hlt : 0 < j
      · obtain ⟨k, rfl⟩ : ∃ k, j = k + 1 := ⟨j - 1, by omega⟩
        obtain ⟨l1, _, h3⟩ := HRX2.out
        obtain ⟨g, rfl, hg, hc⟩ := h3 (by omega)
        obtain ⟨u, hu⟩ : ∃ u, u = x.getD k 0 := ⟨_, rfl⟩
        have c0 : wr.cell? ⟨g, k, none⟩ = some (.int .i64 u) := by rw [hu]; exact hc k (by omega)
        have hub := HX.out.at k
        rw [← hu] at hub
        obtain ⟨u0, u1⟩ := hub
        have hnew : u + 32768 * t = val (x.drop k) := by rw [val_drop (by omega), ← hu, HT.out]
        have hle : val (x.drop k) ≤ 4611686018427387904 := by
          have := val_low HX.out (show k ≤ x.length by omega)
          have := HS.out
          omega
        have t2 : t * 32768 + u ≤ 4611686018427387904 := by omega
        have HN := Lib.hid (show t * 32768 + u = val (x.drop k) by omega)
        clear hnew hle hu hc h3 l1
        go_wp2
        go_roundw
        case rel => exact ⟨k, t * 32768 + u, by omega, rfl, rfl, by omega, t2, HN.out, by trivial⟩
        case measure => simp [intOf]
      · obtain rfl : j = 0 := by omega
        have HF2 : Hid (t = val ds) := by
          have := HT.out
          rw [List.drop_zero] at this
          rw [Hid, this, HV.out]
        go_wp2
        go_ret2
        exact ⟨by rw [HF.out, told_true, ← HF2.out]; rfl, HBW.out⟩

end Go.Proofs.Ytblbjljfcoeeeaa
