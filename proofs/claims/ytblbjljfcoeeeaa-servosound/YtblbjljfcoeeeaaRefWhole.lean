/- The walks over the reference's same and whole. -/
import Derived.Test.YtblbjljfcoeeeaaRefLess
namespace Go.Proofs.Ytblbjljfcoeeeaa
set_option maxRecDepth 100000
open Go.RowKit

set_option maxHeartbeats 2000000 in
theorem rsame_any (A B : Option Addr) (la lb ca cb : Nat) (p c : List Int) (w : World) (hp : Row w A la ca p) (hc : Row w B lb cb c) (dp : Dig p) (dc : Dig c) (hla : la ≤ 300) (hlb : lb ≤ 50) :
    Calls Try.prog 60 #[.slice A la ca, .slice B lb cb] w fun e w' => e = .returned (.bool (decide (val p < 4611686018427387905 * val c))) ∧ Below w.heap.size w w' := by
  have HP := Lib.hid hp
  have HC := Lib.hid hc
  have DP := Lib.hid dp
  have DC := Lib.hid dc
  clear hp hc dp dc
  go_enter Try.func60, Try.ntmps60
  go_wp2_with fail
  refine (rdigits_any 4611686018427387904 _ (by omega) (by omega)).mono ?_
  rintro e w1 ⟨A1, k1, c1, es, rfl, hr1, hd1, _, hv1, hk1, hb1⟩
  have HR1 := Lib.hid hr1
  have HD1 := Lib.hid hd1
  have HV1 := Lib.hid hv1
  clear hr1 hd1 hv1
  go_wp2_with fail
  have HR2 : Hid (Row (w1.alloc (.cells #[.int .i64 1] 3)) (some ⟨w1.heap.size, 0, none⟩) 1 1 [1]) := by
    refine ⟨rfl, Nat.le_refl _, fun _ => ⟨w1.heap.size, rfl, by simp, fun i hi => ?_⟩⟩
    match i, hi with
    | 0, _ => simp
  have HB2 := Lib.hid (bnew w1 (.cells #[.int .i64 1] 3))
  refine (rsum_any A1 _ k1 1 c1 1 es [1] _ (HR1.out.below HB2.out) HR2.out HD1.out (by intro x hx; simp at hx; omega) (by omega) (by omega) 5 (by omega) (by omega) (by omega)).mono ?_
  rintro e w3 ⟨A3, k3, c3, fs, rfl, hr3, hd3, hv3, hk3, hb3⟩
  have HR3 := Lib.hid hr3
  have HD3 := Lib.hid hd3
  have HV3 : Hid (val fs = 4611686018427387905) := by rw [Hid, hv3, HV1.out]; simp [val]
  have HB3 := Lib.hid (bstep (bstep hb1 HB2.out) hb3)
  clear hr3 hd3 hv3 hb3
  go_wp2_with fail
  refine (rproduct_any A3 B k3 lb c3 cb fs c _ HR3.out (HC.out.below HB3.out) HD3.out DC.out (by omega) (by omega)).mono ?_
  rintro e w4 ⟨A4, k4, c4, gs, rfl, hr4, hd4, hv4, _, hk4, hb4⟩
  have HR4 := Lib.hid hr4
  have HD4 := Lib.hid hd4
  have HV4 : Hid (val gs = 4611686018427387905 * val c) := by rw [Hid, hv4, HV3.out]
  have HB4 := Lib.hid (bstep HB3.out hb4)
  clear hr4 hd4 hv4 hb4
  go_wp2_with fail
  refine (rless_any A A4 la k4 ca c4 p gs _ (HP.out.below HB4.out) HR4.out DP.out HD4.out (by omega) (by omega)).mono ?_
  rintro e w5 ⟨rfl, hb5⟩
  go_wp2
  go_ret
  exact ⟨ret_bool (by rw [HV4.out]), bstep HB4.out hb5⟩

def stp : Nat → Int
  | 0 => 0
  | i + 1 => 2 ^ i
theorem stp_half (i : Nat) : stp (i + 1) / 2 = stp i := by
  cases i with
  | zero => decide
  | succ i => simp only [stp, Int.pow_succ]; omega
theorem stp_bd : ∀ (i : Nat), i ≤ 63 → 0 ≤ stp i ∧ stp i ≤ 4611686018427387904
  | 0, _ => by simp [stp]
  | i + 1, h => by
    simp only [stp]
    refine ⟨Int.le_of_lt (Int.pow_pos (by omega)), ?_⟩
    have : (2 : Int) ^ i ≤ 2 ^ 62 := by
      obtain ⟨d, hd⟩ := Nat.exists_eq_add_of_le (show i ≤ 62 by omega)
      rw [hd, Int.pow_add]
      have h1 : (0 : Int) < 2 ^ i := Int.pow_pos (by omega)
      have h2 : (0 : Int) < 2 ^ d := Int.pow_pos (by omega)
      have : (2 : Int) ^ i * 1 ≤ 2 ^ i * 2 ^ d := Int.mul_le_mul_of_nonneg_left (by omega) (Int.le_of_lt h1)
      omega
    have e : (2 : Int) ^ 62 = 4611686018427387904 := by decide
    omega
theorem le_quo {q P C : Int} (hC : 1 ≤ C) : q ≤ P / C ↔ q * C ≤ P := Int.le_ediv_iff_mul_le (by omega)

/-- what whole tells -/
def wholeQ (P C : Int) : Int := if 4611686018427387904 * C < P then 4611686018427387904 else P / C
def wholeB (P C : Int) : Bool := if 4611686018427387904 * C < P then decide (P < 4611686018427387905 * C) else true

set_option maxHeartbeats 2000000 in
theorem rwhole_any (A B : Option Addr) (la lb ca cb : Nat) (p c : List Int) (w : World) (hp : Row w A la ca p) (hc : Row w B lb cb c) (dp : Dig p) (dc : Dig c) (hla : la ≤ 300) (hlb : lb ≤ 50) (hC : 1 ≤ val c) :
    Calls Try.prog 39 #[.slice A la ca, .slice B lb cb] w fun e w' => e = .returned (.tuple #[.int .i64 (wholeQ (val p) (val c)), .bool (wholeB (val p) (val c))]) ∧ Below w.heap.size w w' := by
  have HP := Lib.hid hp
  have HC := Lib.hid hc
  have DP := Lib.hid dp
  have DC := Lib.hid dc
  clear hp hc dp dc
  go_enter Try.func39, Try.ntmps39
  go_wp2_with fail
  refine (rdigits_any 4611686018427387904 _ (by omega) (by omega)).mono ?_
  rintro e w1 ⟨A1, k1, c1, es, rfl, hr1, hd1, _, hv1, hk1, hb1⟩
  have HR1 := Lib.hid hr1
  have HD1 := Lib.hid hd1
  have HV1 := Lib.hid hv1
  clear hr1 hd1 hv1
  go_wp2_with fail
  refine (rproduct_any A1 B k1 lb c1 cb es c _ HR1.out (HC.out.below hb1) HD1.out DC.out (by omega) (by omega)).mono ?_
  rintro e w2 ⟨A2, k2, c2, gs, rfl, hr2, hd2, hv2, _, hk2, hb2⟩
  have HR2 := Lib.hid hr2
  have HD2 := Lib.hid hd2
  have HV2 : Hid (val gs = 4611686018427387904 * val c) := by rw [Hid, hv2, HV1.out]
  have HB2 := Lib.hid (bstep hb1 hb2)
  clear hr2 hd2 hv2 hb2 hb1
  go_wp2_with fail
  refine (rless_any A2 A k2 la c2 ca gs p _ HR2.out (HP.out.below HB2.out) HD2.out DP.out (by omega) (by omega)).mono ?_
  rintro e w3 ⟨rfl, hb3⟩
  rw [HV2.out]
  have HB3 := Lib.hid (bstep HB2.out hb3)
  clear hb3
  by_cases ho : 4611686018427387904 * val c < val p
  · have HQ := Lib.hid (show wholeQ (val p) (val c) = 4611686018427387904 by simp [wholeQ, ho])
    have HQB := Lib.hid (show wholeB (val p) (val c) = decide (val p < 4611686018427387905 * val c) by simp [wholeB, ho])
    have ho' : decide (4611686018427387904 * val c < val p) = true := by simp [ho]
    clear ho
    go_wp2_with fail
    refine (rsame_any A B la lb ca cb p c _ (HP.out.below HB3.out) (HC.out.below HB3.out) DP.out DC.out hla hlb).mono ?_
    rintro e w4 ⟨rfl, hb4⟩
    go_wp2
    go_ret2
    exact ⟨ret_ib HQ.out.symm HQB.out.symm, bstep HB3.out hb4⟩
  · have HQ := Lib.hid (show wholeQ (val p) (val c) = val p / val c by simp [wholeQ, ho])
    have HQB := Lib.hid (show wholeB (val p) (val c) = true by simp [wholeB, ho])
    have ho' : decide (4611686018427387904 * val c < val p) = false := by simp [ho]
    obtain ⟨Q, hQ⟩ : ∃ Q, Q = val p / val c := ⟨_, rfl⟩
    have hQ0 : 0 ≤ Q := by rw [hQ]; exact Int.ediv_nonneg (val_bd DP.out).1 (by omega)
    have hQ1 : Q ≤ 4611686018427387904 := by
      have h := (le_quo (q := 4611686018427387905) (P := val p) hC)
      have h2 : ¬ 4611686018427387905 ≤ val p / val c := by
        rw [h]; omega
      omega
    have HQE := Lib.hid hQ
    clear ho hQ
    go_wp2
    go_loopw [6, 7] (fun qv sv wr => ∃ (j : Nat) (q s : Int), j ≤ 63 ∧ qv = .int .i64 q ∧ sv = .int .i64 s ∧ Hid (s = stp j) ∧ 0 ≤ s ∧ s ≤ 4611686018427387904 ∧ 0 ≤ q ∧ q ≤ Q ∧ Hid (Q < q + 2 ^ j) ∧ Hid (Below w.heap.size w wr)) (fun _ sv _ => (intOf sv).toNat)
    case atStart =>
      have e63 : (2 : Int) ^ 63 = 9223372036854775808 := by decide
      exact ⟨63, 0, 4611686018427387904, by omega, rfl, rfl, Lib.hid (by decide), by omega, by omega, by omega, hQ0, Lib.hid (by omega), HB3.out⟩
    case round =>
      obtain ⟨j, q, s, hj, rfl, rfl, HSJ, hs0, hs1, hq0, hq1, HLT, HBW⟩ := hrel
      by_cases hs : 0 < s
      · obtain ⟨i, rfl⟩ : ∃ i, j = i + 1 := by
          cases j with
          | zero => have := HSJ.out; simp [stp] at this; omega
          | succ i => exact ⟨i, rfl⟩
        have e2 : s = 2 ^ i := by rw [HSJ.out]; rfl
        have hlt := HLT.out
        rw [Int.pow_succ, ← e2] at hlt
        have hsh : s / 2 = stp i := by rw [HSJ.out]; exact stp_half i
        have HSH := Lib.hid hsh
        have HE2 := Lib.hid e2
        have hs2 : 0 ≤ s / 2 := by omega
        have hs3 : s / 2 ≤ 4611686018427387904 := by omega
        clear hsh e2
        by_cases hqs : q ≤ 4611686018427387904 - s
        · go_wp2_with fail
          refine (rdigits_any (q + s) _ (by omega) (by omega)).mono ?_
          rintro e w4 ⟨A4, k4, c4, fs, rfl, hr4, hd4, _, hv4, hk4, hb4⟩
          have HR4 := Lib.hid hr4
          have HD4 := Lib.hid hd4
          have HV4 := Lib.hid hv4
          have HB4 := Lib.hid (bstep HBW.out hb4)
          clear hr4 hd4 hv4 hb4
          go_wp2_with fail
          refine (rproduct_any A4 B k4 lb c4 cb fs c _ HR4.out (HC.out.below HB4.out) HD4.out DC.out (by omega) (by omega)).mono ?_
          rintro e w5 ⟨A5, k5, c5, hs', rfl, hr5, hd5, hv5, _, hk5, hb5⟩
          have HR5 := Lib.hid hr5
          have HD5 := Lib.hid hd5
          have HV5 : Hid (val hs' = (q + s) * val c) := by rw [Hid, hv5, HV4.out]
          have HB5 := Lib.hid (bstep HB4.out hb5)
          clear hr5 hd5 hv5 hb5
          go_wp2_with fail
          refine (rless_any A A5 la k5 ca c5 p hs' _ (HP.out.below HB5.out) HR5.out DP.out HD5.out (by omega) (by omega)).mono ?_
          rintro e w6 ⟨rfl, hb6⟩
          rw [HV5.out]
          have HB6 := Lib.hid (bstep HB5.out hb6)
          clear hb6
          by_cases hle : q + s ≤ Q
          · have hd' : decide (val p < (q + s) * val c) = false := by
              have := (le_quo (q := q + s) (P := val p) hC).1 (by rw [← HQE.out]; exact hle)
              simp; omega
            go_wp2
            go_roundw
            case rel => exact ⟨i, q + s, s / 2, by omega, rfl, rfl, HSH.out, hs2, hs3, by omega, hle, Lib.hid (by rw [← HE2.out]; omega), HB6.out⟩
            case measure => simp [intOf]; omega
          · have hd' : decide (val p < (q + s) * val c) = true := by
              have : ¬ (q + s) * val c ≤ val p := fun h => hle (by rw [HQE.out]; exact (le_quo hC).2 h)
              simp; omega
            go_wp2
            go_roundw
            case rel => exact ⟨i, q, s / 2, by omega, rfl, rfl, HSH.out, hs2, hs3, by omega, hq1, Lib.hid (by rw [← HE2.out]; omega), HB6.out⟩
            case measure => simp [intOf]; omega
        · have hqs' : 4611686018427387904 - s < q := by omega
          go_wp2
          go_roundw
          case rel => exact ⟨i, q, s / 2, by omega, rfl, rfl, HSH.out, hs2, hs3, by omega, hq1, Lib.hid (by rw [← HE2.out]; omega), HBW.out⟩
          case measure => simp [intOf]; omega
      · obtain rfl : s = 0 := by omega
        have HFQ : Hid (q = Q) := by
          cases j with
          | zero => have := HLT.out; simp at this; rw [Hid]; omega
          | succ i =>
            have := HSJ.out
            simp only [stp] at this
            have := Int.pow_pos (n := 2) (m := i) (by omega)
            omega
        go_wp2
        go_ret2
        exact ⟨ret_ib (by rw [HQ.out, ← HQE.out, ← HFQ.out]) HQB.out.symm, HBW.out⟩

end Go.Proofs.Ytblbjljfcoeeeaa
