/- The walk over wide.divide: a long number by another one, bit by bit; what is told is the quotient and what is left, or nothing, if the quotient is above 2^62. -/
import Derived.Test.YtcjfiipcmaegnaaWideHalves
import Derived.Deep.LoopGhost
namespace Go.Proofs.Ytcjfiipcmaegnaa
open Go.RowKit

def half (p0 p1 p2 p3 : Int) (i : Nat) : Int := match i with | 0 => p0 | 1 => p1 | 2 => p2 | _ => p3

theorem half_bd {p0 p1 p2 p3 N : Int} (h : IsLong p0 p1 p2 p3 N) (i : Nat) : 0 ≤ half p0 p1 p2 p3 i ∧ half p0 p1 p2 p3 i < 4294967296 := by
  obtain ⟨h0, h1, h2, h3, _⟩ := h
  match i with
  | 0 => exact h0
  | 1 => exact h1
  | 2 => exact h2
  | _ + 3 => exact h3

theorem long_nonneg {p0 p1 p2 p3 N : Int} (h : IsLong p0 p1 p2 p3 N) : 0 ≤ N ∧ N < 340282366920938463463374607431768211456 := by
  obtain ⟨h0, h1, h2, h3, h4⟩ := h
  omega

theorem pow_pos' (b : Nat) : (0 : Int) < 2 ^ b := Int.pow_pos (by omega)

theorem div_bit (p h : Int) (b : Nat) (hb : b < 32) : (p + 4294967296 * h) / 2 ^ b % 2 = p / 2 ^ b % 2 := by
  obtain ⟨d, hd⟩ : ∃ d, 32 = b + (d + 1) := ⟨31 - b, by omega⟩
  have e : (4294967296 : Int) = 2 ^ b * (2 * 2 ^ d) := by
    have : (4294967296 : Int) = 2 ^ 32 := by decide
    rw [this, hd, Int.pow_add, Int.pow_succ, Int.mul_comm (2 ^ d) 2]
  rw [e, Int.mul_assoc, Int.add_mul_ediv_left _ _ (Int.ne_of_gt (pow_pos' b)), Int.mul_assoc]
  omega

theorem half_bit {p0 p1 p2 p3 N : Int} (h : IsLong p0 p1 p2 p3 N) (i b : Nat) (hi : i < 4) (hb : b < 32) :
    half p0 p1 p2 p3 i / 2 ^ b % 2 = N / 2 ^ (32 * i + b) % 2 := by
  obtain ⟨h0, h1, h2, h3, h4⟩ := h
  have key : ∀ k : Nat, k < 4 → ∃ q, N / 2 ^ (32 * k) = half p0 p1 p2 p3 k + 4294967296 * q := by
    intro k hk
    match k, hk with
    | 0, _ => exact ⟨p1 + 4294967296 * (p2 + 4294967296 * p3), by simp [half]; omega⟩
    | 1, _ => exact ⟨p2 + 4294967296 * p3, by simp [half]; omega⟩
    | 2, _ => exact ⟨p3, by simp [half]; omega⟩
    | 3, _ => exact ⟨0, by simp [half]; omega⟩
  obtain ⟨q, hq⟩ := key i hi
  rw [Int.pow_add, ← Int.ediv_ediv_of_nonneg (Int.le_of_lt (pow_pos' _)), hq, div_bit _ _ _ hb]

theorem div_two (N : Int) (k : Nat) : N / 2 ^ k = 2 * (N / 2 ^ (k + 1)) + N / 2 ^ k % 2 := by
  rw [Int.pow_succ, ← Int.ediv_ediv_of_nonneg (Int.le_of_lt (pow_pos' _))]
  omega

theorem div_step {N c q r t s : Int} {k : Nat} (h : q * c + r = N / 2 ^ (k + 1)) (ht : t = N / 2 ^ k % 2) (hs : s = 2 * r + t) : q * 2 * c + s = N / 2 ^ k := by
  have e : q * 2 * c = 2 * (q * c) := by grind
  rw [div_two N k, ← h, e, hs, ht]; omega

theorem div_step1 {N c q r t s : Int} {k : Nat} (h : q * c + r = N / 2 ^ (k + 1)) (ht : t = N / 2 ^ k % 2) (hs : s = 2 * r + t) : (q * 2 + 1) * c + (s - c) = N / 2 ^ k := by
  have := div_step h ht hs
  have e : (q * 2 + 1) * c = q * 2 * c + c := by grind
  omega

theorem div_over {N c q r : Int} {k : Nat} (hc : 1 ≤ c) (h : q * c + r = N / 2 ^ k) (hr : 0 ≤ r) (hN : 0 ≤ N) : q ≤ N / c := by
  refine Int.le_ediv_of_mul_le (by omega) ?_
  have : N / 2 ^ k ≤ N := Int.ediv_le_self _ hN
  omega

theorem div_end {N c q r : Int} (h : q * c + r = N) (hr : 0 ≤ r) (hr1 : r < c) : N / c = q ∧ N % c = r := by
  subst h
  have hc : c ≠ 0 := by omega
  constructor
  · rw [Int.add_comm, Int.add_mul_ediv_right _ _ hc, Int.ediv_eq_zero_of_lt hr hr1]; omega
  · rw [Int.add_comm, Int.add_mul_emod_self_right, Int.emod_eq_of_lt hr hr1]

def quoB (N c : Int) : Bool := decide (N / c ≤ 4611686018427387904)

theorem or_bit (r t : Int) (h0 : 0 ≤ r) (h1 : r < 4611686018427387904) (ht : t = 0 ∨ t = 1) : bits .or .u64 (r * 2) t = 2 * r + t := by
  rw [u64_or (r * 2) t (by omega) (by omega) (by omega) (by omega)]
  rw [nat_join 1 (r * 2).toNat t.toNat (by omega) (by omega)]
  omega

theorem and_one (x : Int) (h0 : 0 ≤ x) (h1 : x < 4294967296) : bits .and .u64 x 1 = x % 2 := by
  rw [u64_and x 1 h0 (by omega) (by omega) (by omega)]
  have : x.toNat &&& (1 : Int).toNat = x.toNat % 2 := Nat.and_two_pow_sub_one_eq_mod x.toNat 1
  rw [this]; omega

/-- what holds of the quotient and the rest so far, k bits being left -/
def DivRel (N c q r : Int) (k : Nat) : Prop := q * c + r = N / 2 ^ k

theorem ret_uub {a b a' b' : Int} {c c' : Bool} (h : a = a') (h' : b = b') (h2 : c = c') : Ending.returned (.tuple #[.int .u64 a, .int .u64 b, .bool c]) = .returned (.tuple #[.int .u64 a', .int .u64 b', .bool c']) := by rw [h, h', h2]

set_option maxHeartbeats 1000000 in
theorem divide_any (p0 p1 p2 p3 N c : Int) (w : World) (hp : IsLong p0 p1 p2 p3 N) (h1 : 1 ≤ c) (h2 : c ≤ 4611686018427387904) :
    Calls Try.prog 62 #[.agg #[.int .u64 p0, .int .u64 p1, .int .u64 p2, .int .u64 p3], .int .u64 c] w fun e w' =>
      e = .returned (.tuple #[.int .u64 (told (quoB N c) (N / c)), .int .u64 (told (quoB N c) (N % c)), .bool (quoB N c)]) ∧ Below w.heap.size w w' := by
  have HP := Lib.hid hp
  clear hp
  go_enter Try.func62, Try.ntmps62
  go_wp2
  go_step3
  go_wp2
  go_step3
  go_wp2
  generalize hW : World.alloc _ _ = W
  have hcell : ∀ i, i < 4 → W.cell? ⟨w.heap.size, i, none⟩ = some (.int .u64 (half p0 p1 p2 p3 i)) := by
    subst hW
    intro i hi
    match i, hi with
    | 0, _ => simp [half]
    | 1, _ => simp [half]
    | 2, _ => simp [half]
    | 3, _ => simp [half]
  have HB : Hid (Below w.heap.size w W) := by subst hW; exact (Below.refl _ _).alloc (Nat.le_refl _) _
  have HC := Lib.hid hcell
  clear hW hcell
  go_loop [4, 5, 7] (fun q r i => ∃ kk : Nat, kk ≤ 4 ∧ i = .int .i64 ((kk : Int) - 1) ∧ ∃ qn rn : Int, q = .int .u64 qn ∧ r = .int .u64 rn ∧ DivRel N c qn rn (32 * kk) ∧ 0 ≤ rn ∧ rn < c ∧ 0 ≤ qn ∧ qn ≤ 4611686018427387904) (fun _ _ i => (intOf i + 1).toNat)
  case atStart =>
    have := long_nonneg HP.out
    exact ⟨4, by omega, rfl, 0, 0, rfl, rfl, by unfold DivRel; simp; omega, by omega, by omega, by omega, by omega⟩
  case round =>
    obtain ⟨kk, hk, rfl, qn, rn, rfl, rfl, hd, hr0, hr1, hq0, hq1⟩ := hrel
    by_cases hlt : 1 ≤ kk
    · obtain ⟨ii, rfl⟩ : ∃ ii, kk = ii + 1 := ⟨kk - 1, by omega⟩
      go_wp2
      go_loop [4, 5, 8] (fun q r b => ∃ bb : Nat, bb ≤ 32 ∧ b = .int .i64 ((bb : Int) - 1) ∧ ∃ qn rn : Int, q = .int .u64 qn ∧ r = .int .u64 rn ∧ DivRel N c qn rn (32 * ii + bb) ∧ 0 ≤ rn ∧ rn < c ∧ 0 ≤ qn ∧ qn ≤ 4611686018427387904) (fun _ _ i => (intOf i + 1).toNat)
      case atStart => exact ⟨32, by omega, rfl, qn, rn, rfl, rfl, hd, hr0, hr1, hq0, hq1⟩
      case round =>
        clear hd hr0 hr1 hq0 hq1
        obtain ⟨bb, hk', rfl, qn, rn, rfl, rfl, hd, hr0, hr1, hq0, hq1⟩ := hrel
        by_cases hlt' : 1 ≤ bb
        · obtain ⟨b, rfl⟩ : ∃ b, bb = b + 1 := ⟨bb - 1, by omega⟩
          have hcell := HC.out ii (by omega)
          obtain ⟨t, HT, rt, ht0, ht1⟩ : ∃ t, Hid (t = N / 2 ^ (32 * ii + b) % 2) ∧ bits .and .u64 (half p0 p1 p2 p3 ii / 2 ^ b) 1 = t ∧ 0 ≤ t ∧ t ≤ 1 := by
            have hbd := half_bd HP.out ii
            have hp2 := pow_pos' b
            have hq : half p0 p1 p2 p3 ii / 2 ^ b ≤ half p0 p1 p2 p3 ii := Int.ediv_le_self _ hbd.1
            have hq' : 0 ≤ half p0 p1 p2 p3 ii / 2 ^ b := Int.ediv_nonneg hbd.1 (Int.le_of_lt hp2)
            refine ⟨_, Lib.hid rfl, ?_, by omega, by omega⟩
            rw [and_one _ hq' (by omega)]
            exact half_bit HP.out ii b (by omega) (by omega)
          obtain ⟨s, HS, rs, hs0, hs1⟩ : ∃ s, Hid (s = 2 * rn + t) ∧ bits .or .u64 (rn * 2) t = s ∧ 0 ≤ s ∧ s < 2 * c := by
            refine ⟨_, Lib.hid rfl, or_bit rn t hr0 (by omega) (by omega), by omega, by omega⟩
          have HD := Lib.hid hd
          clear hd
          go_wp2
          · go_ret3
            have h := div_step1 HD.out HT.out HS.out
            have h3 := div_over (by omega) h (by omega) (long_nonneg HP.out).1
            have hB : quoB N c = false := by unfold quoB; simp; omega
            exact ⟨ret_uub (by rw [hB]; rfl) (by rw [hB]; rfl) hB.symm, HB.out⟩
          · go_round
            case rel => exact ⟨b, by omega, rfl, _, _, rfl, rfl, div_step1 HD.out HT.out HS.out, by omega, by omega, by omega, by omega⟩
            case measure => simp [intOf]
          · go_ret3
            have h := div_step HD.out HT.out HS.out
            have h3 := div_over (by omega) h (by omega) (long_nonneg HP.out).1
            have hB : quoB N c = false := by unfold quoB; simp; omega
            exact ⟨ret_uub (by rw [hB]; rfl) (by rw [hB]; rfl) hB.symm, HB.out⟩
          · go_round
            case rel => exact ⟨b, by omega, rfl, _, _, rfl, rfl, div_step HD.out HT.out HS.out, by omega, by omega, by omega, by omega⟩
            case measure => simp [intOf]
        · obtain rfl : bb = 0 := by omega
          go_wp2
          go_round
          case rel => exact ⟨ii, by omega, by go_num, _, _, rfl, rfl, by simpa using hd, by omega, by omega, by omega, by omega⟩
          case measure => simp [intOf]
    · obtain rfl : kk = 0 := by omega
      have hn : ¬ 4611686018427387904 < qn := by omega
      have HD := Lib.hid hd
      clear hd
      go_wp2
      go_ret3
      have h := HD.out
      simp only [DivRel, Nat.mul_zero, Int.pow_zero, Int.ediv_one] at h
      obtain ⟨e1, e2⟩ := div_end h hr0 hr1
      have hB : quoB N c = true := by unfold quoB; rw [e1]; simp; omega
      exact ⟨ret_uub (by rw [hB, e1]; rfl) (by rw [hB, e2]; rfl) hB.symm, HB.out⟩

theorem divide_yes (p0 p1 p2 p3 N c q r : Int) (w : World) (hp : IsLong p0 p1 p2 p3 N) (h1 : 1 ≤ c) (h2 : c ≤ 4611686018427387904) (hq : N / c = q) (hr : N % c = r) (hq1 : q ≤ 4611686018427387904) :
    Calls Try.prog 62 #[.agg #[.int .u64 p0, .int .u64 p1, .int .u64 p2, .int .u64 p3], .int .u64 c] w fun e w' =>
      e = .returned (.tuple #[.int .u64 q, .int .u64 r, .bool true]) ∧ Below w.heap.size w w' := by
  have hB : quoB N c = true := by unfold quoB; simp; omega
  refine (divide_any p0 p1 p2 p3 N c w hp h1 h2).mono ?_
  rintro e w' ⟨rfl, hb⟩
  exact ⟨by rw [hB, hq, hr]; rfl, hb⟩
theorem divide_no (p0 p1 p2 p3 N c : Int) (w : World) (hp : IsLong p0 p1 p2 p3 N) (h1 : 1 ≤ c) (h2 : c ≤ 4611686018427387904) (hq1 : 4611686018427387904 < N / c) :
    Calls Try.prog 62 #[.agg #[.int .u64 p0, .int .u64 p1, .int .u64 p2, .int .u64 p3], .int .u64 c] w fun e w' =>
      e = .returned (.tuple #[.int .u64 0, .int .u64 0, .bool false]) ∧ Below w.heap.size w w' := by
  have hB : quoB N c = false := by unfold quoB; simp; omega
  refine (divide_any p0 p1 p2 p3 N c w hp h1 h2).mono ?_
  rintro e w' ⟨rfl, hb⟩
  exact ⟨by rw [hB]; rfl, hb⟩
end Go.Proofs.Ytcjfiipcmaegnaa
