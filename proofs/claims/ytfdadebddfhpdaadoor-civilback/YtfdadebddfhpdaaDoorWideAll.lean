/- Parts of this proof, one behind the other: WideSmall, WidePlain, WideHalves, WideDivide, WideFloor. -/
import Derived.Test.YtfdadebddfhpdaaDoorRows
import Derived.Test.YtfdadebddfhpdaaDoorWideMath
import Derived.WalkKit
import Derived.WalkSpells
import Derived.WalkLawsBesides
import Derived.Lib.Hide
import Derived.Test.YtfdadebddfhpdaaDoorMem
import Derived.Laws.BitsAllLaws
import Derived.BigQuiet
import Derived.Deep.QuietTactic
import Derived.Deep.LoopGhost

/- The walk over wide.Small: whatever the numbers, it tells whether all of them are small, and writes nothing. -/
namespace Go.Proofs.YtfdadebddfhpdaaDoor
set_option maxRecDepth 100000
open Go.RowKit

theorem all_take_end (zs : List Int) (k : Nat) (h : ∀ i, i < k → smallB (zs.getD i 0) = true) (hk : k = zs.length) : zs.all smallB = true := by
  subst hk
  rw [List.all_eq_true]
  intro x hx
  obtain ⟨i, hi, rfl⟩ := List.mem_iff_getElem.1 hx
  have := h i hi
  simpa [List.getD, hi] using this
theorem all_not (zs : List Int) (k : Nat) (hk : k < zs.length) (h : smallB (zs.getD k 0) = false) : zs.all smallB = false := by
  rw [List.all_eq_false]
  refine ⟨zs[k], List.getElem_mem hk, ?_⟩
  simp [List.getD, hk] at h
  simp [h]

end Go.Proofs.YtfdadebddfhpdaaDoor

/- The walks over wide's plain functions: Abs, checked, Add, Sub, Clip. -/
namespace Go.Proofs.YtfdadebddfhpdaaDoor
set_option maxRecDepth 100000
open Go.RowKit

theorem wrap_over : wrap64 9223372036854775808 = -9223372036854775808 := by simp [wrap64]
end Go.Proofs.YtfdadebddfhpdaaDoor

/- The walks over wide.halves and wide.product: a product of two numbers that are not below 0, in four halves. -/
namespace Go.Proofs.YtfdadebddfhpdaaDoor
set_option maxRecDepth 100000
open Go.RowKit

theorem and_mask (n : Int) (h0 : 0 ≤ n) (h1 : n < 18446744073709551616) : bits .and .u64 n 4294967295 = n % 4294967296 := by
  rw [u64_and n 4294967295 h0 h1 (by omega) (by omega)]
  have : n.toNat &&& (4294967295 : Int).toNat = n.toNat % 4294967296 := Nat.and_two_pow_sub_one_eq_mod n.toNat 32
  rw [this]; omega

/-- four halves are a number -/
def IsLong (p0 p1 p2 p3 n : Int) : Prop :=
  (0 ≤ p0 ∧ p0 < 4294967296) ∧ (0 ≤ p1 ∧ p1 < 4294967296) ∧ (0 ≤ p2 ∧ p2 < 4294967296) ∧ (0 ≤ p3 ∧ p3 < 4294967296) ∧
    p0 + 4294967296 * (p1 + 4294967296 * (p2 + 4294967296 * p3)) = n

theorem mul_bd {x y : Int} (h0 : 0 ≤ x) (h1 : x < 4294967296) (g0 : 0 ≤ y) (g1 : y < 4294967296) : 0 ≤ x * y ∧ x * y ≤ 18446744065119617025 := by
  refine ⟨Int.mul_nonneg h0 g0, ?_⟩
  have : x * y ≤ 4294967295 * 4294967295 := Int.mul_le_mul (by omega) (by omega) g0 (by omega)
  omega

theorem product_sum {x0 x1 y0 y1 m00 m01 m10 m11 s2 s3 s4 : Int} (b00 : 0 ≤ m00 ∧ m00 ≤ 18446744065119617025) (b01 : 0 ≤ m01 ∧ m01 ≤ 18446744065119617025)
    (b10 : 0 ≤ m10 ∧ m10 ≤ 18446744065119617025) (b11 : 0 ≤ m11 ∧ m11 ≤ 18446744065119617025)
    (e2 : s2 = m01 + m00 / 4294967296) (e3 : s3 = m10 + s2 % 4294967296) (e4 : s4 = m11 + s2 / 4294967296 + s3 / 4294967296)
    (h00 : m00 = x0 * y0) (h01 : m01 = x0 * y1) (h10 : m10 = x1 * y0) (h11 : m11 = x1 * y1) :
    IsLong (m00 % 4294967296) (s3 % 4294967296) (s4 % 4294967296) (s4 / 4294967296) ((x0 + 4294967296 * x1) * (y0 + 4294967296 * y1)) := by
  have key : (x0 + 4294967296 * x1) * (y0 + 4294967296 * y1) = m00 + 4294967296 * (m01 + m10 + 4294967296 * m11) := by
    subst h00 h01 h10 h11; grind
  rw [key]
  clear key h00 h01 h10 h11
  refine ⟨by omega, by omega, by omega, by omega, by omega⟩

theorem wrap_u64_in (n : Int) (h0 : 0 ≤ n) (h1 : n < 18446744073709551616) : IntKind.u64.wrap n = n := by
  rw [IntKind.wrap_u64]; omega

/-- the world behind both rounds: the third new block holds the product, all below is as it was -/
theorem product_world {w w1 w2 W : World} {o : Array Value} {t s : TypeId} {n1 n2 n3 n4 : Nat} {a0 a1 a2 a3 a4 a5 z0 z1 z2 z3 : Value} {ox oy : Obj}
    (hb1 : Below (w.alloc (.cells o t)).heap.size (w.alloc (.cells o t)) w1) (hb2 : Below w1.heap.size w1 w2)
    (hW : (((((((((((((w2.alloc ox).alloc oy).alloc (.cells #[z0, z1, z2, z3] s)).drewN n1).setCell ⟨w2.heap.size + 1 + 1, 0, none⟩ a0).drewN n2).setCell ⟨w2.heap.size + 1 + 1, 1, none⟩ a1).setCell ⟨w2.heap.size + 1 + 1, 2, none⟩ a2).drewN n3).setCell ⟨w2.heap.size + 1 + 1, 1, none⟩ a3).drewN n4).setCell ⟨w2.heap.size + 1 + 1, 2, none⟩ a4).setCell ⟨w2.heap.size + 1 + 1, 3, none⟩ a5) = W) :
    Holds W (w2.heap.size + 1 + 1) s #[a0, a3, a4, a5] ∧ Holds W w.heap.size t o ∧ Below w.heap.size w W ∧ w.heap.size < w2.heap.size := by
  have k0 : Holds w2 w.heap.size t o := ((Holds.fresh w t o rfl).kept hb1 (by simp)).kept hb2 (by have := hb1.size; simp at this; omega)
  have hz := k0.inside
  subst hW
  refine ⟨?_, ?_, ?_, hz⟩
  · have h := (((((((((Holds.fresh ((w2.alloc ox).alloc oy) s #[z0, z1, z2, z3] (g := w2.heap.size + 1 + 1) (by simp)).drawn n1).put 0 a0).drawn n2).put 1 a1).put 2 a2).drawn n3).put 1 a3).drawn n4).put 2 a4 |>.put 3 a5
    simpa using h
  · exact ((((((((((((k0.laid ox).laid oy).laid _).drawn n1).aside (by simp; omega) a0).drawn n2).aside (by simp; omega) a1).aside (by simp; omega) a2).drawn n3).aside (by simp; omega) a3).drawn n4).aside (by simp; omega) a4).aside (by simp; omega) a5
  · have hb : Below w.heap.size w w2 := (((Below.refl _ w).alloc (Nat.le_refl _) _).trans (hb1.mono (by simp))).trans (hb2.mono (by have := hb1.size; simp at this; omega))
    have h1 := ((hb.alloc (by omega) ox).alloc (by simp; omega) oy).alloc (by simp; omega) (.cells #[z0, z1, z2, z3] s)
    exact Below.setCell (Below.setCell (bdrawn (Below.setCell (bdrawn (Below.setCell (Below.setCell (bdrawn (Below.setCell (bdrawn h1 n1) (by simp; omega) a0) n2) (by simp; omega) a1) (by simp; omega) a2) n3) (by simp; omega) a3) n4) (by simp; omega) a4) (by simp; omega) a5

end Go.Proofs.YtfdadebddfhpdaaDoor

/- The walk over wide.divide: a long number by another one, bit by bit; what is told is the quotient and what is left, or nothing, if the quotient is above 2^62. -/
namespace Go.Proofs.YtfdadebddfhpdaaDoor
set_option maxRecDepth 100000
open Go.RowKit

def half (p0 p1 p2 p3 : Int) (i : Nat) : Int := match i with | 0 => p0 | 1 => p1 | 2 => p2 | _ => p3

theorem half_bd {p0 p1 p2 p3 N : Int} (h : IsLong p0 p1 p2 p3 N) (i : Nat) : 0 ≤ half p0 p1 p2 p3 i ∧ half p0 p1 p2 p3 i < 4294967296 := by
  obtain ⟨h0, h1, h2, h3, _⟩ := h
  match i with
  | 0 => exact h0
  | 1 => exact h1
  | 2 => exact h2
  | _ + 3 => exact h3

theorem long_nonneg {p0 p1 p2 p3 N : Int} (h : IsLong p0 p1 p2 p3 N) : 0 ≤ N ∧ N < 340282366920938463463374607431768211456 := by
  obtain ⟨h0, h1, h2, h3, h4⟩ := h
  omega

theorem pow_pos' (b : Nat) : (0 : Int) < 2 ^ b := Int.pow_pos (by omega)

theorem div_bit (p h : Int) (b : Nat) (hb : b < 32) : (p + 4294967296 * h) / 2 ^ b % 2 = p / 2 ^ b % 2 := by
  obtain ⟨d, hd⟩ : ∃ d, 32 = b + (d + 1) := ⟨31 - b, by omega⟩
  have e : (4294967296 : Int) = 2 ^ b * (2 * 2 ^ d) := by
    have : (4294967296 : Int) = 2 ^ 32 := by decide
    rw [this, hd, Int.pow_add, Int.pow_succ, Int.mul_comm (2 ^ d) 2]
  rw [e, Int.mul_assoc, Int.add_mul_ediv_left _ _ (Int.ne_of_gt (pow_pos' b)), Int.mul_assoc]
  omega

theorem half_bit {p0 p1 p2 p3 N : Int} (h : IsLong p0 p1 p2 p3 N) (i b : Nat) (hi : i < 4) (hb : b < 32) :
    half p0 p1 p2 p3 i / 2 ^ b % 2 = N / 2 ^ (32 * i + b) % 2 := by
  obtain ⟨h0, h1, h2, h3, h4⟩ := h
  have key : ∀ k : Nat, k < 4 → ∃ q, N / 2 ^ (32 * k) = half p0 p1 p2 p3 k + 4294967296 * q := by
    intro k hk
    match k, hk with
    | 0, _ => exact ⟨p1 + 4294967296 * (p2 + 4294967296 * p3), by simp [half]; omega⟩
    | 1, _ => exact ⟨p2 + 4294967296 * p3, by simp [half]; omega⟩
    | 2, _ => exact ⟨p3, by simp [half]; omega⟩
    | 3, _ => exact ⟨0, by simp [half]; omega⟩
  obtain ⟨q, hq⟩ := key i hi
  rw [Int.pow_add, ← Int.ediv_ediv_of_nonneg (Int.le_of_lt (pow_pos' _)), hq, div_bit _ _ _ hb]

theorem div_two (N : Int) (k : Nat) : N / 2 ^ k = 2 * (N / 2 ^ (k + 1)) + N / 2 ^ k % 2 := by
  rw [Int.pow_succ, ← Int.ediv_ediv_of_nonneg (Int.le_of_lt (pow_pos' _))]
  omega

theorem div_step {N c q r t s : Int} {k : Nat} (h : q * c + r = N / 2 ^ (k + 1)) (ht : t = N / 2 ^ k % 2) (hs : s = 2 * r + t) : q * 2 * c + s = N / 2 ^ k := by
  have e : q * 2 * c = 2 * (q * c) := by grind
  rw [div_two N k, ← h, e, hs, ht]; omega

theorem div_step1 {N c q r t s : Int} {k : Nat} (h : q * c + r = N / 2 ^ (k + 1)) (ht : t = N / 2 ^ k % 2) (hs : s = 2 * r + t) : (q * 2 + 1) * c + (s - c) = N / 2 ^ k := by
  have := div_step h ht hs
  have e : (q * 2 + 1) * c = q * 2 * c + c := by grind
  omega

theorem div_over {N c q r : Int} {k : Nat} (hc : 1 ≤ c) (h : q * c + r = N / 2 ^ k) (hr : 0 ≤ r) (hN : 0 ≤ N) : q ≤ N / c := by
  refine Int.le_ediv_of_mul_le (by omega) ?_
  have : N / 2 ^ k ≤ N := Int.ediv_le_self _ hN
  omega

theorem div_end {N c q r : Int} (h : q * c + r = N) (hr : 0 ≤ r) (hr1 : r < c) : N / c = q ∧ N % c = r := by
  subst h
  have hc : c ≠ 0 := by omega
  constructor
  · rw [Int.add_comm, Int.add_mul_ediv_right _ _ hc, Int.ediv_eq_zero_of_lt hr hr1]; omega
  · rw [Int.add_comm, Int.add_mul_emod_self_right, Int.emod_eq_of_lt hr hr1]

def quoB (N c : Int) : Bool := decide (N / c ≤ 4611686018427387904)

theorem or_bit (r t : Int) (h0 : 0 ≤ r) (h1 : r < 4611686018427387904) (ht : t = 0 ∨ t = 1) : bits .or .u64 (r * 2) t = 2 * r + t := by
  rw [u64_or (r * 2) t (by omega) (by omega) (by omega) (by omega)]
  rw [nat_join 1 (r * 2).toNat t.toNat (by omega) (by omega)]
  omega

theorem and_one (x : Int) (h0 : 0 ≤ x) (h1 : x < 4294967296) : bits .and .u64 x 1 = x % 2 := by
  rw [u64_and x 1 h0 (by omega) (by omega) (by omega)]
  have : x.toNat &&& (1 : Int).toNat = x.toNat % 2 := Nat.and_two_pow_sub_one_eq_mod x.toNat 1
  rw [this]; omega

/-- what holds of the quotient and the rest so far, k bits being left -/
def DivRel (N c q r : Int) (k : Nat) : Prop := q * c + r = N / 2 ^ k

theorem ret_uub {a b a' b' : Int} {c c' : Bool} (h : a = a') (h' : b = b') (h2 : c = c') : Ending.returned (.tuple #[.int .u64 a, .int .u64 b, .bool c]) = .returned (.tuple #[.int .u64 a', .int .u64 b', .bool c']) := by rw [h, h', h2]

end Go.Proofs.YtfdadebddfhpdaaDoor

/- The walks over wide.Floor, Ceil and Mul: exact quotients of products. -/
namespace Go.Proofs.YtfdadebddfhpdaaDoor
set_option maxRecDepth 100000
open Go.RowKit

theorem neg_div {N c q r : Int} (hc : 1 ≤ c) (hq : N / c = q) (hr : N % c = r) : -N / c = if 0 < r then -q - 1 else -q := by
  have h0 := Int.emod_nonneg N (show c ≠ 0 by omega)
  have h1 := Int.emod_lt_of_pos N (show 0 < c by omega)
  have h2 := Int.emod_add_mul_ediv N c
  rw [hq, hr] at h2
  rw [hr] at h0 h1
  split
  · have e : (-q - 1) * c + (c - r) = -N := by rw [← h2]; grind
    exact (div_end e (by omega) (by omega)).1
  · have e : (-q) * c + 0 = -N := by
      have : r = 0 := by omega
      rw [← h2, this]; grind
    exact (div_end e (by omega) (by omega)).1

theorem abs_small {a : Int} (h : smallB a = true) : absS a = a.natAbs := by
  unfold absS; rw [if_pos h]; split <;> omega

theorem abs_bd {a : Int} (h : smallB a = true) : 0 ≤ absS a ∧ absS a ≤ 4611686018427387904 := by
  rw [abs_small h]; rw [smallB_iff] at h; omega

/-- the signs are unlike -/
def unlike (a b : Int) : Bool := (decide (a < 0)) != (decide (b < 0))

theorem prod_sign {a b : Int} (ha : smallB a = true) (hb : smallB b = true) : a * b = if unlike a b then -(absS a * absS b) else absS a * absS b := by
  unfold unlike absS
  rw [if_pos ha, if_pos hb]
  by_cases h1 : a < 0 <;> by_cases h2 : b < 0 <;> simp [h1, h2] <;> grind

theorem small_conj {a b c : Int} (h : (smallB a && (smallB b && smallB c)) = true) : smallB a = true ∧ smallB b = true ∧ smallB c = true := by
  simpa [Bool.and_eq_true] using h

theorem floorB_eq {a b c : Int} (h : (smallB a && (smallB b && smallB c)) = true) (hc : 1 ≤ c) : floorB a b c = smallB (a * b / c) := by
  obtain ⟨h1, h2, h3⟩ := small_conj h
  simp [floorB, h1, h2, h3, hc]

theorem floor_neg_eq (a b c : Int) : floorB (-a) b c = ceilB a b c ∧ -a * b / c = -ceilN a b c := by
  have e : -a * b / c = -ceilN a b c := by unfold ceilN; rw [Int.neg_mul]; omega
  refine ⟨?_, e⟩
  unfold floorB ceilB
  rw [e, smallB_neg, smallB_neg]

theorem told_neg (B : Bool) (n : Int) : -told B (-n) = told B n := by
  cases B <;> simp [told]

theorem ceilB_smallest (b c : Int) : ceilB (-9223372036854775808) b c = false ∧ floorB (-9223372036854775808) b c = false := by
  have : smallB (-9223372036854775808) = false := by decide
  simp [ceilB, floorB, this]

end Go.Proofs.YtfdadebddfhpdaaDoor
