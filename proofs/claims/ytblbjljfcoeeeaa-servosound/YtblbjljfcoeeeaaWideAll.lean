/- Parts of this proof, one behind the other: WideSmall, WidePlain, WideHalves, WideDivide, WideFloor. -/
import Derived.Test.YtblbjljfcoeeeaaRows
import Derived.Test.YtblbjljfcoeeeaaWideMath
import Derived.WalkKit
import Derived.WalkSpells
import Derived.WalkLawsBesides
import Derived.Lib.Hide
import Derived.Test.YtblbjljfcoeeeaaMem
import Derived.Laws.BitsAllLaws
import Derived.BigQuiet
import Derived.Deep.QuietTactic
import Derived.Deep.LoopGhost

/- The walk over wide.Small: whatever the numbers, it tells whether all of them are small, and writes nothing. -/
namespace Go.Proofs.Ytblbjljfcoeeeaa
set_option maxRecDepth 100000
open Go.RowKit

theorem all_take_end (zs : List Int) (k : Nat) (h : ∀ i, i < k → smallB (zs.getD i 0) = true) (hk : k = zs.length) : zs.all smallB = true := by
  subst hk
  rw [List.all_eq_true]
  intro x hx
  obtain ⟨i, hi, rfl⟩ := List.mem_iff_getElem.1 hx
  have := h i hi
  simpa [List.getD, hi] using this
theorem all_not (zs : List Int) (k : Nat) (hk : k < zs.length) (h : smallB (zs.getD k 0) = false) : zs.all smallB = false := by
  rw [List.all_eq_false]
  refine ⟨zs[k], List.getElem_mem hk, ?_⟩
  simp [List.getD, hk] at h
  simp [h]

set_option maxHeartbeats 400000 in
theorem small_any (b off cap : Nat) (zs : List Int) (w : World) (hz : zs.length ≤ 1000)
    (hc : ∀ i, i < zs.length → w.cell? ⟨b, off + i, none⟩ = some (.int .i64 (zs.getD i 0))) :
    Calls Try.prog 65 #[.slice (some ⟨b, off, none⟩) zs.length cap] w fun e w' => e = .returned (.bool (zs.all smallB)) ∧ w = w' := by
  have HC := Lib.hid hc
  clear hc
  go_enter Try.func65, Try.ntmps65
  go_wp2
  go_loop [7] (fun i => ∃ k : Nat, k ≤ zs.length ∧ i = .int .i64 k ∧ Hid (∀ i, i < k → smallB (zs.getD i 0) = true)) (fun i => zs.length - (intOf i).toNat)
  case atStart => exact ⟨0, Nat.zero_le _, rfl, Lib.hid (fun i hi => absurd hi (by omega))⟩
  case round =>
    obtain ⟨k, hk, rfl, HA⟩ := hrel
    by_cases hlt : k < zs.length
    · obtain ⟨z, HZ⟩ : ∃ z, Hid (z = zs.getD k 0) := ⟨_, Lib.hid rfl⟩
      have hcell : w.cell? ⟨b, off + k, none⟩ = some (.int .i64 z) := by rw [HZ.out]; exact HC.out k hlt
      by_cases hs : -4611686018427387904 ≤ z ∧ z ≤ 4611686018427387904
      · obtain ⟨h1, h2⟩ := hs
        go_wp2
        go_round
        case rel => exact ⟨k + 1, by omega, by go_num, Lib.hid (fun i hi => by
          rcases Nat.lt_or_eq_of_le (Nat.lt_succ_iff.1 hi) with h | h
          · exact HA.out i h
          · subst h; rw [← HZ.out]; exact smallB_iff.2 ⟨h1, h2⟩)⟩
        case measure => simp [intOf]; omega
      · have h3 : z < -4611686018427387904 ∨ 4611686018427387904 < z := by omega
        have H4 := Lib.hid (all_not zs k hlt (by rw [← HZ.out]; exact smallB_not.2 h3))
        clear hs
        rcases h3 with h3 | h3
        · go_wp2
          go_ret
          exact ⟨ret_bool H4.out.symm, rfl⟩
        · have h5 : ¬ z < -4611686018427387904 := by omega
          go_wp2
          go_ret
          exact ⟨ret_bool H4.out.symm, rfl⟩
    · go_wp2
      go_ret
      exact ⟨ret_bool (all_take_end zs k HA.out (by omega)).symm, rfl⟩

end Go.Proofs.Ytblbjljfcoeeeaa

/- The walks over wide's plain functions: Abs, checked, Add, Sub, Clip. -/
namespace Go.Proofs.Ytblbjljfcoeeeaa
set_option maxRecDepth 100000
open Go.RowKit

theorem wrap_over : wrap64 9223372036854775808 = -9223372036854775808 := by simp [wrap64]
theorem small_1 (a : Int) (w : World) :
    Calls Try.prog 65 #[.slice (some ⟨w.heap.size, 0, none⟩) 1 1] (w.alloc (.cells #[.int .i64 a] 3)) fun e w' => e = .returned (.bool (smallB a)) ∧ w.alloc (.cells #[.int .i64 a] 3) = w' := by
  have h := small_any w.heap.size 0 1 [a] (w.alloc (.cells #[.int .i64 a] 3)) (by simp) (by
    intro i hi
    match i, hi with
    | 0, _ => simp)
  simpa using h
theorem small_2 (a b : Int) (w : World) :
    Calls Try.prog 65 #[.slice (some ⟨w.heap.size, 0, none⟩) 2 2] (w.alloc (.cells #[.int .i64 a, .int .i64 b] 3)) fun e w' => e = .returned (.bool (smallB a && smallB b)) ∧ w.alloc (.cells #[.int .i64 a, .int .i64 b] 3) = w' := by
  have h := small_any w.heap.size 0 2 [a, b] (w.alloc (.cells #[.int .i64 a, .int .i64 b] 3)) (by simp) (by
    intro i hi
    match i, hi with
    | 0, _ => simp
    | 1, _ => simp)
  simpa using h
theorem small_3 (a b c : Int) (w : World) :
    Calls Try.prog 65 #[.slice (some ⟨w.heap.size, 0, none⟩) 3 3] (w.alloc (.cells #[.int .i64 a, .int .i64 b, .int .i64 c] 3)) fun e w' => e = .returned (.bool (smallB a && (smallB b && smallB c))) ∧ w.alloc (.cells #[.int .i64 a, .int .i64 b, .int .i64 c] 3) = w' := by
  have h := small_any w.heap.size 0 3 [a, b, c] (w.alloc (.cells #[.int .i64 a, .int .i64 b, .int .i64 c] 3)) (by simp) (by
    intro i hi
    match i, hi with
    | 0, _ => simp
    | 1, _ => simp
    | 2, _ => simp)
  simpa using h

/-- the same where the row's block is spelt otherwise -/
theorem small_1g (a : Int) (g : Nat) (w : World) (hg : g = w.heap.size) :
    Calls Try.prog 65 #[.slice (some ⟨g, 0, none⟩) 1 1] (w.alloc (.cells #[.int .i64 a] 3)) fun e w' => e = .returned (.bool (smallB a)) ∧ w.alloc (.cells #[.int .i64 a] 3) = w' := by
  subst hg; exact small_1 a w
theorem small_2g (a b : Int) (g : Nat) (w : World) (hg : g = w.heap.size) :
    Calls Try.prog 65 #[.slice (some ⟨g, 0, none⟩) 2 2] (w.alloc (.cells #[.int .i64 a, .int .i64 b] 3)) fun e w' => e = .returned (.bool (smallB a && smallB b)) ∧ w.alloc (.cells #[.int .i64 a, .int .i64 b] 3) = w' := by
  subst hg; exact small_2 a b w
theorem small_3g (a b c : Int) (g : Nat) (w : World) (hg : g = w.heap.size) :
    Calls Try.prog 65 #[.slice (some ⟨g, 0, none⟩) 3 3] (w.alloc (.cells #[.int .i64 a, .int .i64 b, .int .i64 c] 3)) fun e w' => e = .returned (.bool (smallB a && (smallB b && smallB c))) ∧ w.alloc (.cells #[.int .i64 a, .int .i64 b, .int .i64 c] 3) = w' := by
  subst hg; exact small_3 a b c w

set_option maxHeartbeats 400000 in
theorem abs_any (a : Int) (w : World) :
    Calls Try.prog 73 #[.int .i64 a] w fun e w' => e = .returned (.int .i64 (absS a)) ∧ Below w.heap.size w w' := by
  cases hs : smallB a
  · have H := Lib.hid (show absS a = 0 by simp [absS, hs])
    go_enter Try.func73, Try.ntmps73
    go_wp2_with (go_at_call 65; refine (small_1 _ _).mono ?_; rintro e w' ⟨rfl, rfl⟩)
    go_ret
    exact ⟨ret_int H.out.symm, (Below.refl _ _).alloc (Nat.le_refl _) _⟩
  · have hb := smallB_iff.1 hs
    obtain ⟨h1, h2⟩ := hb
    by_cases hn : a < 0
    · have H := Lib.hid (show absS a = -a by simp [absS, hs, hn])
      go_enter Try.func73, Try.ntmps73
      go_wp2_with (go_at_call 65; refine (small_1 _ _).mono ?_; rintro e w' ⟨rfl, rfl⟩)
      go_ret
      exact ⟨ret_int H.out.symm, (Below.refl _ _).alloc (Nat.le_refl _) _⟩
    · have H := Lib.hid (show absS a = a by simp [absS, hs, hn])
      go_enter Try.func73, Try.ntmps73
      go_wp2_with (go_at_call 65; refine (small_1 _ _).mono ?_; rintro e w' ⟨rfl, rfl⟩)
      go_ret
      exact ⟨ret_int H.out.symm, (Below.refl _ _).alloc (Nat.le_refl _) _⟩

set_option maxHeartbeats 400000 in
theorem checked_any (a : Int) (w : World) :
    Calls Try.prog 66 #[.int .i64 a] w fun e w' => e = .returned (.tuple #[.int .i64 (told (smallB a) a), .bool (smallB a)]) ∧ Below w.heap.size w w' := by
  cases hs : smallB a
  all_goals
    go_enter Try.func66, Try.ntmps66
    go_wp2_with (go_at_call 65; refine (small_1 _ _).mono ?_; rintro e w' ⟨rfl, rfl⟩)
    go_ret2
    exact ⟨rfl, (Below.refl _ _).alloc (Nat.le_refl _) _⟩

set_option maxHeartbeats 400000 in
theorem add_any (a b : Int) (w : World) :
    Calls Try.prog 64 #[.int .i64 a, .int .i64 b] w fun e w' => e = .returned (.tuple #[.int .i64 (told (addB a b) (a + b)), .bool (addB a b)]) ∧ Below w.heap.size w w' := by
  cases hs : (smallB a && smallB b)
  · have H := Lib.hid (show addB a b = false by simp [addB, hs])
    go_enter Try.func64, Try.ntmps64
    go_wp2_with (go_at_call 65; refine (small_2 _ _ _).mono ?_; rintro e w' ⟨rfl, rfl⟩)
    go_ret2
    exact ⟨by rw [H.out]; rfl, (Below.refl _ _).alloc (Nat.le_refl _) _⟩
  · have hs2 := hs
    rw [Bool.and_eq_true, smallB_iff, smallB_iff] at hs2
    obtain ⟨⟨h1, h2⟩, h3, h4⟩ := hs2
    by_cases hm : a + b ≤ 9223372036854775807
    · have H := Lib.hid (show addB a b = smallB (a + b) by simp [addB, hs])
      go_enter Try.func64, Try.ntmps64
      go_wp2_with (first | (go_at_call 65; refine (small_2 _ _ _).mono ?_; rintro e w' ⟨rfl, rfl⟩) | (go_at_call 66; refine (checked_any _ _).mono ?_; rintro e w2 ⟨rfl, hb⟩))
      go_ret2
      exact ⟨by rw [H.out]; rfl, ((Below.refl _ _).alloc (Nat.le_refl _) _).trans (hb.mono (by simp))⟩
    · obtain rfl : a = 4611686018427387904 := by omega
      obtain rfl : b = 4611686018427387904 := by omega
      clear h1 h2 h3 h4 hm
      go_enter Try.func64, Try.ntmps64
      go_wp2_with (first | (go_at_call 65; refine (small_2 _ _ _).mono ?_; rintro e w' ⟨rfl, rfl⟩) | (go_at_call 66; refine (checked_any _ _).mono ?_; rintro e w2 ⟨rfl, hb⟩))
      go_ret2
      exact ⟨ret_ib (by rw [wrap_over]; decide) (by rw [wrap_over]; decide), ((Below.refl _ _).alloc (Nat.le_refl _) _).trans (hb.mono (by simp))⟩

set_option maxHeartbeats 400000 in
theorem sub_any (a b : Int) (w : World) :
    Calls Try.prog 49 #[.int .i64 a, .int .i64 b] w fun e w' => e = .returned (.tuple #[.int .i64 (told (subB a b) (a - b)), .bool (subB a b)]) ∧ Below w.heap.size w w' := by
  cases hs : (smallB a && smallB b)
  · have H := Lib.hid (show subB a b = false by simp [subB, hs])
    go_enter Try.func49, Try.ntmps49
    go_wp2_with (go_at_call 65; refine (small_2 _ _ _).mono ?_; rintro e w' ⟨rfl, rfl⟩)
    go_ret2
    exact ⟨by rw [H.out]; rfl, (Below.refl _ _).alloc (Nat.le_refl _) _⟩
  · have hs2 := hs
    rw [Bool.and_eq_true, smallB_iff, smallB_iff] at hs2
    obtain ⟨⟨h1, h2⟩, h3, h4⟩ := hs2
    by_cases hm : a - b ≤ 9223372036854775807
    · have H := Lib.hid (show subB a b = smallB (a - b) by simp [subB, hs])
      go_enter Try.func49, Try.ntmps49
      go_wp2_with (first | (go_at_call 65; refine (small_2 _ _ _).mono ?_; rintro e w' ⟨rfl, rfl⟩) | (go_at_call 66; refine (checked_any _ _).mono ?_; rintro e w2 ⟨rfl, hb⟩))
      go_ret2
      exact ⟨by rw [H.out]; rfl, ((Below.refl _ _).alloc (Nat.le_refl _) _).trans (hb.mono (by simp))⟩
    · obtain rfl : a = 4611686018427387904 := by omega
      obtain rfl : b = -4611686018427387904 := by omega
      clear h1 h2 h3 h4 hm
      go_enter Try.func49, Try.ntmps49
      go_wp2_with (first | (go_at_call 65; refine (small_2 _ _ _).mono ?_; rintro e w' ⟨rfl, rfl⟩) | (go_at_call 66; refine (checked_any _ _).mono ?_; rintro e w2 ⟨rfl, hb⟩))
      go_ret2
      exact ⟨ret_ib (by rw [wrap_over]; decide) (by rw [wrap_over]; decide), ((Below.refl _ _).alloc (Nat.le_refl _) _).trans (hb.mono (by simp))⟩

end Go.Proofs.Ytblbjljfcoeeeaa

/- The walks over wide.halves and wide.product: a product of two numbers that are not below 0, in four halves. -/
namespace Go.Proofs.Ytblbjljfcoeeeaa
set_option maxRecDepth 100000
open Go.RowKit

theorem and_mask (n : Int) (h0 : 0 ≤ n) (h1 : n < 18446744073709551616) : bits .and .u64 n 4294967295 = n % 4294967296 := by
  rw [u64_and n 4294967295 h0 h1 (by omega) (by omega)]
  have : n.toNat &&& (4294967295 : Int).toNat = n.toNat % 4294967296 := Nat.and_two_pow_sub_one_eq_mod n.toNat 32
  rw [this]; omega

set_option maxHeartbeats 400000 in
theorem halves_any (n x0 x1 : Int) (w : World) (h0 : 0 ≤ x0) (h1 : x0 < 4294967296) (h2 : 0 ≤ x1) (h3 : x1 < 4294967296) (hn : n = x0 + 4294967296 * x1) (hm : n ≤ 4611686018427387904) :
    Calls Try.prog 75 #[.int .i64 n] w fun e w' => e = .returned (.agg #[.int .u64 x0, .int .u64 x1]) ∧ Below w.heap.size w w' := by
  have hp : 0 ≤ n := by omega
  have H0 := Lib.hid (show bits .and .u64 n 4294967295 = x0 by rw [and_mask n (by omega) (by omega)]; omega)
  have H1 := Lib.hid (show n / 4294967296 = x1 by omega)
  clear hn
  go_enter Try.func75, Try.ntmps75
  go_wp2
  refine bodyPost_ret (v := .agg #[.int .u64 x0, .int .u64 x1]) (by simp [results, Try.results75, go_sem]; exact ⟨H0.out, H1.out⟩) rfl ⟨rfl, ?_⟩
  exact (Below.refl _ _).alloc (Nat.le_refl _) _

/-- four halves are a number -/
def IsLong (p0 p1 p2 p3 n : Int) : Prop :=
  (0 ≤ p0 ∧ p0 < 4294967296) ∧ (0 ≤ p1 ∧ p1 < 4294967296) ∧ (0 ≤ p2 ∧ p2 < 4294967296) ∧ (0 ≤ p3 ∧ p3 < 4294967296) ∧
    p0 + 4294967296 * (p1 + 4294967296 * (p2 + 4294967296 * p3)) = n

theorem mul_bd {x y : Int} (h0 : 0 ≤ x) (h1 : x < 4294967296) (g0 : 0 ≤ y) (g1 : y < 4294967296) : 0 ≤ x * y ∧ x * y ≤ 18446744065119617025 := by
  refine ⟨Int.mul_nonneg h0 g0, ?_⟩
  have : x * y ≤ 4294967295 * 4294967295 := Int.mul_le_mul (by omega) (by omega) g0 (by omega)
  omega

theorem product_sum {x0 x1 y0 y1 m00 m01 m10 m11 s2 s3 s4 : Int} (b00 : 0 ≤ m00 ∧ m00 ≤ 18446744065119617025) (b01 : 0 ≤ m01 ∧ m01 ≤ 18446744065119617025)
    (b10 : 0 ≤ m10 ∧ m10 ≤ 18446744065119617025) (b11 : 0 ≤ m11 ∧ m11 ≤ 18446744065119617025)
    (e2 : s2 = m01 + m00 / 4294967296) (e3 : s3 = m10 + s2 % 4294967296) (e4 : s4 = m11 + s2 / 4294967296 + s3 / 4294967296)
    (h00 : m00 = x0 * y0) (h01 : m01 = x0 * y1) (h10 : m10 = x1 * y0) (h11 : m11 = x1 * y1) :
    IsLong (m00 % 4294967296) (s3 % 4294967296) (s4 % 4294967296) (s4 / 4294967296) ((x0 + 4294967296 * x1) * (y0 + 4294967296 * y1)) := by
  have key : (x0 + 4294967296 * x1) * (y0 + 4294967296 * y1) = m00 + 4294967296 * (m01 + m10 + 4294967296 * m11) := by
    subst h00 h01 h10 h11; grind
  rw [key]
  clear key h00 h01 h10 h11
  refine ⟨by omega, by omega, by omega, by omega, by omega⟩

theorem wrap_u64_in (n : Int) (h0 : 0 ≤ n) (h1 : n < 18446744073709551616) : IntKind.u64.wrap n = n := by
  rw [IntKind.wrap_u64]; omega

/-- the world behind both rounds: the third new block holds the product, all below is as it was -/
theorem product_world {w w1 w2 W : World} {o : Array Value} {t s : TypeId} {n1 n2 n3 n4 : Nat} {a0 a1 a2 a3 a4 a5 z0 z1 z2 z3 : Value} {ox oy : Obj}
    (hb1 : Below (w.alloc (.cells o t)).heap.size (w.alloc (.cells o t)) w1) (hb2 : Below w1.heap.size w1 w2)
    (hW : (((((((((((((w2.alloc ox).alloc oy).alloc (.cells #[z0, z1, z2, z3] s)).drewN n1).setCell ⟨w2.heap.size + 1 + 1, 0, none⟩ a0).drewN n2).setCell ⟨w2.heap.size + 1 + 1, 1, none⟩ a1).setCell ⟨w2.heap.size + 1 + 1, 2, none⟩ a2).drewN n3).setCell ⟨w2.heap.size + 1 + 1, 1, none⟩ a3).drewN n4).setCell ⟨w2.heap.size + 1 + 1, 2, none⟩ a4).setCell ⟨w2.heap.size + 1 + 1, 3, none⟩ a5) = W) :
    Holds W (w2.heap.size + 1 + 1) s #[a0, a3, a4, a5] ∧ Holds W w.heap.size t o ∧ Below w.heap.size w W ∧ w.heap.size < w2.heap.size := by
  have k0 : Holds w2 w.heap.size t o := ((Holds.fresh w t o rfl).kept hb1 (by simp)).kept hb2 (by have := hb1.size; simp at this; omega)
  have hz := k0.inside
  subst hW
  refine ⟨?_, ?_, ?_, hz⟩
  · have h := (((((((((Holds.fresh ((w2.alloc ox).alloc oy) s #[z0, z1, z2, z3] (g := w2.heap.size + 1 + 1) (by simp)).drawn n1).put 0 a0).drawn n2).put 1 a1).put 2 a2).drawn n3).put 1 a3).drawn n4).put 2 a4 |>.put 3 a5
    simpa using h
  · exact ((((((((((((k0.laid ox).laid oy).laid _).drawn n1).aside (by simp; omega) a0).drawn n2).aside (by simp; omega) a1).aside (by simp; omega) a2).drawn n3).aside (by simp; omega) a3).drawn n4).aside (by simp; omega) a4).aside (by simp; omega) a5
  · have hb : Below w.heap.size w w2 := (((Below.refl _ w).alloc (Nat.le_refl _) _).trans (hb1.mono (by simp))).trans (hb2.mono (by have := hb1.size; simp at this; omega))
    have h1 := ((hb.alloc (by omega) ox).alloc (by simp; omega) oy).alloc (by simp; omega) (.cells #[z0, z1, z2, z3] s)
    exact Below.setCell (Below.setCell (bdrawn (Below.setCell (bdrawn (Below.setCell (Below.setCell (bdrawn (Below.setCell (bdrawn h1 n1) (by simp; omega) a0) n2) (by simp; omega) a1) (by simp; omega) a2) n3) (by simp; omega) a3) n4) (by simp; omega) a4) (by simp; omega) a5

set_option maxHeartbeats 1000000 in
theorem product_any (a b : Int) (w : World) (ha : 0 ≤ a) (hm : a ≤ 4611686018427387904) (hb : 0 ≤ b) (gm : b ≤ 4611686018427387904) :
    Calls Try.prog 72 #[.int .i64 a, .int .i64 b] w fun e w' => ∃ p0 p1 p2 p3, IsLong p0 p1 p2 p3 (a * b) ∧ e = .returned (.agg #[.int .u64 p0, .int .u64 p1, .int .u64 p2, .int .u64 p3]) ∧ Below w.heap.size w w' := by
  obtain ⟨x0, x1, h0, h1, h2, h3, hn⟩ : ∃ x0 x1 : Int, 0 ≤ x0 ∧ x0 < 4294967296 ∧ 0 ≤ x1 ∧ x1 < 4294967296 ∧ a = x0 + 4294967296 * x1 := ⟨a % 4294967296, a / 4294967296, by omega, by omega, by omega, by omega, by omega⟩
  obtain ⟨y0, y1, g0, g1, g2, g3, gn⟩ : ∃ x0 x1 : Int, 0 ≤ x0 ∧ x0 < 4294967296 ∧ 0 ≤ x1 ∧ x1 < 4294967296 ∧ b = x0 + 4294967296 * x1 := ⟨b % 4294967296, b / 4294967296, by omega, by omega, by omega, by omega, by omega⟩
  have HN := Lib.hid hn
  have GN := Lib.hid gn
  clear hn gn
  obtain ⟨m00, k00⟩ : ∃ m, m = x0 * y0 := ⟨_, rfl⟩
  obtain ⟨m01, k01⟩ : ∃ m, m = x0 * y1 := ⟨_, rfl⟩
  obtain ⟨m10, k10⟩ : ∃ m, m = x1 * y0 := ⟨_, rfl⟩
  obtain ⟨m11, k11⟩ : ∃ m, m = x1 * y1 := ⟨_, rfl⟩
  have b00 := mul_bd h0 h1 g0 g1
  have b01 := mul_bd h0 h1 g2 g3
  have b10 := mul_bd h2 h3 g0 g1
  have b11 := mul_bd h2 h3 g2 g3
  rw [← k00] at b00
  rw [← k01] at b01
  rw [← k10] at b10
  rw [← k11] at b11
  obtain ⟨s2, e2⟩ : ∃ m, m = m01 + m00 / 4294967296 := ⟨_, rfl⟩
  obtain ⟨s3, e3⟩ : ∃ m, m = m10 + s2 % 4294967296 := ⟨_, rfl⟩
  obtain ⟨t4, e4⟩ : ∃ m, m = m11 + s2 / 4294967296 := ⟨_, rfl⟩
  obtain ⟨s4, e5⟩ : ∃ m, m = t4 + s3 / 4294967296 := ⟨_, rfl⟩
  have HS := Lib.hid (product_sum b00 b01 b10 b11 e2 e3 (e5.trans (by rw [e4])) k00 k01 k10 k11)
  rw [← HN.out, ← GN.out] at HS
  have r00 : IntKind.u64.wrap (x0 * y0) = m00 := by rw [← k00]; exact wrap_u64_in _ (by omega) (by omega)
  have r01 : IntKind.u64.wrap (x0 * y1) = m01 := by rw [← k01]; exact wrap_u64_in _ (by omega) (by omega)
  have r10 : IntKind.u64.wrap (x1 * y0) = m10 := by rw [← k10]; exact wrap_u64_in _ (by omega) (by omega)
  have r11 : IntKind.u64.wrap (x1 * y1) = m11 := by rw [← k11]; exact wrap_u64_in _ (by omega) (by omega)
  have q00 : IntKind.u64.wrap m00 = m00 := wrap_u64_in _ (by omega) (by omega)
  have q01 : IntKind.u64.wrap m01 = m01 := wrap_u64_in _ (by omega) (by omega)
  have q10 : IntKind.u64.wrap (m10 + s2 % 4294967296) = s3 := by rw [← e3]; exact wrap_u64_in _ (by omega) (by omega)
  have q11 : IntKind.u64.wrap (m11 + s2 / 4294967296) = t4 := by rw [← e4]; exact wrap_u64_in _ (by omega) (by omega)
  have r2 : IntKind.u64.wrap (m01 + m00 / 4294967296) = s2 := by rw [← e2]; exact wrap_u64_in _ (by omega) (by omega)
  have r3 : IntKind.u64.wrap s3 = s3 := wrap_u64_in _ (by omega) (by omega)
  have r4 : IntKind.u64.wrap (t4 + s3 / 4294967296) = s4 := by rw [← e5]; exact wrap_u64_in _ (by omega) (by omega)
  have f0 : bits .and .u64 m00 4294967295 = m00 % 4294967296 := and_mask _ (by omega) (by omega)
  have f1 : bits .and .u64 s2 4294967295 = s2 % 4294967296 := and_mask _ (by omega) (by omega)
  have f2 : bits .and .u64 s3 4294967295 = s3 % 4294967296 := and_mask _ (by omega) (by omega)
  have f3 : bits .and .u64 s4 4294967295 = s4 % 4294967296 := and_mask _ (by omega) (by omega)
  clear k00 k01 k10 k11 b00 b01 b10 b11 e2 e3 e4 e5 ha hb
  go_enter Try.func72, Try.ntmps72
  go_wp2_with fail
  refine (halves_any a x0 x1 _ h0 h1 h2 h3 HN.out hm).mono ?_
  rintro e w1 ⟨rfl, hb1⟩
  go_wp2_with fail
  refine (halves_any b y0 y1 _ g0 g1 g2 g3 GN.out gm).mono ?_
  rintro e w2 ⟨rfl, hb2⟩
  go_wp2
  refine wp_loop_rounds 3 ?_
  rw [rounds_succ]
  go_wp2
  refine wp_loop_rounds 3 ?_
  rw [rounds_succ]
  go_wp2
  go_quiet (fail)
  go_wp2
  rw [rounds_succ]
  go_wp2
  go_quiet (fail)
  go_wp2
  rw [rounds_succ]
  go_wp2
  rw [rounds_succ]
  go_wp2
  refine wp_loop_rounds 3 ?_
  rw [rounds_succ]
  go_wp2
  go_quiet (fail)
  go_wp2
  rw [rounds_succ]
  go_wp2
  go_quiet (fail)
  go_wp2
  rw [rounds_succ]
  go_wp2
  generalize hW : World.setCell _ _ _ = W
  obtain ⟨k1, k2, hbW, hz⟩ := product_world hb1 hb2 hW
  clear hW
  have c0 := k1.reads (i := 0) rfl
  have c1 := k1.reads (i := 1) rfl
  have c2 := k1.reads (i := 2) rfl
  have c3 := k1.reads (i := 3) rfl
  have d0 := k2.reads (i := 0) rfl
  have d1 := k2.reads (i := 1) rfl
  have d2 := k2.reads (i := 2) rfl
  have d3 := k2.reads (i := 3) rfl
  have f0 := k2.open_ 0
  have f1 := k2.open_ 1
  have f2 := k2.open_ 2
  have f3 := k2.open_ 3
  have HB := Lib.hid hbW
  have K2 := Lib.hid k2
  clear k1 k2 hbW hb1 hb2
  rw [rounds_succ]
  go_wp2
  refine bodyPost_ret (v := .agg #[.int .u64 (m00 % 4294967296), .int .u64 (s3 % 4294967296), .int .u64 (s4 % 4294967296), .int .u64 (s4 / 4294967296)]) (by simp [results, Try.results72, go_sem, d0, d1, d2, d3]) rfl ⟨_, _, _, _, HS.out, rfl, ?_⟩
  exact Below.setCell (Below.setCell (Below.setCell (Below.setCell HB.out (Nat.le_refl _) _) (Nat.le_refl _) _) (Nat.le_refl _) _) (Nat.le_refl _) _
end Go.Proofs.Ytblbjljfcoeeeaa

/- The walk over wide.divide: a long number by another one, bit by bit; what is told is the quotient and what is left, or nothing, if the quotient is above 2^62. -/
namespace Go.Proofs.Ytblbjljfcoeeeaa
set_option maxRecDepth 100000
open Go.RowKit

def half (p0 p1 p2 p3 : Int) (i : Nat) : Int := match i with | 0 => p0 | 1 => p1 | 2 => p2 | _ => p3

theorem half_bd {p0 p1 p2 p3 N : Int} (h : IsLong p0 p1 p2 p3 N) (i : Nat) : 0 ≤ half p0 p1 p2 p3 i ∧ half p0 p1 p2 p3 i < 4294967296 := by
  obtain ⟨h0, h1, h2, h3, _⟩ := h
  match i with
  | 0 => exact h0
  | 1 => exact h1
  | 2 => exact h2
  | _ + 3 => exact h3

theorem long_nonneg {p0 p1 p2 p3 N : Int} (h : IsLong p0 p1 p2 p3 N) : 0 ≤ N ∧ N < 340282366920938463463374607431768211456 := by
  obtain ⟨h0, h1, h2, h3, h4⟩ := h
  omega

theorem pow_pos' (b : Nat) : (0 : Int) < 2 ^ b := Int.pow_pos (by omega)

theorem div_bit (p h : Int) (b : Nat) (hb : b < 32) : (p + 4294967296 * h) / 2 ^ b % 2 = p / 2 ^ b % 2 := by
  obtain ⟨d, hd⟩ : ∃ d, 32 = b + (d + 1) := ⟨31 - b, by omega⟩
  have e : (4294967296 : Int) = 2 ^ b * (2 * 2 ^ d) := by
    have : (4294967296 : Int) = 2 ^ 32 := by decide
    rw [this, hd, Int.pow_add, Int.pow_succ, Int.mul_comm (2 ^ d) 2]
  rw [e, Int.mul_assoc, Int.add_mul_ediv_left _ _ (Int.ne_of_gt (pow_pos' b)), Int.mul_assoc]
  omega

theorem half_bit {p0 p1 p2 p3 N : Int} (h : IsLong p0 p1 p2 p3 N) (i b : Nat) (hi : i < 4) (hb : b < 32) :
    half p0 p1 p2 p3 i / 2 ^ b % 2 = N / 2 ^ (32 * i + b) % 2 := by
  obtain ⟨h0, h1, h2, h3, h4⟩ := h
  have key : ∀ k : Nat, k < 4 → ∃ q, N / 2 ^ (32 * k) = half p0 p1 p2 p3 k + 4294967296 * q := by
    intro k hk
    match k, hk with
    | 0, _ => exact ⟨p1 + 4294967296 * (p2 + 4294967296 * p3), by simp [half]; omega⟩
    | 1, _ => exact ⟨p2 + 4294967296 * p3, by simp [half]; omega⟩
    | 2, _ => exact ⟨p3, by simp [half]; omega⟩
    | 3, _ => exact ⟨0, by simp [half]; omega⟩
  obtain ⟨q, hq⟩ := key i hi
  rw [Int.pow_add, ← Int.ediv_ediv_of_nonneg (Int.le_of_lt (pow_pos' _)), hq, div_bit _ _ _ hb]

theorem div_two (N : Int) (k : Nat) : N / 2 ^ k = 2 * (N / 2 ^ (k + 1)) + N / 2 ^ k % 2 := by
  rw [Int.pow_succ, ← Int.ediv_ediv_of_nonneg (Int.le_of_lt (pow_pos' _))]
  omega

theorem div_step {N c q r t s : Int} {k : Nat} (h : q * c + r = N / 2 ^ (k + 1)) (ht : t = N / 2 ^ k % 2) (hs : s = 2 * r + t) : q * 2 * c + s = N / 2 ^ k := by
  have e : q * 2 * c = 2 * (q * c) := by grind
  rw [div_two N k, ← h, e, hs, ht]; omega

theorem div_step1 {N c q r t s : Int} {k : Nat} (h : q * c + r = N / 2 ^ (k + 1)) (ht : t = N / 2 ^ k % 2) (hs : s = 2 * r + t) : (q * 2 + 1) * c + (s - c) = N / 2 ^ k := by
  have := div_step h ht hs
  have e : (q * 2 + 1) * c = q * 2 * c + c := by grind
  omega

theorem div_over {N c q r : Int} {k : Nat} (hc : 1 ≤ c) (h : q * c + r = N / 2 ^ k) (hr : 0 ≤ r) (hN : 0 ≤ N) : q ≤ N / c := by
  refine Int.le_ediv_of_mul_le (by omega) ?_
  have : N / 2 ^ k ≤ N := Int.ediv_le_self _ hN
  omega

theorem div_end {N c q r : Int} (h : q * c + r = N) (hr : 0 ≤ r) (hr1 : r < c) : N / c = q ∧ N % c = r := by
  subst h
  have hc : c ≠ 0 := by omega
  constructor
  · rw [Int.add_comm, Int.add_mul_ediv_right _ _ hc, Int.ediv_eq_zero_of_lt hr hr1]; omega
  · rw [Int.add_comm, Int.add_mul_emod_self_right, Int.emod_eq_of_lt hr hr1]

def quoB (N c : Int) : Bool := decide (N / c ≤ 4611686018427387904)

theorem or_bit (r t : Int) (h0 : 0 ≤ r) (h1 : r < 4611686018427387904) (ht : t = 0 ∨ t = 1) : bits .or .u64 (r * 2) t = 2 * r + t := by
  rw [u64_or (r * 2) t (by omega) (by omega) (by omega) (by omega)]
  rw [nat_join 1 (r * 2).toNat t.toNat (by omega) (by omega)]
  omega

theorem and_one (x : Int) (h0 : 0 ≤ x) (h1 : x < 4294967296) : bits .and .u64 x 1 = x % 2 := by
  rw [u64_and x 1 h0 (by omega) (by omega) (by omega)]
  have : x.toNat &&& (1 : Int).toNat = x.toNat % 2 := Nat.and_two_pow_sub_one_eq_mod x.toNat 1
  rw [this]; omega

/-- what holds of the quotient and the rest so far, k bits being left -/
def DivRel (N c q r : Int) (k : Nat) : Prop := q * c + r = N / 2 ^ k

theorem ret_uub {a b a' b' : Int} {c c' : Bool} (h : a = a') (h' : b = b') (h2 : c = c') : Ending.returned (.tuple #[.int .u64 a, .int .u64 b, .bool c]) = .returned (.tuple #[.int .u64 a', .int .u64 b', .bool c']) := by rw [h, h', h2]

set_option maxHeartbeats 1000000 in
theorem divide_any (p0 p1 p2 p3 N c : Int) (w : World) (hp : IsLong p0 p1 p2 p3 N) (h1 : 1 ≤ c) (h2 : c ≤ 4611686018427387904) :
    Calls Try.prog 71 #[.agg #[.int .u64 p0, .int .u64 p1, .int .u64 p2, .int .u64 p3], .int .u64 c] w fun e w' =>
      e = .returned (.tuple #[.int .u64 (told (quoB N c) (N / c)), .int .u64 (told (quoB N c) (N % c)), .bool (quoB N c)]) ∧ Below w.heap.size w w' := by
  have HP := Lib.hid hp
  clear hp
  go_enter Try.func71, Try.ntmps71
  go_wp2
  go_step3
  go_wp2
  go_step3
  go_wp2
  generalize hW : World.alloc _ _ = W
  have hcell : ∀ i, i < 4 → W.cell? ⟨w.heap.size, i, none⟩ = some (.int .u64 (half p0 p1 p2 p3 i)) := by
    subst hW
    intro i hi
    match i, hi with
    | 0, _ => simp [half]
    | 1, _ => simp [half]
    | 2, _ => simp [half]
    | 3, _ => simp [half]
  have HB : Hid (Below w.heap.size w W) := by subst hW; exact (Below.refl _ _).alloc (Nat.le_refl _) _
  have HC := Lib.hid hcell
  clear hW hcell
  go_loop [4, 5, 7] (fun q r i => ∃ kk : Nat, kk ≤ 4 ∧ i = .int .i64 ((kk : Int) - 1) ∧ ∃ qn rn : Int, q = .int .u64 qn ∧ r = .int .u64 rn ∧ DivRel N c qn rn (32 * kk) ∧ 0 ≤ rn ∧ rn < c ∧ 0 ≤ qn ∧ qn ≤ 4611686018427387904) (fun _ _ i => (intOf i + 1).toNat)
  case atStart =>
    have := long_nonneg HP.out
    exact ⟨4, by omega, rfl, 0, 0, rfl, rfl, by unfold DivRel; simp; omega, by omega, by omega, by omega, by omega⟩
  case round =>
    obtain ⟨kk, hk, rfl, qn, rn, rfl, rfl, hd, hr0, hr1, hq0, hq1⟩ := hrel
    by_cases hlt : 1 ≤ kk
    · obtain ⟨ii, rfl⟩ : ∃ ii, kk = ii + 1 := ⟨kk - 1, by omega⟩
      go_wp2
      go_loop [4, 5, 8] (fun q r b => ∃ bb : Nat, bb ≤ 32 ∧ b = .int .i64 ((bb : Int) - 1) ∧ ∃ qn rn : Int, q = .int .u64 qn ∧ r = .int .u64 rn ∧ DivRel N c qn rn (32 * ii + bb) ∧ 0 ≤ rn ∧ rn < c ∧ 0 ≤ qn ∧ qn ≤ 4611686018427387904) (fun _ _ i => (intOf i + 1).toNat)
      case atStart => exact ⟨32, by omega, rfl, qn, rn, rfl, rfl, hd, hr0, hr1, hq0, hq1⟩
      case round =>
        clear hd hr0 hr1 hq0 hq1
        obtain ⟨bb, hk', rfl, qn, rn, rfl, rfl, hd, hr0, hr1, hq0, hq1⟩ := hrel
        by_cases hlt' : 1 ≤ bb
        · obtain ⟨b, rfl⟩ : ∃ b, bb = b + 1 := ⟨bb - 1, by omega⟩
          have hcell := HC.out ii (by omega)
          obtain ⟨t, HT, rt, ht0, ht1⟩ : ∃ t, Hid (t = N / 2 ^ (32 * ii + b) % 2) ∧ bits .and .u64 (half p0 p1 p2 p3 ii / 2 ^ b) 1 = t ∧ 0 ≤ t ∧ t ≤ 1 := by
            have hbd := half_bd HP.out ii
            have hp2 := pow_pos' b
            have hq : half p0 p1 p2 p3 ii / 2 ^ b ≤ half p0 p1 p2 p3 ii := Int.ediv_le_self _ hbd.1
            have hq' : 0 ≤ half p0 p1 p2 p3 ii / 2 ^ b := Int.ediv_nonneg hbd.1 (Int.le_of_lt hp2)
            refine ⟨_, Lib.hid rfl, ?_, by omega, by omega⟩
            rw [and_one _ hq' (by omega)]
            exact half_bit HP.out ii b (by omega) (by omega)
          obtain ⟨s, HS, rs, hs0, hs1⟩ : ∃ s, Hid (s = 2 * rn + t) ∧ bits .or .u64 (rn * 2) t = s ∧ 0 ≤ s ∧ s < 2 * c := by
            refine ⟨_, Lib.hid rfl, or_bit rn t hr0 (by omega) (by omega), by omega, by omega⟩
          have HD := Lib.hid hd
          clear hd
          go_wp2
          · go_ret3
            have h := div_step1 HD.out HT.out HS.out
            have h3 := div_over (by omega) h (by omega) (long_nonneg HP.out).1
            have hB : quoB N c = false := by unfold quoB; simp; omega
            exact ⟨ret_uub (by rw [hB]; rfl) (by rw [hB]; rfl) hB.symm, HB.out⟩
          · go_round
            case rel => exact ⟨b, by omega, rfl, _, _, rfl, rfl, div_step1 HD.out HT.out HS.out, by omega, by omega, by omega, by omega⟩
            case measure => simp [intOf]
          · go_ret3
            have h := div_step HD.out HT.out HS.out
            have h3 := div_over (by omega) h (by omega) (long_nonneg HP.out).1
            have hB : quoB N c = false := by unfold quoB; simp; omega
            exact ⟨ret_uub (by rw [hB]; rfl) (by rw [hB]; rfl) hB.symm, HB.out⟩
          · go_round
            case rel => exact ⟨b, by omega, rfl, _, _, rfl, rfl, div_step HD.out HT.out HS.out, by omega, by omega, by omega, by omega⟩
            case measure => simp [intOf]
        · obtain rfl : bb = 0 := by omega
          go_wp2
          go_round
          case rel => exact ⟨ii, by omega, by go_num, _, _, rfl, rfl, by simpa using hd, by omega, by omega, by omega, by omega⟩
          case measure => simp [intOf]
    · obtain rfl : kk = 0 := by omega
      have hn : ¬ 4611686018427387904 < qn := by omega
      have HD := Lib.hid hd
      clear hd
      go_wp2
      go_ret3
      have h := HD.out
      simp only [DivRel, Nat.mul_zero, Int.pow_zero, Int.ediv_one] at h
      obtain ⟨e1, e2⟩ := div_end h hr0 hr1
      have hB : quoB N c = true := by unfold quoB; rw [e1]; simp; omega
      exact ⟨ret_uub (by rw [hB, e1]; rfl) (by rw [hB, e2]; rfl) hB.symm, HB.out⟩

theorem divide_yes (p0 p1 p2 p3 N c q r : Int) (w : World) (hp : IsLong p0 p1 p2 p3 N) (h1 : 1 ≤ c) (h2 : c ≤ 4611686018427387904) (hq : N / c = q) (hr : N % c = r) (hq1 : q ≤ 4611686018427387904) :
    Calls Try.prog 71 #[.agg #[.int .u64 p0, .int .u64 p1, .int .u64 p2, .int .u64 p3], .int .u64 c] w fun e w' =>
      e = .returned (.tuple #[.int .u64 q, .int .u64 r, .bool true]) ∧ Below w.heap.size w w' := by
  have hB : quoB N c = true := by unfold quoB; simp; omega
  refine (divide_any p0 p1 p2 p3 N c w hp h1 h2).mono ?_
  rintro e w' ⟨rfl, hb⟩
  exact ⟨by rw [hB, hq, hr]; rfl, hb⟩
theorem divide_no (p0 p1 p2 p3 N c : Int) (w : World) (hp : IsLong p0 p1 p2 p3 N) (h1 : 1 ≤ c) (h2 : c ≤ 4611686018427387904) (hq1 : 4611686018427387904 < N / c) :
    Calls Try.prog 71 #[.agg #[.int .u64 p0, .int .u64 p1, .int .u64 p2, .int .u64 p3], .int .u64 c] w fun e w' =>
      e = .returned (.tuple #[.int .u64 0, .int .u64 0, .bool false]) ∧ Below w.heap.size w w' := by
  have hB : quoB N c = false := by unfold quoB; simp; omega
  refine (divide_any p0 p1 p2 p3 N c w hp h1 h2).mono ?_
  rintro e w' ⟨rfl, hb⟩
  exact ⟨by rw [hB]; rfl, hb⟩
end Go.Proofs.Ytblbjljfcoeeeaa

/- The walks over wide.Floor, Ceil and Mul: exact quotients of products. -/
namespace Go.Proofs.Ytblbjljfcoeeeaa
set_option maxRecDepth 100000
open Go.RowKit

theorem neg_div {N c q r : Int} (hc : 1 ≤ c) (hq : N / c = q) (hr : N % c = r) : -N / c = if 0 < r then -q - 1 else -q := by
  have h0 := Int.emod_nonneg N (show c ≠ 0 by omega)
  have h1 := Int.emod_lt_of_pos N (show 0 < c by omega)
  have h2 := Int.emod_add_mul_ediv N c
  rw [hq, hr] at h2
  rw [hr] at h0 h1
  split
  · have e : (-q - 1) * c + (c - r) = -N := by rw [← h2]; grind
    exact (div_end e (by omega) (by omega)).1
  · have e : (-q) * c + 0 = -N := by
      have : r = 0 := by omega
      rw [← h2, this]; grind
    exact (div_end e (by omega) (by omega)).1

theorem abs_small {a : Int} (h : smallB a = true) : absS a = a.natAbs := by
  unfold absS; rw [if_pos h]; split <;> omega

theorem abs_bd {a : Int} (h : smallB a = true) : 0 ≤ absS a ∧ absS a ≤ 4611686018427387904 := by
  rw [abs_small h]; rw [smallB_iff] at h; omega

/-- the signs are unlike -/
def unlike (a b : Int) : Bool := (decide (a < 0)) != (decide (b < 0))

theorem prod_sign {a b : Int} (ha : smallB a = true) (hb : smallB b = true) : a * b = if unlike a b then -(absS a * absS b) else absS a * absS b := by
  unfold unlike absS
  rw [if_pos ha, if_pos hb]
  by_cases h1 : a < 0 <;> by_cases h2 : b < 0 <;> simp [h1, h2] <;> grind

theorem small_conj {a b c : Int} (h : (smallB a && (smallB b && smallB c)) = true) : smallB a = true ∧ smallB b = true ∧ smallB c = true := by
  simpa [Bool.and_eq_true] using h

theorem floorB_eq {a b c : Int} (h : (smallB a && (smallB b && smallB c)) = true) (hc : 1 ≤ c) : floorB a b c = smallB (a * b / c) := by
  obtain ⟨h1, h2, h3⟩ := small_conj h
  simp [floorB, h1, h2, h3, hc]

set_option maxHeartbeats 1000000 in
theorem floor_any (a b c : Int) (w : World) :
    Calls Try.prog 67 #[.int .i64 a, .int .i64 b, .int .i64 c] w fun e w' => e = .returned (.tuple #[.int .i64 (told (floorB a b c) (a * b / c)), .bool (floorB a b c)]) ∧ Below w.heap.size w w' := by
  cases hs : (smallB a && (smallB b && smallB c))
  · have H := Lib.hid (show floorB a b c = false by
      cases h1 : smallB a <;> cases h2 : smallB b <;> cases h3 : smallB c <;> simp [floorB, h1, h2, h3] at hs ⊢)
    go_enter Try.func67, Try.ntmps67
    go_wp2_with (go_at_call 65; refine (small_3 _ _ _ _).mono ?_; rintro e w' ⟨rfl, rfl⟩)
    go_ret2
    exact ⟨by rw [H.out]; rfl, (Below.refl _ _).alloc (Nat.le_refl _) _⟩
  · obtain ⟨ha, hb, hc⟩ := small_conj hs
    have hcb := smallB_iff.1 hc
    by_cases h1 : 1 ≤ c
    · obtain ⟨x, hx⟩ : ∃ x, absS a = x := ⟨_, rfl⟩
      obtain ⟨y, hy⟩ : ∃ x, absS b = x := ⟨_, rfl⟩
      have hxb := abs_bd ha
      have hyb := abs_bd hb
      have hP := prod_sign ha hb
      have hF := floorB_eq (a := a) (b := b) hs h1
      rw [hx] at hxb hP
      rw [hy] at hyb hP
      obtain ⟨hx0, hx1⟩ := hxb
      obtain ⟨hy0, hy1⟩ := hyb
      have hN : 0 ≤ x * y := Int.mul_nonneg hx0 hy0
      obtain ⟨q, hq⟩ : ∃ q, x * y / c = q := ⟨_, rfl⟩
      obtain ⟨r, hr⟩ : ∃ q, x * y % c = q := ⟨_, rfl⟩
      have hr0 : 0 ≤ r := by rw [← hr]; exact Int.emod_nonneg _ (by omega)
      have hr1 : r < c := by rw [← hr]; exact Int.emod_lt_of_pos _ (by omega)
      have hq0 : 0 ≤ q := by rw [← hq]; exact Int.ediv_nonneg hN (by omega)
      have hneg := neg_div h1 hq hr
      have hc2 : c ≤ 4611686018427387904 := hcb.2
      obtain ⟨u, hu⟩ : ∃ u, unlike a b = u := ⟨_, rfl⟩
      rw [hu] at hP
      -- the number, by the signs
      obtain ⟨n, hn⟩ : ∃ n, n = if u then (if 0 < r then -q - 1 else -q) else q := ⟨_, rfl⟩
      have hfl : a * b / c = n := by
        rw [hP, hn]
        cases u
        · simpa using hq
        · simpa using hneg
      have HX := Lib.hid hx
      have HY := Lib.hid hy
      have HF := Lib.hid hF
      have HQ := Lib.hid hq
      have HR := Lib.hid hr
      have HFL := Lib.hid hfl
      have hu' : (!(decide (a < 0) == decide (b < 0))) = u := hu
      clear hx hy hP hF hq hr hfl hneg hN hcb ha hb hc hu
      by_cases hq1 : q ≤ 4611686018427387904
      · cases u
        · have HN := Lib.hid (show n = q by simpa using hn)
          clear hn
          go_enter Try.func67, Try.ntmps67
          go_wp2_with (go_at_call 65; refine (small_3 _ _ _ _).mono ?_; rintro e w' ⟨rfl, rfl⟩)
          refine (abs_any a _).mono ?_
          rintro e w1 ⟨rfl, hb1⟩
          rw [HX.out]
          go_wp2_with fail
          refine (abs_any b _).mono ?_
          rintro e w2 ⟨rfl, hb2⟩
          rw [HY.out]
          go_wp2_with fail
          refine (product_any x y _ hx0 hx1 hy0 hy1).mono ?_
          rintro e w3 ⟨p0, p1, p2, p3, hl, rfl, hb3⟩
          go_wp2_with fail
          refine (divide_yes p0 p1 p2 p3 (x * y) c q r _ hl h1 hc2 HQ.out HR.out hq1).mono ?_
          rintro e w4 ⟨rfl, hb4⟩
          go_wp2_with fail
          refine (checked_any _ _).mono ?_
          rintro e w5 ⟨rfl, hb5⟩
          go_wp2
          go_ret2
          exact ⟨by rw [HF.out, HFL.out, HN.out]; rfl, bstep (bstep (bstep (bstep (bstep (bnew _ _) hb1) hb2) hb3) hb4) hb5⟩
        · by_cases hra : 0 < r
          · have HN := Lib.hid (show n = -q - 1 by simpa [hra] using hn)
            clear hn
            go_enter Try.func67, Try.ntmps67
            go_wp2_with (go_at_call 65; refine (small_3 _ _ _ _).mono ?_; rintro e w' ⟨rfl, rfl⟩)
            refine (abs_any a _).mono ?_
            rintro e w1 ⟨rfl, hb1⟩
            rw [HX.out]
            go_wp2_with fail
            refine (abs_any b _).mono ?_
            rintro e w2 ⟨rfl, hb2⟩
            rw [HY.out]
            go_wp2_with fail
            refine (product_any x y _ hx0 hx1 hy0 hy1).mono ?_
            rintro e w3 ⟨p0, p1, p2, p3, hl, rfl, hb3⟩
            go_wp2_with fail
            refine (divide_yes p0 p1 p2 p3 (x * y) c q r _ hl h1 hc2 HQ.out HR.out hq1).mono ?_
            rintro e w4 ⟨rfl, hb4⟩
            go_wp2_with fail
            refine (checked_any _ _).mono ?_
            rintro e w5 ⟨rfl, hb5⟩
            go_wp2
            go_ret2
            exact ⟨by rw [HF.out, HFL.out, HN.out]; rfl, bstep (bstep (bstep (bstep (bstep (bnew _ _) hb1) hb2) hb3) hb4) hb5⟩
          · have HN := Lib.hid (show n = -q by simpa [hra] using hn)
            clear hn
            go_enter Try.func67, Try.ntmps67
            go_wp2_with (go_at_call 65; refine (small_3 _ _ _ _).mono ?_; rintro e w' ⟨rfl, rfl⟩)
            refine (abs_any a _).mono ?_
            rintro e w1 ⟨rfl, hb1⟩
            rw [HX.out]
            go_wp2_with fail
            refine (abs_any b _).mono ?_
            rintro e w2 ⟨rfl, hb2⟩
            rw [HY.out]
            go_wp2_with fail
            refine (product_any x y _ hx0 hx1 hy0 hy1).mono ?_
            rintro e w3 ⟨p0, p1, p2, p3, hl, rfl, hb3⟩
            go_wp2_with fail
            refine (divide_yes p0 p1 p2 p3 (x * y) c q r _ hl h1 hc2 HQ.out HR.out hq1).mono ?_
            rintro e w4 ⟨rfl, hb4⟩
            go_wp2_with fail
            refine (checked_any _ _).mono ?_
            rintro e w5 ⟨rfl, hb5⟩
            go_wp2
            go_ret2
            exact ⟨by rw [HF.out, HFL.out, HN.out]; rfl, bstep (bstep (bstep (bstep (bstep (bnew _ _) hb1) hb2) hb3) hb4) hb5⟩
      · have hq1 : 4611686018427387904 < q := by omega
        have HN : Hid (smallB n = false) := by
          rw [Hid, smallB_not, hn]
          cases u <;> simp <;> (try split) <;> omega
        clear hn
        go_enter Try.func67, Try.ntmps67
        go_wp2_with (go_at_call 65; refine (small_3 _ _ _ _).mono ?_; rintro e w' ⟨rfl, rfl⟩)
        refine (abs_any a _).mono ?_
        rintro e w1 ⟨rfl, hb1⟩
        rw [HX.out]
        go_wp2_with fail
        refine (abs_any b _).mono ?_
        rintro e w2 ⟨rfl, hb2⟩
        rw [HY.out]
        go_wp2_with fail
        refine (product_any x y _ hx0 hx1 hy0 hy1).mono ?_
        rintro e w3 ⟨p0, p1, p2, p3, hl, rfl, hb3⟩
        go_wp2_with fail
        refine (divide_no p0 p1 p2 p3 (x * y) c _ hl h1 hc2 (by rw [HQ.out]; exact hq1)).mono ?_
        rintro e w4 ⟨rfl, hb4⟩
        go_wp2
        go_ret2
        exact ⟨by rw [HF.out, HFL.out, HN.out]; rfl, bstep (bstep (bstep (bstep (bnew _ _) hb1) hb2) hb3) hb4⟩
    · have h1' : c < 1 := by omega
      have H := Lib.hid (show floorB a b c = false by simp [floorB, h1])
      clear h1
      go_enter Try.func67, Try.ntmps67
      go_wp2_with (go_at_call 65; refine (small_3 _ _ _ _).mono ?_; rintro e w' ⟨rfl, rfl⟩)
      go_ret2
      exact ⟨by rw [H.out]; rfl, (Below.refl _ _).alloc (Nat.le_refl _) _⟩

theorem floor_neg_eq (a b c : Int) : floorB (-a) b c = ceilB a b c ∧ -a * b / c = -ceilN a b c := by
  have e : -a * b / c = -ceilN a b c := by unfold ceilN; rw [Int.neg_mul]; omega
  refine ⟨?_, e⟩
  unfold floorB ceilB
  rw [e, smallB_neg, smallB_neg]

theorem told_neg (B : Bool) (n : Int) : -told B (-n) = told B n := by
  cases B <;> simp [told]

theorem ceilB_smallest (b c : Int) : ceilB (-9223372036854775808) b c = false ∧ floorB (-9223372036854775808) b c = false := by
  have : smallB (-9223372036854775808) = false := by decide
  simp [ceilB, floorB, this]

set_option maxHeartbeats 1000000 in
theorem ceil_any (a b c : Int) (w : World) (ha : In64 a) :
    Calls Try.prog 51 #[.int .i64 a, .int .i64 b, .int .i64 c] w fun e w' => e = .returned (.tuple #[.int .i64 (told (ceilB a b c) (ceilN a b c)), .bool (ceilB a b c)]) ∧ Below w.heap.size w w' := by
  obtain ⟨ha1, ha2⟩ := ha
  by_cases hm : a = -9223372036854775808
  · subst hm
    obtain ⟨e1, e2⟩ := ceilB_smallest b c
    have E1 := Lib.hid e1
    have E2 := Lib.hid e2
    clear e1 e2 ha1 ha2
    go_enter Try.func51, Try.ntmps51
    go_wp2_with fail
    rw [wrap_over]
    refine (floor_any (-9223372036854775808) b c _).mono ?_
    rintro e w1 ⟨rfl, hb1⟩
    rw [E2.out, told_false]
    go_wp2
    go_ret2
    exact ⟨by rw [E1.out]; rfl, hb1⟩
  · have ha3 : -9223372036854775808 < a := by omega
    clear hm
    obtain ⟨e1, e2⟩ := floor_neg_eq a b c
    obtain ⟨T, hT⟩ : ∃ T, T = told (ceilB a b c) (ceilN a b c) := ⟨_, rfl⟩
    obtain ⟨B, hB⟩ : ∃ T, T = ceilB a b c := ⟨_, rfl⟩
    have hTb : -4611686018427387904 ≤ T ∧ T ≤ 4611686018427387904 := by
      rw [hT]
      cases h : ceilB a b c
      · simp [told]
      · simp only [told_true]
        have : smallB (ceilN a b c) = true := by
          unfold ceilB at h; simp only [Bool.and_eq_true] at h; exact h.2
        exact smallB_iff.1 this
    obtain ⟨t1, t2⟩ := hTb
    have E1 : Hid (told (floorB (-a) b c) (-a * b / c) = -T) := by
      rw [Hid, e1, e2, hT, ← told_neg, Int.neg_neg]
    have E2 : Hid (floorB (-a) b c = B) := by rw [Hid, e1, hB]
    have HT := Lib.hid hT
    have HB := Lib.hid hB
    clear e1 e2 hT hB
    go_enter Try.func51, Try.ntmps51
    go_wp2_with fail
    refine (floor_any (-a) b c _).mono ?_
    rintro e w1 ⟨rfl, hb1⟩
    rw [E1.out, E2.out]
    go_wp2
    go_ret2
    exact ⟨ret_ib HT.out HB.out, hb1⟩

end Go.Proofs.Ytblbjljfcoeeeaa
