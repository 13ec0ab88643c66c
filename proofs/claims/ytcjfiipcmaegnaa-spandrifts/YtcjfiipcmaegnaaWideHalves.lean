/- The walks over wide.halves and wide.product: a product of two numbers that are not below 0, in four halves. -/
import Derived.Test.YtcjfiipcmaegnaaWidePlain
import Derived.Test.YtcjfiipcmaegnaaMem
import Derived.Laws.BitsAllLaws
import Derived.BigQuiet
import Derived.Deep.QuietTactic
namespace Go.Proofs.Ytcjfiipcmaegnaa
open Go.RowKit

theorem and_mask (n : Int) (h0 : 0 ≤ n) (h1 : n < 18446744073709551616) : bits .and .u64 n 4294967295 = n % 4294967296 := by
  rw [u64_and n 4294967295 h0 h1 (by omega) (by omega)]
  have : n.toNat &&& (4294967295 : Int).toNat = n.toNat % 4294967296 := Nat.and_two_pow_sub_one_eq_mod n.toNat 32
  rw [this]; omega

set_option maxHeartbeats 400000 in
theorem halves_any (n x0 x1 : Int) (w : World) (h0 : 0 ≤ x0) (h1 : x0 < 4294967296) (h2 : 0 ≤ x1) (h3 : x1 < 4294967296) (hn : n = x0 + 4294967296 * x1) (hm : n ≤ 4611686018427387904) :
    Calls Try.prog 77 #[.int .i64 n] w fun e w' => e = .returned (.agg #[.int .u64 x0, .int .u64 x1]) ∧ Below w.heap.size w w' := by
  have hp : 0 ≤ n := by omega
  have H0 := Lib.hid (show bits .and .u64 n 4294967295 = x0 by rw [and_mask n (by omega) (by omega)]; omega)
  have H1 := Lib.hid (show n / 4294967296 = x1 by omega)
  clear hn
  go_enter Try.func77, Try.ntmps77
  go_wp2
  refine bodyPost_ret (v := .agg #[.int .u64 x0, .int .u64 x1]) (by simp [results, Try.results77, go_sem]; exact ⟨H0.out, H1.out⟩) rfl ⟨rfl, ?_⟩
  exact (Below.refl _ _).alloc (Nat.le_refl _) _

/-- four halves are a number -/
def IsLong (p0 p1 p2 p3 n : Int) : Prop :=
  (0 ≤ p0 ∧ p0 < 4294967296) ∧ (0 ≤ p1 ∧ p1 < 4294967296) ∧ (0 ≤ p2 ∧ p2 < 4294967296) ∧ (0 ≤ p3 ∧ p3 < 4294967296) ∧
    p0 + 4294967296 * (p1 + 4294967296 * (p2 + 4294967296 * p3)) = n

theorem mul_bd {x y : Int} (h0 : 0 ≤ x) (h1 : x < 4294967296) (g0 : 0 ≤ y) (g1 : y < 4294967296) : 0 ≤ x * y ∧ x * y ≤ 18446744065119617025 := by
  refine ⟨Int.mul_nonneg h0 g0, ?_⟩
  have : x * y ≤ 4294967295 * 4294967295 := Int.mul_le_mul (by omega) (by omega) g0 (by omega)
  omega

theorem product_sum {x0 x1 y0 y1 m00 m01 m10 m11 s2 s3 s4 : Int} (b00 : 0 ≤ m00 ∧ m00 ≤ 18446744065119617025) (b01 : 0 ≤ m01 ∧ m01 ≤ 18446744065119617025)
    (b10 : 0 ≤ m10 ∧ m10 ≤ 18446744065119617025) (b11 : 0 ≤ m11 ∧ m11 ≤ 18446744065119617025)
    (e2 : s2 = m01 + m00 / 4294967296) (e3 : s3 = m10 + s2 % 4294967296) (e4 : s4 = m11 + s2 / 4294967296 + s3 / 4294967296)
    (h00 : m00 = x0 * y0) (h01 : m01 = x0 * y1) (h10 : m10 = x1 * y0) (h11 : m11 = x1 * y1) :
    IsLong (m00 % 4294967296) (s3 % 4294967296) (s4 % 4294967296) (s4 / 4294967296) ((x0 + 4294967296 * x1) * (y0 + 4294967296 * y1)) := by
  have key : (x0 + 4294967296 * x1) * (y0 + 4294967296 * y1) = m00 + 4294967296 * (m01 + m10 + 4294967296 * m11) := by
    subst h00 h01 h10 h11; grind
  rw [key]
  clear key h00 h01 h10 h11
  refine ⟨by omega, by omega, by omega, by omega, by omega⟩

theorem wrap_u64_in (n : Int) (h0 : 0 ≤ n) (h1 : n < 18446744073709551616) : IntKind.u64.wrap n = n := by
  rw [IntKind.wrap_u64]; omega

/-- the world behind both rounds: the third new block holds the product, all below is as it was -/
theorem product_world {w w1 w2 W : World} {o : Array Value} {t s : TypeId} {n1 n2 n3 n4 : Nat} {a0 a1 a2 a3 a4 a5 z0 z1 z2 z3 : Value} {ox oy : Obj}
    (hb1 : Below (w.alloc (.cells o t)).heap.size (w.alloc (.cells o t)) w1) (hb2 : Below w1.heap.size w1 w2)
    (hW : (((((((((((((w2.alloc ox).alloc oy).alloc (.cells #[z0, z1, z2, z3] s)).drewN n1).setCell ⟨w2.heap.size + 1 + 1, 0, none⟩ a0).drewN n2).setCell ⟨w2.heap.size + 1 + 1, 1, none⟩ a1).setCell ⟨w2.heap.size + 1 + 1, 2, none⟩ a2).drewN n3).setCell ⟨w2.heap.size + 1 + 1, 1, none⟩ a3).drewN n4).setCell ⟨w2.heap.size + 1 + 1, 2, none⟩ a4).setCell ⟨w2.heap.size + 1 + 1, 3, none⟩ a5) = W) :
    Holds W (w2.heap.size + 1 + 1) s #[a0, a3, a4, a5] ∧ Holds W w.heap.size t o ∧ Below w.heap.size w W ∧ w.heap.size < w2.heap.size := by
  have k0 : Holds w2 w.heap.size t o := ((Holds.fresh w t o rfl).kept hb1 (by simp)).kept hb2 (by have := hb1.size; simp at this; omega)
  have hz := k0.inside
  subst hW
  refine ⟨?_, ?_, ?_, hz⟩
  · have h := (((((((((Holds.fresh ((w2.alloc ox).alloc oy) s #[z0, z1, z2, z3] (g := w2.heap.size + 1 + 1) (by simp)).drawn n1).put 0 a0).drawn n2).put 1 a1).put 2 a2).drawn n3).put 1 a3).drawn n4).put 2 a4 |>.put 3 a5
    simpa using h
  · exact ((((((((((((k0.laid ox).laid oy).laid _).drawn n1).aside (by simp; omega) a0).drawn n2).aside (by simp; omega) a1).aside (by simp; omega) a2).drawn n3).aside (by simp; omega) a3).drawn n4).aside (by simp; omega) a4).aside (by simp; omega) a5
  · have hb : Below w.heap.size w w2 := (((Below.refl _ w).alloc (Nat.le_refl _) _).trans (hb1.mono (by simp))).trans (hb2.mono (by have := hb1.size; simp at this; omega))
    have h1 := ((hb.alloc (by omega) ox).alloc (by simp; omega) oy).alloc (by simp; omega) (.cells #[z0, z1, z2, z3] s)
    exact Below.setCell (Below.setCell (bdrawn (Below.setCell (bdrawn (Below.setCell (Below.setCell (bdrawn (Below.setCell (bdrawn h1 n1) (by simp; omega) a0) n2) (by simp; omega) a1) (by simp; omega) a2) n3) (by simp; omega) a3) n4) (by simp; omega) a4) (by simp; omega) a5

set_option maxHeartbeats 1000000 in
theorem product_any (a b : Int) (w : World) (ha : 0 ≤ a) (hm : a ≤ 4611686018427387904) (hb : 0 ≤ b) (gm : b ≤ 4611686018427387904) :
    Calls Try.prog 63 #[.int .i64 a, .int .i64 b] w fun e w' => ∃ p0 p1 p2 p3, IsLong p0 p1 p2 p3 (a * b) ∧ e = .returned (.agg #[.int .u64 p0, .int .u64 p1, .int .u64 p2, .int .u64 p3]) ∧ Below w.heap.size w w' := by
  obtain ⟨x0, x1, h0, h1, h2, h3, hn⟩ : ∃ x0 x1 : Int, 0 ≤ x0 ∧ x0 < 4294967296 ∧ 0 ≤ x1 ∧ x1 < 4294967296 ∧ a = x0 + 4294967296 * x1 := ⟨a % 4294967296, a / 4294967296, by omega, by omega, by omega, by omega, by omega⟩
  obtain ⟨y0, y1, g0, g1, g2, g3, gn⟩ : ∃ x0 x1 : Int, 0 ≤ x0 ∧ x0 < 4294967296 ∧ 0 ≤ x1 ∧ x1 < 4294967296 ∧ b = x0 + 4294967296 * x1 := ⟨b % 4294967296, b / 4294967296, by omega, by omega, by omega, by omega, by omega⟩
  have HN := Lib.hid hn
  have GN := Lib.hid gn
  clear hn gn
  obtain ⟨m00, k00⟩ : ∃ m, m = x0 * y0 := ⟨_, rfl⟩
  obtain ⟨m01, k01⟩ : ∃ m, m = x0 * y1 := ⟨_, rfl⟩
  obtain ⟨m10, k10⟩ : ∃ m, m = x1 * y0 := ⟨_, rfl⟩
  obtain ⟨m11, k11⟩ : ∃ m, m = x1 * y1 := ⟨_, rfl⟩
  have b00 := mul_bd h0 h1 g0 g1
  have b01 := mul_bd h0 h1 g2 g3
  have b10 := mul_bd h2 h3 g0 g1
  have b11 := mul_bd h2 h3 g2 g3
  rw [← k00] at b00
  rw [← k01] at b01
  rw [← k10] at b10
  rw [← k11] at b11
  obtain ⟨s2, e2⟩ : ∃ m, m = m01 + m00 / 4294967296 := ⟨_, rfl⟩
  obtain ⟨s3, e3⟩ : ∃ m, m = m10 + s2 % 4294967296 := ⟨_, rfl⟩
  obtain ⟨t4, e4⟩ : ∃ m, m = m11 + s2 / 4294967296 := ⟨_, rfl⟩
  obtain ⟨s4, e5⟩ : ∃ m, m = t4 + s3 / 4294967296 := ⟨_, rfl⟩
  have HS := Lib.hid (product_sum b00 b01 b10 b11 e2 e3 (e5.trans (by rw [e4])) k00 k01 k10 k11)
  rw [← HN.out, ← GN.out] at HS
  have r00 : IntKind.u64.wrap (x0 * y0) = m00 := by rw [← k00]; exact wrap_u64_in _ (by omega) (by omega)
  have r01 : IntKind.u64.wrap (x0 * y1) = m01 := by rw [← k01]; exact wrap_u64_in _ (by omega) (by omega)
  have r10 : IntKind.u64.wrap (x1 * y0) = m10 := by rw [← k10]; exact wrap_u64_in _ (by omega) (by omega)
  have r11 : IntKind.u64.wrap (x1 * y1) = m11 := by rw [← k11]; exact wrap_u64_in _ (by omega) (by omega)
  have q00 : IntKind.u64.wrap m00 = m00 := wrap_u64_in _ (by omega) (by omega)
  have q01 : IntKind.u64.wrap m01 = m01 := wrap_u64_in _ (by omega) (by omega)
  have q10 : IntKind.u64.wrap (m10 + s2 % 4294967296) = s3 := by rw [← e3]; exact wrap_u64_in _ (by omega) (by omega)
  have q11 : IntKind.u64.wrap (m11 + s2 / 4294967296) = t4 := by rw [← e4]; exact wrap_u64_in _ (by omega) (by omega)
  have r2 : IntKind.u64.wrap (m01 + m00 / 4294967296) = s2 := by rw [← e2]; exact wrap_u64_in _ (by omega) (by omega)
  have r3 : IntKind.u64.wrap s3 = s3 := wrap_u64_in _ (by omega) (by omega)
  have r4 : IntKind.u64.wrap (t4 + s3 / 4294967296) = s4 := by rw [← e5]; exact wrap_u64_in _ (by omega) (by omega)
  have f0 : bits .and .u64 m00 4294967295 = m00 % 4294967296 := and_mask _ (by omega) (by omega)
  have f1 : bits .and .u64 s2 4294967295 = s2 % 4294967296 := and_mask _ (by omega) (by omega)
  have f2 : bits .and .u64 s3 4294967295 = s3 % 4294967296 := and_mask _ (by omega) (by omega)
  have f3 : bits .and .u64 s4 4294967295 = s4 % 4294967296 := and_mask _ (by omega) (by omega)
  clear k00 k01 k10 k11 b00 b01 b10 b11 e2 e3 e4 e5 ha hb
  go_enter Try.func63, Try.ntmps63
  go_wp2_with fail
  refine (halves_any a x0 x1 _ h0 h1 h2 h3 HN.out hm).mono ?_
  rintro e w1 ⟨rfl, hb1⟩
  go_wp2_with fail
  refine (halves_any b y0 y1 _ g0 g1 g2 g3 GN.out gm).mono ?_
  rintro e w2 ⟨rfl, hb2⟩
  go_wp2
  refine wp_loop_rounds 3 ?_
  rw [rounds_succ]
  go_wp2
  refine wp_loop_rounds 3 ?_
  rw [rounds_succ]
  go_wp2
  go_quiet (fail)
  go_wp2
  rw [rounds_succ]
  go_wp2
  go_quiet (fail)
  go_wp2
  rw [rounds_succ]
  go_wp2
  rw [rounds_succ]
  go_wp2
  refine wp_loop_rounds 3 ?_
  rw [rounds_succ]
  go_wp2
  go_quiet (fail)
  go_wp2
  rw [rounds_succ]
  go_wp2
  go_quiet (fail)
  go_wp2
  rw [rounds_succ]
  go_wp2
  generalize hW : World.setCell _ _ _ = W
  obtain ⟨k1, k2, hbW, hz⟩ := product_world hb1 hb2 hW
  clear hW
  have c0 := k1.reads (i := 0) rfl
  have c1 := k1.reads (i := 1) rfl
  have c2 := k1.reads (i := 2) rfl
  have c3 := k1.reads (i := 3) rfl
  have d0 := k2.reads (i := 0) rfl
  have d1 := k2.reads (i := 1) rfl
  have d2 := k2.reads (i := 2) rfl
  have d3 := k2.reads (i := 3) rfl
  have f0 := k2.open_ 0
  have f1 := k2.open_ 1
  have f2 := k2.open_ 2
  have f3 := k2.open_ 3
  have HB := Lib.hid hbW
  have K2 := Lib.hid k2
  clear k1 k2 hbW hb1 hb2
  rw [rounds_succ]
  go_wp2
  refine bodyPost_ret (v := .agg #[.int .u64 (m00 % 4294967296), .int .u64 (s3 % 4294967296), .int .u64 (s4 % 4294967296), .int .u64 (s4 / 4294967296)]) (by simp [results, Try.results63, go_sem, d0, d1, d2, d3]) rfl ⟨_, _, _, _, HS.out, rfl, ?_⟩
  exact Below.setCell (Below.setCell (Below.setCell (Below.setCell HB.out (Nat.le_refl _) _) (Nat.le_refl _) _) (Nat.le_refl _) _) (Nat.le_refl _) _
end Go.Proofs.Ytcjfiipcmaegnaa
