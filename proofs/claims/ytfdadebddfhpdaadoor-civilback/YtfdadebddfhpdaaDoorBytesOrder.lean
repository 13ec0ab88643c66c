/- Plain words on bytes: rows of bytes of one length stand in the order of their numbers. -/
import Derived.Test.YtfdadebddfhpdaaDoorBytes
namespace Go.Proofs.YtfdadebddfhpdaaDoor
set_option maxRecDepth 100000
open Go.RowKit

theorem beN_from (m : Int) (zs : List Int) : zs.foldl (fun n z => n * 256 + z) m = m * 256 ^ zs.length + beN zs := by
  induction zs generalizing m with
  | nil => simp [beN]
  | cons z zs ih =>
    have h2 := ih (0 * 256 + z)
    simp only [beN, List.foldl_cons, List.length_cons] at *
    rw [ih, h2]
    rw [Int.pow_succ]
    grind
theorem beN_cons (z : Int) (zs : List Int) : beN (z :: zs) = z * 256 ^ zs.length + beN zs := by
  have := beN_from (0 * 256 + z) zs
  simp only [beN, List.foldl_cons] at *
  rw [this]; simp
theorem beN_append (xs ys : List Int) : beN (xs ++ ys) = beN xs * 256 ^ ys.length + beN ys := by
  unfold beN
  rw [List.foldl_append]
  exact beN_from _ ys

def u8s (zs : List Int) : List UInt8 := zs.map fun n => UInt8.ofNat n.toNat
theorem u8_byte {z : Int} (h : isByte z) : ((UInt8.ofNat z.toNat).toNat : Int) = z := by
  unfold isByte at h
  rw [UInt8.toNat_ofNat']; omega
theorem str_toList (zs : List Int) : (strOfNums zs).toList = u8s zs := by
  rw [ByteArray.toList_eq]; rfl

theorem less_bytes : ∀ (xs ys : List Int), xs.length = ys.length → (∀ z ∈ xs, isByte z) → (∀ z ∈ ys, isByte z) → Op.bytesLess (u8s xs) (u8s ys) = decide (beN xs < beN ys)
  | [], [], _, _, _ => by simp [u8s, Op.bytesLess, beN]
  | [], y :: ys, h, _, _ => by simp at h
  | x :: xs, [], h, _, _ => by simp at h
  | x :: xs, y :: ys, h, hx, hy => by
    have hl : xs.length = ys.length := by simpa using h
    have ih := less_bytes xs ys hl (fun z hz => hx z (by simp [hz])) (fun z hz => hy z (by simp [hz]))
    have bx := beN_bd xs (fun z hz => hx z (by simp [hz]))
    have by' := beN_bd ys (fun z hz => hy z (by simp [hz]))
    have ex := u8_byte (hx x (by simp))
    have ey := u8_byte (hy y (by simp))
    rw [beN_cons, beN_cons, hl]
    rw [hl] at bx
    obtain ⟨P, hP⟩ : ∃ P : Int, (256 : Int) ^ ys.length = P := ⟨_, rfl⟩
    rw [hP] at bx by' ⊢
    simp only [u8s, List.map_cons] at ih ⊢
    unfold Op.bytesLess
    rcases Int.lt_trichotomy x y with hlt | heq | hgt
    · have h1 : UInt8.ofNat x.toNat < UInt8.ofNat y.toNat := by rw [UInt8.lt_iff_toNat_lt]; omega
      have h2 : x * P + beN xs < y * P + beN ys := by
        have : (x + 1) * P ≤ y * P := Int.mul_le_mul_of_nonneg_right (by omega) (by omega)
        grind
      simp [h1, h2]
    · subst heq
      simp [ih]
    · have h1 : UInt8.ofNat y.toNat < UInt8.ofNat x.toNat := by rw [UInt8.lt_iff_toNat_lt]; omega
      have h3 : ¬ UInt8.ofNat x.toNat < UInt8.ofNat y.toNat := by rw [UInt8.lt_iff_toNat_lt] at h1 ⊢; omega
      have h4 : ¬ UInt8.ofNat x.toNat = UInt8.ofNat y.toNat := by
        intro h; rw [h] at h1; exact absurd h1 (by rw [UInt8.lt_iff_toNat_lt]; omega)
      have h2 : ¬ x * P + beN xs < y * P + beN ys := by
        have : (y + 1) * P ≤ x * P := Int.mul_le_mul_of_nonneg_right (by omega) (by omega)
        grind
      simp [h3, h4, h2]

end Go.Proofs.YtfdadebddfhpdaaDoor
