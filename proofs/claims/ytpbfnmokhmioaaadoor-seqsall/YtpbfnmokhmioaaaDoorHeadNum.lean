/- Plain words on the numbers that heads hold: lengths by types, numbers that go round. No program is read here. -/
import Derived.Test.YtpbfnmokhmioaaaDoorIdentMath
import Derived.Test.YtpbfnmokhmioaaaDoorKeep
import Derived.Laws.Bits128
namespace Go.Proofs.YtpbfnmokhmioaaaDoor
set_option maxRecDepth 100000
open Go.RowKit
set_option linter.unusedVariables false

/-- how long messages of a type are -/
def longN (t : Int) : Int := if t = 0 then 44 else if t = 1 then 44 else if t = 8 then 44 else if t = 9 then 54 else if t = 11 then 64 else 0
def lensL : List Int := [44, 44, 0, 0, 0, 0, 0, 0, 44, 54, 0, 64]
theorem longN_at (k : Nat) (hk : k < 12) : lensL.getD k 0 = longN (k : Int) := by
  match k, hk with
  | 0, _ => rfl
  | 1, _ => rfl
  | 2, _ => rfl
  | 3, _ => rfl
  | 4, _ => rfl
  | 5, _ => rfl
  | 6, _ => rfl
  | 7, _ => rfl
  | 8, _ => rfl
  | 9, _ => rfl
  | 10, _ => rfl
  | 11, _ => rfl
theorem longN_out {t : Int} (h : t < 0 ∨ 11 < t) : longN t = 0 := by unfold longN; repeat (rw [if_neg (by omega)])
theorem longN_bd (t : Int) : 0 ≤ longN t ∧ longN t ≤ 64 := by unfold longN; repeat (split; omega); omega
theorem longN_ne {t : Int} (h : longN t ≠ 0) : (0 ≤ t ∧ t ≤ 11) ∧ 44 ≤ longN t := by
  unfold longN at h ⊢
  repeat (split; omega)
  omega
/-- the table of lengths lies where it should -/
def Lens (w : World) : Prop := ∀ k : Nat, k < 12 → w.cell? ⟨0, k, none⟩ = some (.int .i64 (longN (k : Int)))
theorem Lens.keep {w v : World} (h : Lens w) (hb : Below w.heap.size w v) : Lens v := fun k hk => keepc hb (h k hk)
theorem Lens.keptB {w v : World} (h : Lens w) (hb : Below w.heap.size w v) : Lens v := h.keep hb
theorem Lens.drew {w : World} (h : Lens w) : Lens w.drew := h
theorem Lens.laid {w : World} (h : Lens w) (o : Obj) : Lens (w.alloc o) := h.keep (bnew w o)
theorem Lens.at_ {w : World} (h : Lens w) {t : Int} (h0 : 0 ≤ t) (h1 : t ≤ 11) : w.cell? ⟨0, t.toNat, none⟩ = some (.int .i64 (longN t)) := by
  have := h t.toNat (by omega)
  rw [this]
  congr 3
  omega

/-- a number lies between two -/
def inB (n lo hi : Int) : Bool := decide (lo ≤ n) && decide (n ≤ hi)
theorem inB_iff {n lo hi : Int} : inB n lo hi = true ↔ lo ≤ n ∧ n ≤ hi := by unfold inB; simp
theorem inB_not {n lo hi : Int} : inB n lo hi = false ↔ n < lo ∨ hi < n := by
  rw [← Bool.not_eq_true, inB_iff]; omega
theorem i64_and_low (n : Int) (k : Nat) (hk : k < 63) : bits .and .i64 n ((2 ^ k - 1 : Nat) : Int) = ((n % 18446744073709551616).toNat % 2 ^ k : Nat) := by
  have hp : (2 : Nat) ^ k ≤ 2 ^ 62 := Nat.pow_le_pow_right (by omega) (by omega)
  have hp' : 0 < (2 : Nat) ^ k := Nat.pow_pos (by omega)
  have hm : (BitVec.ofInt 64 ((2 ^ k - 1 : Nat) : Int)).toNat = 2 ^ k - 1 := by
    rw [BitVec.toNat_ofInt]; omega
  have ef : (BitVec.ofInt 64 n).toNat = (n % 18446744073709551616).toNat := by rw [BitVec.toNat_ofInt]; rfl
  show IntKind.i64.wrap ((BitVec.ofInt 64 n &&& BitVec.ofInt 64 ((2 ^ k - 1 : Nat) : Int)).toNat : Int) = _
  rw [BitVec.toNat_and, hm, ef, Nat.and_two_pow_sub_one_eq_mod, IntKind.wrap_i64]
  have := Nat.mod_lt (n % 18446744073709551616).toNat hp'
  omega
theorem i64_and65535 (n : Int) : bits .and .i64 n 65535 = n % 65536 := by
  have := i64_and_low n 16 (by omega)
  rw [show ((2 ^ 16 - 1 : Nat) : Int) = 65535 from rfl] at this
  rw [this]; omega
theorem i64_and255 (n : Int) : bits .and .i64 n 255 = n % 256 := by
  have := i64_and_low n 8 (by omega)
  rw [show ((2 ^ 8 - 1 : Nat) : Int) = 255 from rfl] at this
  rw [this]; omega
/-- the number behind another one -/
def nextN (n : Int) : Int := if inB n 0 65535 = true ∧ n ≠ 65535 then n + 1 else 0
/-- whether one number is behind another -/
def behindB (a b : Int) : Bool := inB a 0 65535 && inB b 0 65535 && inB ((a - b) % 65536) 1 32767
theorem behindB_iff {a b : Int} : behindB a b = true ↔ (0 ≤ a ∧ a ≤ 65535) ∧ (0 ≤ b ∧ b ≤ 65535) ∧ 1 ≤ (a - b) % 65536 ∧ (a - b) % 65536 ≤ 32767 := by
  unfold behindB; simp only [Bool.and_eq_true, inB_iff, and_assoc]


end Go.Proofs.YtpbfnmokhmioaaaDoor
