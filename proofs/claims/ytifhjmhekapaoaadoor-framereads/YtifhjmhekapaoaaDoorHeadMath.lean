/- Plain words on heads: lengths, flags, which head is right, its bytes, what bytes are read as. No program is read here. -/
import Derived.Test.YtifhjmhekapaoaaDoorIdentPutRef
import Derived.Laws.Bits128
namespace Go.Proofs.YtifhjmhekapaoaaDoor
set_option maxRecDepth 100000
open Go.RowKit
set_option linter.unusedVariables false

/-- how long messages of a type are -/
def longN (t : Int) : Int := if t = 0 then 44 else if t = 1 then 44 else if t = 8 then 44 else if t = 9 then 54 else if t = 11 then 64 else 0
def lensL : List Int := [44, 44, 0, 0, 0, 0, 0, 0, 44, 54, 0, 64]
theorem longN_at (k : Nat) (hk : k < 12) : lensL.getD k 0 = longN (k : Int) := by
  match k, hk with
  | 0, _ => rfl
  | 1, _ => rfl
  | 2, _ => rfl
  | 3, _ => rfl
  | 4, _ => rfl
  | 5, _ => rfl
  | 6, _ => rfl
  | 7, _ => rfl
  | 8, _ => rfl
  | 9, _ => rfl
  | 10, _ => rfl
  | 11, _ => rfl
theorem longN_out {t : Int} (h : t < 0 ∨ 11 < t) : longN t = 0 := by unfold longN; repeat (rw [if_neg (by omega)])
theorem longN_bd (t : Int) : 0 ≤ longN t ∧ longN t ≤ 64 := by unfold longN; repeat (split; omega); omega
theorem longN_ne {t : Int} (h : longN t ≠ 0) : (0 ≤ t ∧ t ≤ 11) ∧ 44 ≤ longN t := by
  unfold longN at h ⊢
  repeat (split; omega)
  omega
/-- the table of lengths lies where it should -/
def Lens (w : World) : Prop := ∀ k : Nat, k < 12 → w.cell? ⟨0, k, none⟩ = some (.int .i64 (longN (k : Int)))
theorem Lens.keep {w v : World} (h : Lens w) (hb : Below w.heap.size w v) : Lens v := fun k hk => keepc hb (h k hk)
theorem Lens.drew {w : World} (h : Lens w) : Lens w.drew := h
theorem Lens.laid {w : World} (h : Lens w) (o : Obj) : Lens (w.alloc o) := h.keep (bnew w o)
theorem Lens.at_ {w : World} (h : Lens w) {t : Int} (h0 : 0 ≤ t) (h1 : t ≤ 11) : w.cell? ⟨0, t.toNat, none⟩ = some (.int .i64 (longN t)) := by
  have := h t.toNat (by omega)
  rw [this]
  congr 3
  omega

/-- a number lies between two -/
def inB (n lo hi : Int) : Bool := decide (lo ≤ n) && decide (n ≤ hi)
theorem inB_iff {n lo hi : Int} : inB n lo hi = true ↔ lo ≤ n ∧ n ≤ hi := by unfold inB; simp
theorem inB_not {n lo hi : Int} : inB n lo hi = false ↔ n < lo ∨ hi < n := by
  rw [← Bool.not_eq_true, inB_iff]; omega
/-- which flags a type may have -/
def flagB (t f : Int) : Bool := if t = 0 then (f == 0 || f == 512) else if t = 11 then inB f 0 63 else f == 0

theorem andNot_zero (x m : BitVec 64) : x &&& ~~~m = 0#64 ↔ x &&& m = x := by
  constructor
  · intro h
    apply BitVec.eq_of_getLsbD_eq
    intro i hi
    have h1 := congrArg (fun b => b.getLsbD i) h
    simp [hi] at h1
    simp [BitVec.getLsbD_and]
    exact h1
  · intro h
    apply BitVec.eq_of_getLsbD_eq
    intro i hi
    have h1 := congrArg (fun b => b.getLsbD i) h
    simp [BitVec.getLsbD_and] at h1
    simp [hi]
    exact h1
theorem wrap_nat_zero (n : Nat) (hn : n < 2 ^ 64) : IntKind.i64.wrap (n : Int) = 0 ↔ n = 0 := by
  rw [IntKind.wrap_i64]; omega
theorem i64_andNot (f : Int) (m : Nat) : bits .andNot .i64 f m = 0 ↔ (f % 18446744073709551616).toNat &&& (m % 2 ^ 64) = (f % 18446744073709551616).toNat := by
  show IntKind.i64.wrap ((BitVec.ofInt 64 f &&& ~~~ BitVec.ofInt 64 (m : Int)).toNat : Int) = 0 ↔ _
  rw [wrap_nat_zero _ (BitVec.isLt _)]
  have e : (BitVec.ofInt 64 f &&& ~~~ BitVec.ofInt 64 (m : Int)).toNat = 0 ↔ BitVec.ofInt 64 f &&& ~~~ BitVec.ofInt 64 (m : Int) = 0#64 := by
    constructor
    · intro h; exact BitVec.eq_of_toNat_eq (by simpa using h)
    · intro h; rw [h]; rfl
  rw [e, andNot_zero]
  have em : (BitVec.ofInt 64 (m : Int)).toNat = m % 2 ^ 64 := by rw [BitVec.toNat_ofInt]; omega
  have ef : (BitVec.ofInt 64 f).toNat = (f % 18446744073709551616).toNat := by rw [BitVec.toNat_ofInt]; rfl
  constructor
  · intro h
    have := congrArg BitVec.toNat h
    rw [BitVec.toNat_and, em, ef] at this
    exact this
  · intro h
    apply BitVec.eq_of_toNat_eq
    rw [BitVec.toNat_and, em, ef]
    exact h
theorem andNot0 (f : Int) (h0 : -9223372036854775808 ≤ f) (h1 : f ≤ 9223372036854775807) : (bits .andNot .i64 f 0 == 0) = (f == 0) := by
  rw [Bool.eq_iff_iff, beq_iff_eq, beq_iff_eq]
  have := i64_andNot f 0
  rw [show ((0 : Nat) : Int) = 0 from rfl] at this
  rw [this]
  simp
  omega
theorem andNot512 (f : Int) (h0 : -9223372036854775808 ≤ f) (h1 : f ≤ 9223372036854775807) : (bits .andNot .i64 f 512 == 0) = (f == 0 || f == 512) := by
  rw [Bool.eq_iff_iff, beq_iff_eq, Bool.or_eq_true, beq_iff_eq, beq_iff_eq]
  have := i64_andNot f 512
  rw [show ((512 : Nat) : Int) = 512 from rfl] at this
  rw [this, show (512 % 2 ^ 64 : Nat) = 2 ^ 9 from rfl, nat_bit]
  omega
theorem andNot63 (f : Int) (h0 : -9223372036854775808 ≤ f) (h1 : f ≤ 9223372036854775807) : (bits .andNot .i64 f 63 == 0) = inB f 0 63 := by
  rw [Bool.eq_iff_iff, beq_iff_eq, inB_iff]
  have := i64_andNot f 63
  rw [show ((63 : Nat) : Int) = 63 from rfl] at this
  rw [this, show (63 % 2 ^ 64 : Nat) = 63 from rfl, nat_mask6]
  omega
theorem i64_and_low (n : Int) (k : Nat) (hk : k < 63) : bits .and .i64 n ((2 ^ k - 1 : Nat) : Int) = ((n % 18446744073709551616).toNat % 2 ^ k : Nat) := by
  have hp : (2 : Nat) ^ k ≤ 2 ^ 62 := Nat.pow_le_pow_right (by omega) (by omega)
  have hp' : 0 < (2 : Nat) ^ k := Nat.pow_pos (by omega)
  have hm : (BitVec.ofInt 64 ((2 ^ k - 1 : Nat) : Int)).toNat = 2 ^ k - 1 := by
    rw [BitVec.toNat_ofInt]; omega
  have ef : (BitVec.ofInt 64 n).toNat = (n % 18446744073709551616).toNat := by rw [BitVec.toNat_ofInt]; rfl
  show IntKind.i64.wrap ((BitVec.ofInt 64 n &&& BitVec.ofInt 64 ((2 ^ k - 1 : Nat) : Int)).toNat : Int) = _
  rw [BitVec.toNat_and, hm, ef, Nat.and_two_pow_sub_one_eq_mod, IntKind.wrap_i64]
  have := Nat.mod_lt (n % 18446744073709551616).toNat hp'
  omega
theorem i64_and65535 (n : Int) : bits .and .i64 n 65535 = n % 65536 := by
  have := i64_and_low n 16 (by omega)
  rw [show ((2 ^ 16 - 1 : Nat) : Int) = 65535 from rfl] at this
  rw [this]; omega
theorem i64_and255 (n : Int) : bits .and .i64 n 255 = n % 256 := by
  have := i64_and_low n 8 (by omega)
  rw [show ((2 ^ 8 - 1 : Nat) : Int) = 255 from rfl] at this
  rw [this]; omega
theorem i64_or_wrap (m z : Int) (h0 : 0 ≤ m) (h1 : m ≤ 72057594037927935) (h2 : 0 ≤ z) (h3 : z ≤ 255) : bits .or .i64 (wrap64 (m * 256)) z = wrap64 (m * 256 + z) := by
  obtain ⟨M, rfl⟩ := Int.eq_ofNat_of_zero_le h0
  obtain ⟨Z, rfl⟩ := Int.eq_ofNat_of_zero_le h2
  have hw : (BitVec.ofInt 64 (wrap64 ((M : Int) * 256))).toNat = M * 256 := by
    rw [BitVec.toNat_ofInt]; unfold wrap64; omega
  show IntKind.i64.wrap ((BitVec.ofInt 64 (wrap64 ((M : Int) * 256)) ||| BitVec.ofInt 64 (Z : Int)).toNat : Int) = _
  have hx : M * 256 ||| Z < 2 ^ 64 := Nat.or_lt_two_pow (by omega) (by omega)
  rw [BitVec.toNat_or, hw, ofInt_u64 Z (by omega), nat_join 8 (M * 256) Z (by omega) (by omega), IntKind.wrap_i64]
  unfold wrap64; omega

/-- a head -/
structure Hd where
  t : Int
  d : Int
  f : Int
  c : Int
  p : Pt
  s : Int
  l : Int
theorem Hd.ext' {a b : Hd} (h1 : a.t = b.t) (h2 : a.d = b.d) (h3 : a.f = b.f) (h4 : a.c = b.c) (h5 : a.p = b.p) (h6 : a.s = b.s) (h7 : a.l = b.l) : a = b := by
  cases a; cases b; simp_all
def zeroH : Hd := ⟨0, 0, 0, 0, zeroP, 0, 0⟩
def Hd.right (h : Hd) : Bool := (longN h.t != 0) && inB h.d 0 255 && flagB h.t h.f && inB h.p.n 1 65534 && inB h.s 0 65535 && inB h.l (-128) 127
theorem Hd.right_iff {h : Hd} : h.right = true ↔ longN h.t ≠ 0 ∧ (0 ≤ h.d ∧ h.d ≤ 255) ∧ flagB h.t h.f = true ∧ (1 ≤ h.p.n ∧ h.p.n ≤ 65534) ∧ (0 ≤ h.s ∧ h.s ≤ 65535) ∧ (-128 ≤ h.l ∧ h.l ≤ 127) := by
  unfold Hd.right
  simp only [Bool.and_eq_true, inB_iff, bne_iff_ne, ne_eq, and_assoc]
theorem flagB_bd {t f : Int} (h : flagB t f = true) : 0 ≤ f ∧ f ≤ 512 := by
  unfold flagB at h
  split at h
  · simp at h; omega
  · split at h
    · rw [inB_iff] at h; omega
    · simp at h; omega
/-- a head's bytes -/
def encL (h : Hd) : List Int := [h.t, 2] ++ beL 2 (longN h.t) ++ [h.d, 0] ++ beL 2 h.f ++ beL 8 h.c ++ [0, 0, 0, 0] ++ ptL h.p ++ beL 2 h.s ++ [0, h.l % 256]
theorem encL_length (h : Hd) : (encL h).length = 34 := by simp [encL, beL_length, ptL_length]

/-- the number behind another one -/
def nextN (n : Int) : Int := if inB n 0 65535 = true ∧ n ≠ 65535 then n + 1 else 0
/-- whether one number is behind another -/
def behindB (a b : Int) : Bool := inB a 0 65535 && inB b 0 65535 && inB ((a - b) % 65536) 1 32767
theorem behindB_iff {a b : Int} : behindB a b = true ↔ (0 ≤ a ∧ a ≤ 65535) ∧ (0 ≤ b ∧ b ≤ 65535) ∧ 1 ≤ (a - b) % 65536 ∧ (a - b) % 65536 ≤ 32767 := by
  unfold behindB; simp only [Bool.and_eq_true, inB_iff, and_assoc]

/-- what bytes say, as a head -/
def sg1 (z : Int) : Int := if 127 < z then z - 256 else z
def hdOf (zs : List Int) : Hd := ⟨zs.getD 0 0 % 16, zs.getD 4 0, zs.getD 6 0 * 256 + zs.getD 7 0, wrap64 (beN ((zs.drop 8).take 8)), getP ((zs.drop 20).take 10), zs.getD 30 0 * 256 + zs.getD 31 0, sg1 (zs.getD 33 0)⟩
/-- what is amiss first with bytes, ahead of what their head says -/
def formN (L : Int) (zs : List Int) : Int :=
  if L < 34 then 50 else if zs.getD 1 0 ≠ 2 then 51 else if longN (zs.getD 0 0 % 16) = 0 then 52
  else if zs.getD 2 0 * 256 + zs.getD 3 0 ≠ longN (zs.getD 0 0 % 16) ∨ L ≠ longN (zs.getD 0 0 % 16) then 53
  else if 15 < zs.getD 0 0 ∨ zs.getD 5 0 ≠ 0 ∨ zs.getD 16 0 ≠ 0 ∨ zs.getD 17 0 ≠ 0 ∨ zs.getD 18 0 ≠ 0 ∨ zs.getD 19 0 ≠ 0 ∨ zs.getD 32 0 ≠ 0 then 54 else 0
/-- what is amiss first with bytes -/
def faultN (L : Int) (zs : List Int) : Int :=
  if formN L zs ≠ 0 then formN L zs else if flagB (hdOf zs).t (hdOf zs).f = false then 55 else if inB (hdOf zs).p.n 1 65534 = false then 56 else 0
/-- what bytes are read as -/
def decH (L : Int) (zs : List Int) : Hd := if faultN L zs = 0 then hdOf zs else zeroH

end Go.Proofs.YtifhjmhekapaoaaDoor
