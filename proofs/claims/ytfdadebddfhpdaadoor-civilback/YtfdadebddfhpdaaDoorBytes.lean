/- Plain words on bytes: numbers as rows of bytes, the highest first; slices of bytes that are read. No program is read here. -/
import Derived.Test.YtfdadebddfhpdaaDoorKeep
import Derived.Laws.BitsAllLaws
import Derived.Laws.BytesArg
import Derived.Laws.IdiomStrings
namespace Go.Proofs.YtfdadebddfhpdaaDoor
set_option maxRecDepth 100000
open Go.RowKit

theorem snoc_ind {α : Type} {P : List α → Prop} (h0 : P []) (h1 : ∀ xs x, P xs → P (xs ++ [x])) (xs : List α) : P xs := by
  have h : ∀ ys : List α, P ys.reverse := by
    intro ys
    induction ys with
    | nil => exact h0
    | cons y ys ih => rw [List.reverse_cons]; exact h1 _ _ ih
  have := h xs.reverse
  rwa [List.reverse_reverse] at this

def isByte (z : Int) : Prop := 0 ≤ z ∧ z ≤ 255
/-- the number that bytes are -/
def beN (zs : List Int) : Int := zs.foldl (fun n z => n * 256 + z) 0
/-- the bytes of a number -/
def beL : Nat → Int → List Int
  | 0, _ => []
  | L + 1, n => beL L (n / 256) ++ [n % 256]
theorem beN_snoc (zs : List Int) (z : Int) : beN (zs ++ [z]) = beN zs * 256 + z := by simp [beN]
theorem beL_length (L : Nat) (n : Int) : (beL L n).length = L := by
  induction L generalizing n with
  | zero => rfl
  | succ L ih => simp [beL, ih]
theorem beL_byte (L : Nat) (n : Int) : ∀ z ∈ beL L n, isByte z := by
  induction L generalizing n with
  | zero => simp [beL]
  | succ L ih =>
    intro z hz
    simp only [beL, List.mem_append, List.mem_singleton] at hz
    rcases hz with hz | rfl
    · exact ih _ z hz
    · unfold isByte; omega
theorem beN_beL (L : Nat) (n : Int) (h0 : 0 ≤ n) (h1 : n < 256 ^ L) : beN (beL L n) = n := by
  induction L generalizing n with
  | zero => simp [beL, beN]; simp at h1; omega
  | succ L ih =>
    rw [beL, beN_snoc, ih (n / 256) (by omega) (by rw [Int.pow_succ] at h1; omega)]
    omega
theorem beN_bd (zs : List Int) (h : ∀ z ∈ zs, isByte z) : 0 ≤ beN zs ∧ beN zs < 256 ^ zs.length := by
  revert h
  refine snoc_ind (P := fun zs => (∀ z ∈ zs, isByte z) → 0 ≤ beN zs ∧ beN zs < 256 ^ zs.length) ?_ ?_ zs
  · simp [beN]
  · intro zs z ih h
    have h1 := ih (fun y hy => h y (by simp [hy]))
    have h2 := h z (by simp)
    unfold isByte at h2
    rw [beN_snoc]
    simp only [List.length_append, List.length_singleton, Int.pow_succ]
    omega
theorem beL_beN (zs : List Int) (h : ∀ z ∈ zs, isByte z) : beL zs.length (beN zs) = zs := by
  revert h
  refine snoc_ind (P := fun zs => (∀ z ∈ zs, isByte z) → beL zs.length (beN zs) = zs) ?_ ?_ zs
  · intro _; rfl
  · intro zs z ih h
    have h1 := ih (fun y hy => h y (by simp [hy]))
    have h2 := h z (by simp)
    unfold isByte at h2
    rw [beN_snoc]
    simp only [List.length_append, List.length_singleton, beL]
    have e1 : (beN zs * 256 + z) / 256 = beN zs := by omega
    have e2 : (beN zs * 256 + z) % 256 = z := by omega
    rw [e1, e2, h1]
theorem pow256_le {n m : Nat} (h : n ≤ m) : (256 : Int) ^ n ≤ 256 ^ m := by
  have h1 : 256 ^ n ≤ 256 ^ m := Nat.pow_le_pow_right (by omega) h
  have e1 : ((256 ^ n : Nat) : Int) = 256 ^ n := Int.natCast_pow 256 n
  have e2 : ((256 ^ m : Nat) : Int) = 256 ^ m := Int.natCast_pow 256 m
  rw [← e1, ← e2]
  exact Int.ofNat_le.2 h1
/-- up to six bytes, as a bound -/
theorem beN_le6 (zs : List Int) (h : ∀ z ∈ zs, isByte z) (hl : zs.length ≤ 6) : beN zs ≤ 281474976710655 := by
  have h1 := (beN_bd zs h).2
  have h2 := pow256_le hl
  have e : (256 : Int) ^ 6 = 281474976710656 := by decide
  omega
theorem beN_le4 (zs : List Int) (h : ∀ z ∈ zs, isByte z) (hl : zs.length ≤ 4) : beN zs ≤ 4294967295 := by
  have h1 := (beN_bd zs h).2
  have h2 := pow256_le hl
  have e : (256 : Int) ^ 4 = 4294967296 := by decide
  omega
theorem beN_take {zs : List Int} {k : Nat} (hk : k < zs.length) : beN (zs.take (k + 1)) = beN (zs.take k) * 256 + zs.getD k 0 := by
  rw [List.take_succ_eq_append_getElem hk, beN_snoc]
  simp [List.getD, hk]

theorem i64_or_join (m z : Int) (h0 : 0 ≤ m) (h1 : m ≤ 36028797018963967) (h2 : 0 ≤ z) (h3 : z ≤ 255) : bits .or .i64 (m * 256) z = m * 256 + z := by
  obtain ⟨M, rfl⟩ := Int.eq_ofNat_of_zero_le h0
  obtain ⟨Z, rfl⟩ := Int.eq_ofNat_of_zero_le h2
  have e : ((M : Int) * 256) = ((M * 256 : Nat) : Int) := by simp
  rw [e]
  have hx : M * 256 ||| Z < 2 ^ 64 := Nat.or_lt_two_pow (by omega) (by omega)
  show IntKind.i64.wrap ((BitVec.ofInt 64 ((M * 256 : Nat) : Int) ||| BitVec.ofInt 64 (Z : Int)).toNat : Int) = _
  rw [BitVec.toNat_or, ofInt_u64 _ (by omega), ofInt_u64 Z (by omega), nat_join 8 (M * 256) Z (by omega) (by omega), IntKind.wrap_i64]
  omega

/-- a slice that can be read as numbers of a kind -/
def sliceOk (k : IntKind) (w : World) (A : Option Addr) (L C : Nat) (zs : List Int) : Prop :=
  (A = none ∧ L = 0 ∧ C = 0 ∧ zs = []) ∨ ∃ a : Addr, A = some a ∧ L ≤ C ∧ C ≤ maxLen ∧ zs.length = C ∧ (∀ i, i < zs.length → w.cell? (a.add i) = some (.int k (zs.getD i 0))) ∧ (∀ n ∈ zs, (Lit.int k n).wf = true)

theorem byte_wf {n : Int} (h : (Lit.int .u8 n).wf = true) : isByte n := by
  simp [Lit.wf, IntKind.min, IntKind.max, IntKind.bits, IntKind.signed] at h
  unfold isByte; omega

/-- a string of numbers as bytes, joined -/
theorem str_append (xs ys : List Int) : strOfNums xs ++ strOfNums ys = strOfNums (xs ++ ys) := by
  apply ByteArray.ext
  simp [strOfNums]
theorem str_eq {xs ys : List Int} (hx : ∀ z ∈ xs, isByte z) (hy : ∀ z ∈ ys, isByte z) : strOfNums xs = strOfNums ys ↔ xs = ys := by
  constructor
  · intro h
    have h1 : (strOfNums xs).data.toList = (strOfNums ys).data.toList := by rw [h]
    rw [strOfNums_data, strOfNums_data] at h1
    clear h
    induction xs generalizing ys with
    | nil => cases ys <;> simp_all
    | cons x xs ih =>
      cases ys with
      | nil => simp at h1
      | cons y ys =>
        simp only [List.map_cons, List.cons.injEq] at h1
        have hx0 := hx x (by simp)
        have hy0 := hy y (by simp)
        unfold isByte at hx0 hy0
        have e : x = y := by
          have := congrArg UInt8.toNat h1.1
          simp at this
          omega
        rw [e, ih (fun z hz => hx z (by simp [hz])) (fun z hz => hy z (by simp [hz])) h1.2]
  · rintro rfl; rfl

end Go.Proofs.YtfdadebddfhpdaaDoor
