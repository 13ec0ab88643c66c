/- The walks over strings.IndexByte and ident.Read. -/
import Derived.Test.YtifhjmhekapaoaaDoorIdentReadMath
namespace Go.Proofs.YtifhjmhekapaoaaDoor
set_option maxRecDepth 100000
open Go.RowKit
set_option linter.unusedVariables false

theorem index_ix {z : Int} (h : isByte z) : Lib.indexByte [48, 49, 50, 51, 52, 53, 54, 55, 56, 57, 97, 98, 99, 100, 101, 102] z.toNat.toUInt8 = ixN z := by
  obtain ⟨n, rfl⟩ := Int.eq_ofNat_of_zero_le h.1
  have hn : n < 256 := by have := h.2; omega
  have H : ∀ m : Fin 256, Lib.indexByte [48, 49, 50, 51, 52, 53, 54, 55, 56, 57, 97, 98, 99, 100, 101, 102] (((m.val : Int)).toNat.toUInt8) = ixN (m.val : Int) := by decide +kernel
  exact H ⟨n, hn⟩

theorem i64_or_16 (m z : Int) (h0 : 0 ≤ m) (h1 : m ≤ 15) (h2 : 0 ≤ z) (h3 : z ≤ 15) : bits .or .i64 (m * 16) z = m * 16 + z := by
  obtain ⟨M, rfl⟩ := Int.eq_ofNat_of_zero_le h0
  obtain ⟨Z, rfl⟩ := Int.eq_ofNat_of_zero_le h2
  have e : ((M : Int) * 16) = ((M * 16 : Nat) : Int) := by simp
  rw [e]
  have hx : M * 16 ||| Z < 2 ^ 64 := Nat.or_lt_two_pow (by omega) (by omega)
  show IntKind.i64.wrap ((BitVec.ofInt 64 ((M * 16 : Nat) : Int) ||| BitVec.ofInt 64 (Z : Int)).toNat : Int) = _
  rw [BitVec.toNat_or, ofInt_u64 _ (by omega), ofInt_u64 Z (by omega), nat_join 4 (M * 16) Z (by omega) (by omega), IntKind.wrap_i64]
  omega

theorem hold_part {v : World} {g : Nat} {t : TypeId} {p : Nat → Int} {k : Nat} (hk : k < 8) (h : Holds v g t #[.int .u8 (part8 p k).b0, .int .u8 (part8 p k).b1, .int .u8 (part8 p k).b2, .int .u8 (part8 p k).b3, .int .u8 (part8 p k).b4, .int .u8 (part8 p k).b5, .int .u8 (part8 p k).b6, .int .u8 (part8 p k).b7]) : Holds (v.setCell ⟨g, k, none⟩ (.int .u8 (p k))) g t #[.int .u8 (part8 p (k + 1)).b0, .int .u8 (part8 p (k + 1)).b1, .int .u8 (part8 p (k + 1)).b2, .int .u8 (part8 p (k + 1)).b3, .int .u8 (part8 p (k + 1)).b4, .int .u8 (part8 p (k + 1)).b5, .int .u8 (part8 p (k + 1)).b6, .int .u8 (part8 p (k + 1)).b7] := by
  match k, hk with
  | 0, _ => simpa [part8] using h.put 0 (.int .u8 (p 0))
  | 1, _ => simpa [part8] using h.put 1 (.int .u8 (p 1))
  | 2, _ => simpa [part8] using h.put 2 (.int .u8 (p 2))
  | 3, _ => simpa [part8] using h.put 3 (.int .u8 (p 3))
  | 4, _ => simpa [part8] using h.put 4 (.int .u8 (p 4))
  | 5, _ => simpa [part8] using h.put 5 (.int .u8 (p 5))
  | 6, _ => simpa [part8] using h.put 6 (.int .u8 (p 6))
  | 7, _ => simpa [part8] using h.put 7 (.int .u8 (p 7))

theorem index_str (s : ByteArray) (i : Int) (n : Nat) (hi : i = n) (hn : n < s.size) (w : World) : (Instr.index 9 (.string s) (.int .i64 i)).run Tryd.prog w = .ok (.int .u8 ((strL s).getD n 0)) w := by
  subst hi
  rw [run_index_string w 9 s .i64 n Tryd.underlying9, dif_pos ⟨by omega, by omega⟩, ← strL_at s n hn]
  rfl
theorem getD_byte {zs : List Int} (h : ∀ z ∈ zs, isByte z) (i : Nat) : isByte (zs.getD i 0) := by
  by_cases hi : i < zs.length
  · simp only [List.getD, List.getElem?_eq_getElem hi, Option.getD_some]; exact h _ (List.getElem_mem hi)
  · have e : zs[i]? = none := List.getElem?_eq_none (by omega)
    simp only [List.getD, e, Option.getD_none]; exact ⟨by omega, by omega⟩
/-- how a clock and a bool are told -/
def ckR (c : Ck) (B : Bool) : Ending := .returned (.tuple #[.agg #[.int .u8 c.b0, .int .u8 c.b1, .int .u8 c.b2, .int .u8 c.b3, .int .u8 c.b4, .int .u8 c.b5, .int .u8 c.b6, .int .u8 c.b7], .bool B])
theorem rd_no {zs : List Int} (h : rdB zs = false) : ckR (rdC zs) (rdB zs) = .returned (.tuple #[.agg #[.int .u8 0, .int .u8 0, .int .u8 0, .int .u8 0, .int .u8 0, .int .u8 0, .int .u8 0, .int .u8 0], .bool false]) := by
  unfold ckR rdC; rw [h]; rfl

end Go.Proofs.YtifhjmhekapaoaaDoor
