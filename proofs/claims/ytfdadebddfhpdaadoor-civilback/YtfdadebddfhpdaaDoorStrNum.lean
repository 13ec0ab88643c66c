/- Plain words on strings as rows of numbers: their bytes, their places, their pieces; indexing, slicing, joining and comparing them. -/
import Derived.Test.YtfdadebddfhpdaaDoorCells
import Derived.Laws.Slices
import Derived.Laws.Strings2
namespace Go.Proofs.YtfdadebddfhpdaaDoor
set_option maxRecDepth 100000
open Go.RowKit
set_option linter.unusedVariables false

/-- a string's bytes -/
def strB (s : ByteArray) : List Int := s.data.toList.map fun b => (b.toNat : Int)
theorem strB_length (s : ByteArray) : (strB s).length = s.size := by simp [strB]
theorem strB_byte (s : ByteArray) : ∀ z ∈ strB s, isByte z := by
  intro z hz
  simp only [strB, List.mem_map] at hz
  obtain ⟨b, _, rfl⟩ := hz
  have := b.toNat_lt
  unfold isByte; omega
theorem str_strB (s : ByteArray) : strOfNums (strB s) = s := by
  apply ByteArray.ext
  apply Array.ext'
  rw [strOfNums_data, strB, List.map_map]
  conv => rhs; rw [← List.map_id s.data.toList]
  exact List.map_congr_left fun b _ => by simp
theorem strB_str {zs : List Int} (h : ∀ z ∈ zs, isByte z) : strB (strOfNums zs) = zs := by
  have := (str_eq (strB_byte (strOfNums zs)) h).1 (str_strB (strOfNums zs))
  exact this
theorem strB_at (s : ByteArray) (i : Nat) (h : i < s.size) : ((s[i]'h).toNat : Int) = (strB s).getD i 0 := by
  have h' : i < (strB s).length := by rw [strB_length]; exact h
  simp only [List.getD, List.getElem?_eq_getElem h', Option.getD_some]
  simp only [strB, List.getElem_map]
  rfl
theorem index_strB (s : ByteArray) (i : Int) (n : Nat) (hi : i = n) (hn : n < s.size) (w : World) : (Instr.index 9 (.string s) (.int .i64 i)).run Tryd.prog w = .ok (.int .u8 ((strB s).getD n 0)) w := by
  subst hi
  rw [run_index_string w 9 s .i64 n Tryd.underlying9, dif_pos ⟨by omega, by omega⟩, ← strB_at s n hn]
  rfl
theorem extract_strB (s : ByteArray) (i j : Nat) : s.extract i j = strOfNums (((strB s).take j).drop i) := by
  apply ByteArray.ext
  apply Array.ext'
  rw [strOfNums_data, ByteArray.data_extract, Array.toList_extract]
  simp only [strB, ← List.map_take, ← List.map_drop, List.map_map]
  rw [List.extract_eq_take_drop, List.drop_take]
  conv => lhs; rw [← List.map_id (List.take (j - i) (List.drop i s.data.toList))]
  exact List.map_congr_left fun b _ => by simp
/-- a string's piece -/
theorem slice_strB (s : ByteArray) (i j : Int) (a b : Nat) (hi : i = a) (hj : j = b) (hab : a ≤ b) (hb : b ≤ s.size) (w : World) :
    (Instr.slice 9 (.string s) (some (.int .i64 i)) (some (.int .i64 j)) none).run Tryd.prog w = .ok (.string (strOfNums (((strB s).take b).drop a))) w := by
  rw [run_slice_string (P := Tryd.prog) w 9 s .i64 .i64 i j Tryd.underlying9 (by omega) (by omega) (by omega), ← extract_strB]
  have e1 : i.toNat = a := by omega
  have e2 : j.toNat = b := by omega
  rw [e1, e2]
theorem slice_strB_h (s : ByteArray) (j : Int) (b : Nat) (hj : j = b) (hb : b ≤ s.size) (w : World) :
    (Instr.slice 9 (.string s) none (some (.int .i64 j)) none).run Tryd.prog w = .ok (.string (strOfNums ((strB s).take b))) w := by
  rw [run_slice_string_h (P := Tryd.prog) w 9 s Tryd.underlying9 .i64 j (by omega) (by omega)]
  have e2 : j.toNat = b := by omega
  rw [e2, extract_strB, List.drop_zero]
theorem slice_strB_l (s : ByteArray) (i : Int) (a : Nat) (hi : i = a) (ha : a ≤ s.size) (w : World) :
    (Instr.slice 9 (.string s) (some (.int .i64 i)) none none).run Tryd.prog w = .ok (.string (strOfNums ((strB s).drop a))) w := by
  rw [run_slice_string_l (P := Tryd.prog) w 9 s Tryd.underlying9 .i64 i (by omega) (by omega)]
  have e2 : i.toNat = a := by omega
  rw [e2, extract_strB, List.take_of_length_le (by rw [strB_length]; exact Nat.le_refl _)]

end Go.Proofs.YtfdadebddfhpdaaDoor
