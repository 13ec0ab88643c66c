/- The walks over ident.Text and the reference's, over strings.IndexByte, ident.Read and the reference's. -/
import Derived.Test.YtifhjmhekapaoaaDoorIdentRef
import Derived.Deep.AppendLies
import Derived.Lib.Bytealg
namespace Go.Proofs.YtifhjmhekapaoaaDoor
set_option maxRecDepth 100000
open Go.RowKit
set_option linter.unusedVariables false

theorem ret_str {a b : ByteArray} (h : a = b) : Ending.returned (.string a) = .returned (.string b) := by rw [h]
/-- a digit's letter -/
def digN (n : Int) : Int := if n < 10 then 48 + n else 87 + n
theorem digN_byte {n : Int} (h0 : 0 ≤ n) (h1 : n ≤ 15) : isByte (digN n) := by unfold digN isByte; split <;> omega
theorem digN_mono {m n : Int} (h0 : 0 ≤ m) (h1 : m < n) (h2 : n ≤ 15) : digN m < digN n := by unfold digN; split <;> split <;> omega
/-- bytes as digits -/
def hexL (zs : List Int) : List Int := zs.flatMap fun z => [digN (z / 16), digN (z % 16)]
def digits : ByteArray := { data := #[48, 49, 50, 51, 52, 53, 54, 55, 56, 57, 97, 98, 99, 100, 101, 102] }
set_option maxRecDepth 100000 in
theorem index_dig (n : Int) (h0 : 0 ≤ n) (h1 : n ≤ 15) (w : World) : (Instr.index 9 (.string { data := #[48, 49, 50, 51, 52, 53, 54, 55, 56, 57, 97, 98, 99, 100, 101, 102] }) (.int .u8 n)).run Tryd.prog w = .ok (.int .u8 (digN n)) w := by
  obtain ⟨m, rfl⟩ := Int.eq_ofNat_of_zero_le h0
  have hm : m < 16 := by omega
  match m, hm with
  | 0, _ => rfl
  | 1, _ => rfl
  | 2, _ => rfl
  | 3, _ => rfl
  | 4, _ => rfl
  | 5, _ => rfl
  | 6, _ => rfl
  | 7, _ => rfl
  | 8, _ => rfl
  | 9, _ => rfl
  | 10, _ => rfl
  | 11, _ => rfl
  | 12, _ => rfl
  | 13, _ => rfl
  | 14, _ => rfl
  | 15, _ => rfl
theorem and15 (x : Int) (h0 : 0 ≤ x) (h1 : x ≤ 255) : bits .and .u8 x 15 = x % 16 := by
  rw [u8_and x 15 h0 (by omega) (by omega) (by omega)]
  have : x.toNat &&& (15 : Int).toNat = x.toNat % 2 ^ 4 := Nat.and_two_pow_sub_one_eq_mod x.toNat 4
  rw [this]
  omega

theorem hexL_take (c : Ck) {k : Nat} (hk : k < 8) : hexL (c.l.take (k + 1)) = hexL (c.l.take k) ++ [digN (c.l.getD k 0 / 16), digN (c.l.getD k 0 % 16)] := by
  have hk' : k < c.l.length := hk
  rw [List.take_succ_eq_append_getElem hk']
  simp only [hexL, List.flatMap_append, List.getD, List.getElem?_eq_getElem hk', Option.getD_some]
  rfl
theorem hexL_length (zs : List Int) : (hexL zs).length = 2 * zs.length := by
  induction zs with
  | nil => rfl
  | cons z zs ih =>
    have : hexL (z :: zs) = [digN (z / 16), digN (z % 16)] ++ hexL zs := by simp [hexL]
    rw [this]
    simp [ih]; omega
theorem hexL_byte {zs : List Int} (h : ∀ z ∈ zs, isByte z) : ∀ y ∈ hexL zs, isByte y := by
  intro y hy
  simp only [hexL, List.mem_flatMap] at hy
  obtain ⟨z, hz, hy⟩ := hy
  have hb := h z hz
  unfold isByte at hb
  simp at hy
  rcases hy with rfl | rfl
  · exact digN_byte (by omega) (by omega)
  · exact digN_byte (by omega) (by omega)
theorem info_byte : (Tryd.prog.info? 5).map (fun i => (i.zero, i.size, i.bytes)) = some (some (.int .u8 0), 1, 1) := by kernel_rfl
theorem make_bytes (l c : Int) (h0 : 0 ≤ l) (h1 : l ≤ c) (hc : c ≤ 1000) (w : World) : (Instr.makeSlice 22 (.int .i64 l) (.int .i64 c)).run Tryd.prog w = .ok (.slice (some ⟨w.heap.size, 0, none⟩) l.toNat c.toNat) (w.alloc (.cells (madeCells #[.int .u8 0] c.toNat) 5)) := by
  obtain ⟨i0, hi0, hz0, hz1, hz2⟩ := info_parts info_byte
  have := run_make (P := Tryd.prog) w 22 5 i0 (.int .u8 0) (by kernel_rfl) hi0 hz0 .i64 .i64 l c h0 h1 (by rw [hz2]; omega) (by omega)
  rw [hz1, Nat.mul_one] at this
  exact this
theorem made_16 : madeCells #[.int .u8 0] 16 = #[.int .u8 0, .int .u8 0, .int .u8 0, .int .u8 0, .int .u8 0, .int .u8 0, .int .u8 0, .int .u8 0, .int .u8 0, .int .u8 0, .int .u8 0, .int .u8 0, .int .u8 0, .int .u8 0, .int .u8 0, .int .u8 0] := by kernel_rfl
theorem made_10 : madeCells #[.int .u8 0] 10 = #[.int .u8 0, .int .u8 0, .int .u8 0, .int .u8 0, .int .u8 0, .int .u8 0, .int .u8 0, .int .u8 0, .int .u8 0, .int .u8 0] := by kernel_rfl
theorem make_16 (w : World) : (Instr.makeSlice 22 (.int .i64 0) (.int .i64 16)).run Tryd.prog w = .ok (.slice (some ⟨w.heap.size, 0, none⟩) 0 16) (w.alloc (.cells #[.int .u8 0, .int .u8 0, .int .u8 0, .int .u8 0, .int .u8 0, .int .u8 0, .int .u8 0, .int .u8 0, .int .u8 0, .int .u8 0, .int .u8 0, .int .u8 0, .int .u8 0, .int .u8 0, .int .u8 0, .int .u8 0] 5)) := by
  rw [← made_16]; exact make_bytes 0 16 (by omega) (by omega) (by omega) w
theorem make_10 (w : World) : (Instr.makeSlice 22 (.int .i64 10) (.int .i64 10)).run Tryd.prog w = .ok (.slice (some ⟨w.heap.size, 0, none⟩) 10 10) (w.alloc (.cells #[.int .u8 0, .int .u8 0, .int .u8 0, .int .u8 0, .int .u8 0, .int .u8 0, .int .u8 0, .int .u8 0, .int .u8 0, .int .u8 0] 5)) := by
  rw [← made_10]; exact make_bytes 10 10 (by omega) (by omega) (by omega) w
theorem heap_alloc_at (w : World) (o : Obj) {g : Nat} (h : g = w.heap.size) : (w.alloc o).heap[g]? = some o := by rw [h]; exact heap_alloc_new w o
theorem Holds.grown {w v : World} {g : Nat} {t : TypeId} {cs : Array Value} {row : Option Nat} (h : Holds w g t cs) (hg : w.grownBy v row) (hne : some g ≠ row) : Holds v g t cs := by
  rw [Holds, hg.block g h.inside hne]; exact h

/-- what a round of Text keeps -/
def TextIn (w : World) (c : Ck) (k : Nat) (b : Value) (v : World) : Prop :=
  v.ownsRow (w.heap.size + 1) 5 1 b (2 * k) ((hexL (c.l.take k)).map (Value.int .u8)) ∧ Holds v w.heap.size 24 #[.int .u8 c.b0, .int .u8 c.b1, .int .u8 c.b2, .int .u8 c.b3, .int .u8 c.b4, .int .u8 c.b5, .int .u8 c.b6, .int .u8 c.b7] ∧ Below w.heap.size w v

end Go.Proofs.YtifhjmhekapaoaaDoor
