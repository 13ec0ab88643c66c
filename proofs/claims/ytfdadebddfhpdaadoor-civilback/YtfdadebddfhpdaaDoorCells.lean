/- Words of this proof's own on rows of bytes in memory, and on strings made of them. -/
import Derived.Test.YtfdadebddfhpdaaDoorRows
import Derived.Test.YtfdadebddfhpdaaDoorBytes
import Derived.Laws.CopyOwn
import Derived.Laws.Concat
import Derived.Lib.ConvBytes
namespace Go.Proofs.YtfdadebddfhpdaaDoor
set_option maxRecDepth 100000
open Go.RowKit
set_option linter.unusedVariables false

/-- bytes as cells -/
def byteCells (zs : List Int) : Array Value := (zs.map (Value.int .u8)).toArray

theorem splice_all (L cs : List Value) (h : cs.length = L.length) : splice L 0 cs = cs := by
  simp [splice, h]

theorem cells_of {zs : List Int} {w : World} {g : Nat} {t : TypeId} (h : Holds w g t (byteCells zs)) {o : Nat} {ys : List Int} (hy : ∀ i, i < ys.length → zs[o + i]? = ys[i]?) :
    ∀ i, i < ys.length → w.cell? ((⟨g, o, none⟩ : Addr).add i) = some (.int .u8 (ys.getD i 0)) := by
  intro i hi
  rw [Addr.add_lit]
  refine h.reads ?_
  have := hy i hi
  simp [byteCells, this, List.getD, List.getElem?_eq_getElem hi]

theorem row_cells {w : World} {g : Nat} {t : TypeId} {zs : List Int} (h : Holds w g t (byteCells zs)) : ∀ i, i < zs.length → w.cell? ⟨g, i, none⟩ = some (.int .u8 (zs.getD i 0)) := by
  intro i hi
  have := cells_of h (o := 0) (ys := zs) (fun i _ => by rw [Nat.zero_add]) i hi
  rw [Addr.add_lit, Nat.zero_add] at this
  exact this

/-- cells that are read as bytes -/
def BytesAt (w : World) (a : Addr) (zs : List Int) : Prop := ∀ i, i < zs.length → w.cell? (a.add i) = some (.int .u8 (zs.getD i 0))

theorem add_add (a : Addr) (i j : Nat) : (a.add i).add j = a.add (i + j) := by
  unfold Addr.add
  by_cases hi : i = 0 <;> by_cases hj : j = 0 <;> simp [hi, hj, Nat.add_assoc]

theorem BytesAt.sub {w : World} {a : Addr} {zs ys : List Int} (h : BytesAt w a zs) (o : Nat) (hy : ∀ i, i < ys.length → zs[o + i]? = ys[i]?) : BytesAt w (a.add o) ys := by
  intro i hi
  have h1 := hy i hi
  rw [List.getElem?_eq_getElem hi] at h1
  have h2 := (List.getElem?_eq_some_iff.1 h1)
  rw [add_add, h (o + i) h2.1]
  simp only [List.getD, h1, List.getElem?_eq_getElem hi]

theorem BytesAt.keep {w v : World} {a : Addr} {zs : List Int} (h : BytesAt w a zs) {B : Nat} (hb : Below B w v) (ha : ∀ i, i < zs.length → a.block < B) : BytesAt v a zs := by
  intro i hi
  rw [hb.cell (by have := ha i hi; unfold Addr.add; split <;> exact this)]
  exact h i hi

theorem bcell {W w1 : World} (hb : Below W.heap.size W w1) : (∀ b o, b < W.heap.size → w1.cell? ⟨b, o, none⟩ = W.cell? ⟨b, o, none⟩) :=
  fun b o h => hb.cell (p := ⟨b, o, none⟩) h

theorem bdrew' (w : World) : Below w.heap.size w w.drew := bdrew (Below.refl _ w)

theorem bytes_below (w : World) (e : TypeId) (s : ByteArray) : Below w.heap.size w (Lib.bytesWorld w e s) :=
  ⟨rfl, rfl, rfl, by rw [Lib.bytesWorld_size]; omega, fun j hj => Lib.bytesWorld_at_old w e s j hj⟩

theorem bytes_new (w : World) (e : TypeId) (zs : List Int) (hz : ∀ z ∈ zs, isByte z) (i : Nat) (hi : i < zs.length) : (Lib.bytesWorld w e (strOfNums zs)).cell? ⟨w.heap.size, i, none⟩ = some (.int .u8 (zs.getD i 0)) := by
  rw [Lib.bytesWorld_cell w e _ i (by rw [strOfNums_size]; exact hi), strOfNums_data]
  have h := hz zs[i] (List.getElem_mem hi)
  unfold isByte at h
  have e1 : (UInt8.ofNat zs[i].toNat).toNat = zs[i].toNat := by
    rw [UInt8.toNat_ofNat']
    omega
  simp only [List.getD, List.getElem?_map, List.getElem?_eq_getElem hi, Option.map_some, Option.getD_some, e1]
  congr 2
  omega

/-- one byte as a string -/
theorem conv_one (w : World) (g : Nat) (z : Int) (h : w.cell? ⟨g, 0, none⟩ = some (.int .u8 z)) :
    (convert 59 9 (.slice (some ⟨g, 0, none⟩) 1 1)).run Tryd.prog w = .ok (.string (strOfNums [z])) w :=
  run_convert_bytes_arg w 59 5 Tryd.underlying59 Tryd.underlying5 g 0 1 1 [z] rfl (fun i hi => by
    obtain rfl : i = 0 := by omega
    exact h) 9 Tryd.underlying9

theorem conv_row (g cap : Nat) (zs : List Int) (w : World) (hl : zs.length = 10) (hc : ∀ i, i < zs.length → w.cell? ⟨g, i, none⟩ = some (.int .u8 (zs.getD i 0))) :
    (convert 59 9 (.slice (some ⟨g, 0, none⟩) 10 cap)).run Tryd.prog w = .ok (.string (strOfNums zs)) w :=
  run_convert_bytes_arg w 59 5 Tryd.underlying59 Tryd.underlying5 g 0 10 cap zs hl (fun i hi => by
    rw [Nat.zero_add]; exact hc i (by omega)) 9 Tryd.underlying9

theorem conv_nil (w : World) : (convert 59 9 (.slice none 0 0)).run Tryd.prog w = .ok (.string ByteArray.empty) w :=
  run_convert_bytes_nil w 59 5 Tryd.underlying59 Tryd.underlying5 0 0 9 Tryd.underlying9

theorem add_str (xs ys : List Int) (h : xs.length + ys.length ≤ 1000) (w : World) : (Op.stringOp .add (strOfNums xs) (strOfNums ys)).run Tryd.prog w = .ok (.string (strOfNums (xs ++ ys))) w := by
  rw [run_string_add_sum w _ _ (by rw [strOfNums_size, strOfNums_size]; omega), str_append]

end Go.Proofs.YtfdadebddfhpdaaDoor
