/- Words of the laws of layer 5: bytes as a string, cells of bytes. -/
import Derived.Test.YtfjbghenlchphaaDoorHeadAlive
import Derived.Test.YtfjbghenlchphaaDoorHeadRefEncode
namespace Go.Proofs.YtfjbghenlchphaaDoor
open Go.RowKit
set_option linter.unusedVariables false

theorem conv_at (w : World) (a : Addr) (len cap : Nat) (xs : List Int) (hlen : xs.length = len) (hc : BytesAt w a xs) :
    (convert 28 9 (.slice (some a) len cap)).run Tryd.prog w = .ok (.string (strOfNums xs)) w := by
  have hl : (loadCells a len).run Tryd.prog w = .ok (xs.map (Value.int .u8)).toArray w := by
    have := run_loadCells_list (P := Tryd.prog) w a (xs.map (Value.int .u8)) (fun j v hj => by
      have hjl : j < xs.length := by
        rcases Nat.lt_or_ge j xs.length with h | h
        · exact h
        · simp [List.getElem?_eq_none (show (xs.map (Value.int .u8)).length ≤ j by simpa using h)] at hj
      rw [hc j hjl]
      simp [List.getElem?_eq_getElem hjl] at hj
      subst hj
      simp [List.getD, List.getElem?_eq_getElem hjl])
    simpa [hlen] using this
  rw [run_convert_bytes_string w 28 9 5 _ len cap Tryd.underlying28 Tryd.underlying5 Tryd.underlying9, run_bytesToString w _ len cap xs hl, foldl_push_bytes]
  simp [strOfNums, ByteArray.empty, ByteArray.emptyWithCapacity]
  rfl
theorem conv_whole (w : World) (g cap : Nat) (xs : List Int) (hl : xs.length = 34) (h : Holds w g 5 (byteCells xs)) : (convert 28 9 (.slice (some ⟨g, 0, none⟩) 34 cap)).run Tryd.prog w = .ok (.string (strOfNums xs)) w :=
  conv_at w ⟨g, 0, none⟩ 34 cap xs hl (row_bytes h)
theorem bytes_of_cells {w : World} {g : Nat} {zs : List Int} (h : ∀ i, i < zs.length → w.cell? ⟨g, i, none⟩ = some (.int .u8 (zs.getD i 0))) : BytesAt w ⟨g, 0, none⟩ zs := by
  intro i hi
  rw [Addr.add_lit, Nat.zero_add]
  exact h i hi
theorem news_bytes {w : World} {a : Addr} {zs : List Int} (h : BytesAt w a zs) : ∀ j u, (zs.map (Value.int .u8))[j]? = some u → w.cell? (a.add j) = some u := by
  intro j u hj
  have hjl : j < zs.length := by
    rcases Nat.lt_or_ge j zs.length with h | h
    · exact h
    · simp [List.getElem?_eq_none (show (zs.map (Value.int .u8)).length ≤ j by simpa using h)] at hj
  rw [h j hjl]
  simp [List.getElem?_eq_getElem hjl] at hj
  subst hj
  simp [List.getD, List.getElem?_eq_getElem hjl]
/-- a row that is owned is read as its bytes -/
theorem owned_bytes {w : World} {base g n cap : Nat} {t : TypeId} {zs : List Int} (h : w.ownsRow base t 1 (.slice (some ⟨g, 0, none⟩) n cap) n (zs.map (Value.int .u8))) : BytesAt w ⟨g, 0, none⟩ zs := by
  intro i hi
  have hn := h.1
  simp at hn
  rw [Addr.add_lit, Nat.zero_add, h.cellAt i (by omega)]
  simp [List.getD, List.getElem?_eq_getElem hi]

end Go.Proofs.YtfjbghenlchphaaDoor
