/- append(b, make([]byte, n)...): zeros behind a row of bytes. -/
import Derived.Test.YtifhjmhekapaoaaDoorHeadDecode
import Derived.Test.YtifhjmhekapaoaaDoorFreeOrder
import Derived.Test.YtifhjmhekapaoaaDoorHeadBackMath
import Derived.Deep.AppendSrc
namespace Go.Proofs.YtifhjmhekapaoaaDoor
set_option maxRecDepth 100000
open Go.RowKit
set_option linter.unusedVariables false

theorem Lens.keptB {w v : World} (h : Lens w) (hb : Below w.heap.size w v) : Lens v := h.keep hb
theorem BytesAt.laid {w : World} {a : Addr} {zs : List Int} (h : BytesAt w a zs) (o : Obj) : BytesAt (w.alloc o) a zs := h.keptB (bnew w o)
/-- zeros are appended, and there is no room: a new row -/
theorem run_append_make {P : Program} (w : World) (t tx ty e : TypeId) (i : TypeInfo) (z : Value) (ht : P.underlying t = some (.slice e)) (hk : P.underlying tx = some (.int .i64)) (hi : P.info? e = some i) (hz : i.zero = some z) (h1 : i.size = 1) (hb1 : i.bytes = 1)
    (base : Option Addr) (sLen sCap : Nat) (olds : List Value) (hold : (Builtin.firstCells 1 sLen (.slice base sLen sCap)).run P w.drew = .ok olds.toArray w.drew)
    (n : Nat) (hn : 0 < n) (hg : sCap < sLen + n) (hsm : sLen + n ≤ 100000) (hfit : Builtin.nextslicecap (sLen + n) sCap ≤ 281474976710656) :
    (Builtin.append_ #[t, tx] ty #[.slice base sLen sCap, .int .i64 n]).run P w = .ok (.slice (some ⟨w.heap.size, 0, none⟩) (sLen + n) (grownCap w (sLen + n) sCap e))
        (w.drew.alloc (.cells ((olds.toArray ++ Builtin.zeroCells z.cells n) ++ Builtin.zeroCells z.cells (grownCap w (sLen + n) sCap e - (sLen + n))) e)) := by
  have hw : IntKind.i64.wrap (n : Int) = n := by rw [IntKind.wrap_i64]; omega
  have hn0 : ¬ ((n : Int) < 0) := by omega
  have hn1 : ¬ (281474976710656 < (n : Int)) := by omega
  have hn2 : ¬ (sLen + n ≤ sCap) := by omega
  have hn3 : ¬ (n = 0) := by omega
  have h63' : ¬ (9223372036854775807 < ((sLen : Int) + (n : Int))) := by omega
  have h48' : ¬ (281474976710656 < Builtin.nextslicecap (sLen + n) sCap) := by omega
  simp [Builtin.append_, run_underlying ht, run_underlying hk, sizeOf, typeInfo, zeroValue, hi, hz, h1, hb1, asInt, asIntOf, hw, hn0, hn1, hn2, hn3, h63', h48', Question.forced, hold, newRow, grownCap]

theorem zeroCells_rep (n : Nat) : Builtin.zeroCells #[.int .u8 0] n = byteCells (List.replicate n 0) := by
  unfold Builtin.zeroCells byteCells
  apply Array.ext'
  apply List.ext_getElem
  · simp
  · intro k h1 h2
    simp [Nat.mod_one]
theorem byteCells_append (xs ys : List Int) : byteCells xs ++ byteCells ys = byteCells (xs ++ ys) := by
  unfold byteCells; simp
theorem row_bytes {w : World} {g : Nat} {t : TypeId} {zs : List Int} (h : Holds w g t (byteCells zs)) : BytesAt w ⟨g, 0, none⟩ zs := by
  intro i hi
  rw [Addr.add_lit, Nat.zero_add]
  exact row_cells h i hi
theorem BytesAt.front {w : World} {a : Addr} {xs ys : List Int} (h : BytesAt w a (xs ++ ys)) : BytesAt w a xs := by
  intro i hi
  rw [h i (by rw [List.length_append]; omega)]
  simp only [List.getD, List.getElem?_append_left hi]
/-- zeros behind a row of bytes that is full -/
theorem append_zeros (w : World) (ty : TypeId) (g m : Nat) (zs : List Int) (hl : zs.length = m) (hm : m ≤ 1000) (hh : Holds w g 5 (byteCells zs)) (n : Nat) (hn : 0 < n) (hn2 : n ≤ 1000) :
    ∃ cap w', m + n ≤ cap ∧ cap ≤ maxLen ∧ (Builtin.append_ #[22, 3] ty #[.slice (some ⟨g, 0, none⟩) m m, .int .i64 n]).run Tryd.prog w = .ok (.slice (some ⟨w.heap.size, 0, none⟩) (m + n) cap) w' ∧
      Holds w' w.heap.size 5 (byteCells (zs ++ List.replicate (cap - m) 0)) ∧ Below w.heap.size w w' := by
  obtain ⟨i0, hi0, hz0, hz1, hz2⟩ := info_parts info_byte
  have hold : (Builtin.firstCells 1 m (.slice (some ⟨g, 0, none⟩) m m)).run Tryd.prog w.drew = .ok (zs.map (Value.int .u8)).toArray w.drew := by
    refine run_firstCells_some w.drew 1 m ⟨g, 0, none⟩ m m _ (by simp [hl]) ?_
    intro k u hu
    have hk : k < zs.length := by
      by_cases hk : k < zs.length
      · exact hk
      · rw [List.getElem?_eq_none (by simp; omega)] at hu; cases hu
    have := row_bytes (w := w.drew) hh.drew k hk
    rw [this]
    simp [List.getElem?_eq_getElem hk] at hu
    simp [List.getD, List.getElem?_eq_getElem hk, hu]
  have hge := grownCap_ge w (m + n) m 5
  have hle := grownCap_le_maxLen w (m + n) m 5 (by unfold maxLen; omega)
  have hfit : Builtin.nextslicecap (m + n) m ≤ 281474976710656 := by
    unfold Builtin.nextslicecap
    split
    · omega
    split
    · omega
    simp only [Builtin.growBy]
    repeat (first | omega | split)
  have hr := run_append_make (P := Tryd.prog) w 22 3 ty 5 i0 _ Tryd.underlying22 Tryd.underlying3 hi0 hz0 hz1 hz2 _ m m _ hold n hn (by omega) (by omega) hfit
  refine ⟨_, _, hge, hle, hr, ?_, ?_⟩
  · have e : ((zs.map (Value.int .u8)).toArray ++ Builtin.zeroCells #[.int .u8 0] n) ++ Builtin.zeroCells #[.int .u8 0] (grownCap w (m + n) m 5 - (m + n)) = byteCells (zs ++ List.replicate (grownCap w (m + n) m 5 - m) 0) := by
      rw [zeroCells_rep, zeroCells_rep]
      show (byteCells zs ++ _) ++ _ = _
      rw [byteCells_append, byteCells_append, List.append_assoc, List.replicate_append_replicate]
      congr 3
      omega
    show Holds (w.drew.alloc (.cells (((zs.map (Value.int .u8)).toArray ++ Builtin.zeroCells #[.int .u8 0] n) ++ Builtin.zeroCells #[.int .u8 0] (grownCap w (m + n) m 5 - (m + n))) 5)) w.heap.size 5 _
    rw [e]
    exact Holds.fresh w.drew 5 _ rfl
  · exact bstep (bdrew (Below.refl _ w)) (bnew w.drew _)
theorem wpList_append_zeros {w : World} {ops : Array Oper} {rest : List Oper} {o : Oper} {a : Act} {Q : Exit → Act → World → Prop} (hgd : o.guard = none) (s x : Operand)
    (ho : o.op = .call { callee := .builtin .append, args := #[s, x], argTypes := #[22, 3] }) (g m : Nat) (zs : List Int) (hl : zs.length = m) (hm : m ≤ 1000) (hh : Holds w g 5 (byteCells zs)) (n : Nat) (hn : 0 < n) (hn2 : n ≤ 1000)
    (hs : a.eval s = .slice (some ⟨g, 0, none⟩) m m) (hx : a.eval x = .int .i64 n)
    (h : ∀ cap w', m + n ≤ cap → cap ≤ maxLen → Holds w' w.heap.size 5 (byteCells (zs ++ List.replicate (cap - m) 0)) → Below w.heap.size w w' → wpList Tryd.prog ops Q rest (a.put o.dst (.slice (some ⟨w.heap.size, 0, none⟩) (m + n) cap)) w') :
    wpList Tryd.prog ops Q (o :: rest) a w := by
  obtain ⟨cap, w', h1, h2, h3, h4, h5⟩ := append_zeros w o.type g m zs hl hm hh n hn hn2
  refine wpList_plain hgd fun K hK => wp_of_run ?_ (hK _ _ (h cap w' h1 h2 h4 h5))
  unfold execOp
  simp only [ho, resolve, invoke, builtin, Sem.run_bind, Sem.run_pure, Result.andThen_ok, List.map_toArray, List.map_cons, List.map_nil, hs, hx, h3]
/-- a right head's bytes are bytes -/
theorem encL_byte {h : Hd} (hr : h.right = true) (hc : h.p.c.ok) : ∀ z ∈ encL h, isByte z := by
  obtain ⟨hln, ⟨d0, d1⟩, hfl, ⟨p0, p1⟩, ⟨s0, s1⟩, l0, l1⟩ := Hd.right_iff.1 hr
  have hfb := flagB_bd hfl
  have htb := (longN_ne hln).1
  have hp := ptL_byte h.p hc
  intro z hz
  unfold encL at hz
  simp only [List.mem_append] at hz
  rcases hz with (((((((hz | hz) | hz) | hz) | hz) | hz) | hz) | hz) | hz
  · simp at hz; unfold isByte; omega
  · exact beL_byte 2 _ z hz
  · simp at hz; unfold isByte; omega
  · exact beL_byte 2 _ z hz
  · exact beL_byte 8 _ z hz
  · simp at hz; unfold isByte; omega
  · exact hp z hz
  · exact beL_byte 2 _ z hz
  · simp at hz; unfold isByte; omega
theorem rep_byte (n : Nat) : ∀ z ∈ List.replicate n (0 : Int), isByte z := by
  intro z hz
  rw [List.mem_replicate] at hz
  rw [hz.2]; unfold isByte; omega
theorem app_byte {xs ys : List Int} (hx : ∀ z ∈ xs, isByte z) (hy : ∀ z ∈ ys, isByte z) : ∀ z ∈ xs ++ ys, isByte z := by
  intro z hz
  rcases List.mem_append.1 hz with h | h
  · exact hx z h
  · exact hy z h

end Go.Proofs.YtifhjmhekapaoaaDoor
