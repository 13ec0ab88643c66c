/- Rows of any structs, in slices, and behind owned rows. -/
import Derived.Test.YtpbfnmokhmioaaaDoorRowsOpen
import Derived.Test.YtpbfnmokhmioaaaDoorRankSets
import Derived.Test.YtpbfnmokhmioaaaDoorRowIn
import Derived.Maps.AppendAt
namespace Go.Proofs.YtpbfnmokhmioaaaDoor
set_option maxRecDepth 100000
open Go.RowKit
set_option linter.unusedVariables false
set_option linter.unusedSimpArgs false

/-- what a row's elements are -/
class RowOf (α : Type) where
  f : α → Array Value
  c : Nat
  len : ∀ s, (f s).toList.length = c
  pos : 0 < c
  one : ∀ s, (f s).toList.all (·.oneCell') = true
  e : TypeId
section
variable {α : Type} [R : RowOf α]
def rowsL (l : List α) : List Value := l.flatMap fun s => (R.f s).toList
theorem rowsL_len (l : List α) : (rowsL l).length = l.length * R.c := by
  induction l with
  | nil => simp [rowsL]
  | cons a l ih =>
    have h1 := R.len a
    simp only [rowsL, List.flatMap_cons, List.length_append, List.length_cons] at ih ⊢
    rw [h1, ih, Nat.add_mul]
    omega
theorem rowsL_append (l r : List α) : rowsL (l ++ r) = rowsL l ++ rowsL r := by unfold rowsL; rw [List.flatMap_append]
theorem rowsL_one (l : List α) : (rowsL l).all (·.oneCell') = true := by
  induction l with
  | nil => rfl
  | cons a l ih =>
    show (((R.f a).toList ++ rowsL l).all _) = true
    rw [List.all_append, R.one a, ih]
    rfl
theorem rowsL_single (a : α) : rowsL [a] = (R.f a).toList := by simp [rowsL]
/-- elements in a slice -/
def RowsIn (w : World) (v : Value) (l : List α) : Prop := ∃ (A : Option Addr) (n c : Nat), v = .slice A n c ∧ l.length = n ∧ (0 < n → ∃ g o, A = some ⟨g, o, none⟩ ∧ RowsAt R.f R.c w g o l ∧ ∃ cs, Holds w g R.e cs)
variable {w v : World} {l : List α} {A : Option Addr} {n c g o : Nat}
theorem RowsAt.block_ (h : RowsAt R.f R.c w g o l) (hv : v.heap[g]? = w.heap[g]?) : RowsAt R.f R.c v g o l := by
  intro k s hk j x hj
  rw [World.cell?_of_block (w := w) (a := ⟨g, o + k * R.c + j, none⟩) hv]
  exact h k s hk j x hj
theorem RowsAt.low (h : RowsAt R.f R.c w g o l) (hl : 0 < l.length) : g < w.heap.size := h.inside R.len R.pos (k := 0) (s := l[0]'hl) (List.getElem?_eq_getElem hl)
theorem RowsIn.len (h : RowsIn w (.slice A n c) l) : l.length = n := by
  obtain ⟨_, _, _, h1, h2, _⟩ := h
  cases h1
  exact h2
theorem RowsIn.lies (h : RowsIn w (.slice A n c) l) (hn : 0 < n) : ∃ g o, A = some ⟨g, o, none⟩ := by
  obtain ⟨_, _, _, h1, h2, h3⟩ := h
  cases h1
  obtain ⟨g, o, h4, _⟩ := h3 hn
  exact ⟨g, o, h4⟩
theorem RowsIn.at_ (h : RowsIn w (.slice (some ⟨g, o, none⟩) n c) l) {k : Nat} {s : α} (hk : l[k]? = some s) : w.rangeAt g (o + k * R.c) (R.f s).toList := by
  obtain ⟨A2, n2, c2, h1, h2, h3⟩ := h
  cases h1
  have hl : k < l.length := (List.getElem?_eq_some_iff.1 hk).1
  obtain ⟨g', o', h4, h5, _⟩ := h3 (by omega)
  cases h4
  exact h5 k s hk
theorem RowsIn.low (h : RowsIn w (.slice A n c) l) : ∀ g o, A = some ⟨g, o, none⟩ → 0 < n → g < w.heap.size := by
  intro g o ha hn
  obtain ⟨A2, n2, c2, h1, h2, h3⟩ := h
  cases h1
  obtain ⟨g', o', h4, h5, _⟩ := h3 hn
  rw [h4] at ha
  cases ha
  exact h5.low (by omega)
theorem RowsIn.keptB {x : Value} (h : RowsIn w x l) (hb : Below w.heap.size w v) : RowsIn v x l := by
  obtain ⟨A, n, c, rfl, h2, h3⟩ := h
  refine ⟨A, n, c, rfl, h2, fun hn => ?_⟩
  obtain ⟨g, o, ha, hs, cs, ht⟩ := h3 hn
  exact ⟨g, o, ha, hs.block_ (hb.block g (hs.low (by omega))), cs, ht.keptB hb⟩
theorem RowsIn.only {x : Value} {s : List Nat} (h : RowsIn w x l) (hb : Only s w.heap.size w v) (hs : ∀ A n c, x = .slice A n c → ∀ g o, A = some ⟨g, o, none⟩ → 0 < n → g ∉ s) : RowsIn v x l := by
  obtain ⟨A, n, c, rfl, h2, h3⟩ := h
  refine ⟨A, n, c, rfl, h2, fun hn => ?_⟩
  obtain ⟨g, o, ha, hr, cs, ht⟩ := h3 hn
  exact ⟨g, o, ha, hr.block_ (hb.block g (hr.low (by omega)) (hs A n c rfl g o ha hn)), cs, ht.only hb (hs A n c rfl g o ha hn)⟩
theorem RowsIn.drew {x : Value} (h : RowsIn w x l) : RowsIn w.drew x l := by
  obtain ⟨A, n, c, rfl, h2, h3⟩ := h
  refine ⟨A, n, c, rfl, h2, fun hn => ?_⟩
  obtain ⟨g, o, ha, hs, cs, ht⟩ := h3 hn
  exact ⟨g, o, ha, hs.block_ rfl, cs, ht.drew⟩
theorem RowsIn.off (h : RowsIn w (.slice A n c) l) (hg : w.heap.size ≤ g) : ∀ g' o, A = some ⟨g', o, none⟩ → 0 < n → g' ≠ g := by
  intro g' o ha hn
  have := h.low g' o ha hn
  omega
theorem RowsIn.touch (h : RowsIn w (.slice A n c) l) (ht : Touch g w v) (hg : ∀ g' o, A = some ⟨g', o, none⟩ → 0 < n → g' ≠ g) : RowsIn v (.slice A n c) l := by
  obtain ⟨A2, n2, c2, h1, h2, h3⟩ := h
  cases h1
  refine ⟨_, _, _, rfl, h2, fun hn => ?_⟩
  obtain ⟨g3, o3, h4, h5, cs, h6⟩ := h3 hn
  exact ⟨g3, o3, h4, h5.block_ (ht.block g3 (hg g3 o3 h4 hn)), cs, h6.touch ht (hg g3 o3 h4 hn)⟩
theorem RowsIn.grown {row : Option Nat} (h : RowsIn w (.slice A n c) l) (hg : w.grownBy v row) (hne : ∀ g o, A = some ⟨g, o, none⟩ → 0 < n → row ≠ some g) : RowsIn v (.slice A n c) l := by
  have hlow := h.low
  obtain ⟨A2, n2, c2, h1, h2, h3⟩ := h
  cases h1
  refine ⟨_, _, _, rfl, h2, fun hn => ?_⟩
  obtain ⟨g, o, h4, h5, cs, h6⟩ := h3 hn
  exact ⟨g, o, h4, h5.block_ (hg.block g (hlow g o h4 hn) (fun hc => hne g o h4 hn hc.symm)), cs, h6.grown hg (hne g o h4 hn)⟩
theorem RowsIn.nil (w : World) : RowsIn w (.slice none 0 0) ([] : List α) := ⟨none, 0, 0, rfl, rfl, fun h => absurd h (by omega)⟩
/-- a block of another type is none of a row's -/
theorem RowsIn.apart (h : RowsIn w (.slice A n c) l) {g : Nat} {t : TypeId} {cs : Array Value} (hh : Holds w g t cs) (ht : t ≠ R.e) : ∀ g' o, A = some ⟨g', o, none⟩ → 0 < n → g' ≠ g := by
  rintro g' o ha hn rfl
  obtain ⟨A2, n2, c2, h1, h2, h3⟩ := h
  cases h1
  obtain ⟨g3, o3, h4, _, cs3, h6⟩ := h3 hn
  rw [ha] at h4
  cases h4
  rw [Holds, h6] at hh
  cases hh
  exact ht rfl
/-- what a row that is owned holds, as a slice -/
theorem RowB.rows {base : Nat} {x : Value} (h : RowB w base R.e R.c n x (rowsL l)) : RowsIn w x l := by
  have hl : l.length = n := by
    have := h.row.1
    rw [rowsL_len] at this
    exact Nat.eq_of_mul_eq_mul_right R.pos this
  rcases h.row.2 with ⟨rfl, h0⟩ | ⟨g, cap, cur, rfl, _, hb, hcap, _, hsz, hcur⟩
  · exact ⟨none, 0, 0, rfl, by omega, fun hp => by omega⟩
  · refine ⟨some ⟨g, 0, none⟩, n, cap, rfl, hl, fun _ => ⟨g, 0, rfl, ?_, cur, hb⟩⟩
    intro k s hk
    have hkn : k < n := by
      rw [← hl]
      by_cases hk' : k < l.length
      · exact hk'
      · rw [List.getElem?_eq_none (by omega)] at hk; cases hk
    have hr := rows_at (f := fun s : α => (R.f s).toList) (c := R.c) R.len l k s hk
    have e1 : l.flatMap (fun s => (R.f s).toList) = cur.toList.take (n * R.c) := hcur.symm
    have hm : (k + 1) * R.c ≤ n * R.c := Nat.mul_le_mul_right _ hkn
    rw [Nat.add_mul, Nat.one_mul] at hm
    rw [e1, List.drop_take, List.take_take, show min R.c (n * R.c - k * R.c) = R.c by omega] at hr
    rw [Nat.zero_add]
    refine Holds.range (show Holds w g R.e cur from hb) (o := k * R.c) ?_
    rw [R.len]
    exact hr
theorem RowB.weaken {B base size : Nat} {e : TypeId} {x : Value} {xs : List Value} (h : RowB w B e size n x xs) (hb : base ≤ B) : RowB w base e size n x xs := by
  refine ⟨⟨h.row.1, h.row.2.imp id ?_⟩, Nat.le_trans hb h.low⟩
  rintro ⟨g', cap, cur, h1, h2, h3⟩
  exact ⟨g', cap, cur, h1, Nat.le_trans hb h2, h3⟩
end
theorem range_left {w : World} {g o : Nat} {a b : List Value} (h : w.rangeAt g o (a ++ b)) : w.rangeAt g o a := by
  intro j x hj
  exact h j x (by rw [List.getElem?_append_left (List.getElem?_eq_some_iff.1 hj).1]; exact hj)
theorem range_cell {w : World} {g o : Nat} {a : List Value} (h : w.rangeAt g o a) {j : Nat} {x : Value} (hj : a[j]? = some x) : w.cell? ⟨g, o + j, none⟩ = some x := h j x hj
theorem range_part {w : World} {g o : Nat} {a : List Value} (h : w.rangeAt g o a) {k : Nat} {b : List Value} (hb : (a.drop k).take b.length = b) : w.rangeAt g (o + k) b := by
  intro j x hj
  have hjl : j < b.length := (List.getElem?_eq_some_iff.1 hj).1
  have h1 : a[k + j]? = some x := by
    rw [← hb, List.getElem?_take, if_pos hjl, List.getElem?_drop] at hj
    exact hj
  have := h (k + j) x h1
  rw [Nat.add_assoc]
  exact this
section
variable {P : Program} {ops : Array Oper} {rest : List Oper} {op : Oper} {a : Act} {w : World} {Q : Exit → Act → World → Prop}
/-- nothing is appended -/
theorem run_append_none (w : World) (t ty e : TypeId) (i : TypeInfo) (ht : P.underlying t = some (.slice e)) (hi : P.info? e = some i) (g n cap c : Nat) (hn : n ≤ cap) : (Builtin.append_ #[t, t] ty #[.slice (some ⟨g, 0, none⟩) n cap, .slice none 0 c]).run P w = .ok (.slice (some ⟨g, 0, none⟩) n cap) w := by
  simp [Builtin.append_, run_underlying ht, sizeOf, typeInfo, hi, Builtin.lenOf, hn, Builtin.firstCells, storeCells, Result.andThen]
/-- an empty row that is made -/
theorem big_none (hw : Region.wanted op (yielded ops a.tmps) = true) (t e : TypeId) (ho : op.op = .buildSlice t 0 #[]) {ie : TypeInfo} (hu : P.underlying t = some (.slice e)) (hi : P.info? e = some ie) (size base : Nat) (hb : base ≤ w.heap.size)
    (h : ∀ g w', w.heap.size ≤ g → RowB w' base e size 0 (.slice (some ⟨g, 0, none⟩) 0 0) [] → Below w.heap.size w w' → wpList P ops Q rest (a.put op.dst (.slice (some ⟨g, 0, none⟩) 0 0)) w') : wpList P ops Q (op :: rest) a w :=
  BigFrame.wpList_want hw fun K hK => by
    have hr : (Instr.buildSlice t 0 #[]).run P w = .ok (.slice (some ⟨w.heap.size, 0, none⟩) 0 0) (w.alloc (.cells #[] e)) := by
      simp [Instr.buildSlice, run_underlying hu, sizeOf, typeInfo, hi, Instr.fill, newRow, Result.andThen]
      rw [show Array.range 0 = #[] by simp, Array.map_empty]
    refine wp_of_run (by simp [execOp, ho, hr, Result.andThen]; rfl) (hK _ _ (h w.heap.size _ (Nat.le_refl _) ?_ (bnew w _)))
    have hg : (w.alloc (.cells #[] e)).heap[w.heap.size]? = some (.cells #[] e (0, 0)) := Holds.fresh w e #[] rfl
    exact ⟨⟨by simp, .inr ⟨_, 0, #[], rfl, hb, hg, Nat.le_refl _, by unfold maxLen; omega, by simp, by simp⟩⟩, by simp; omega⟩
/-- what is in a slice behind an owned row -/
theorem big_appendIn {α : Type} [R : RowOf α] (hw : Region.wanted op (yielded ops a.tmps) = true) (s x : Operand) (t e : TypeId) (ho : op.op = .call { callee := .builtin .append, args := #[s, x], argTypes := #[t, t] })
    (z : Value) (bytes : Nat) (hu : P.underlying t = some (.slice e)) (hinfo : (P.info? e).map (fun i => (i.zero, i.size, i.bytes)) = some (some z, R.c, bytes)) (hzs : z.cells.size = R.c) (hby : bytes ≤ 1000)
    (base : Nat) {g0 n0 c0 : Nat} {l0 : List α} (hs : a.eval s = .slice (some ⟨g0, 0, none⟩) n0 c0) (hown : RowB w base e R.c n0 (.slice (some ⟨g0, 0, none⟩) n0 c0) (rowsL l0)) {A : Option Addr} {m c : Nat} {l : List α} (hx : a.eval x = .slice A m c) (hl : RowsIn w (.slice A m c) l) (h63 : n0 + m ≤ 1000000)
    (h : ∀ v' w', RowB w' base e R.c (n0 + m) v' (rowsL (l0 ++ l)) → w.grownBy w' (some g0) → wpList P ops Q rest (a.put op.dst v') w') : wpList P ops Q (op :: rest) a w := by
  obtain ⟨i0, hi0, hx0⟩ := Option.map_eq_some_iff.1 hinfo
  simp only [Prod.mk.injEq] at hx0
  obtain ⟨hz0, hz1, hz2⟩ := hx0
  have hlen := hl.len
  refine BigFrame.wpList_want hw fun K hK => ?_
  cases A with
  | none =>
    have hm : m = 0 := by
      rcases Nat.eq_zero_or_pos m with h0 | h0
      · exact h0
      · obtain ⟨_, _, h1⟩ := hl.lies h0; cases h1
    subst hm
    have hl0 : l = [] := List.eq_nil_of_length_eq_zero hlen
    subst hl0
    have hcap : n0 ≤ c0 := by
      rcases hown.row.2 with ⟨h1, _⟩ | ⟨g', cap, cur, h1, _, _, h2, _⟩
      · cases h1
      · cases h1; exact h2
    have hr := run_append_none (P := P) w t op.type e i0 hu hi0 g0 n0 c0 c hcap
    refine wp_of_run ?_ (hK _ _ (h (.slice (some ⟨g0, 0, none⟩) n0 c0) w (by rw [List.append_nil]; exact hown) ⟨rfl, rfl, rfl, Nat.le_refl _, fun _ _ _ => rfl⟩))
    simp [execOp, ho, resolve, invoke, builtin, hs, hx, hr, Result.andThen]
  | some ad =>
    have hnews : ∀ j u, (rowsL l)[j]? = some u → w.cell? (ad.add j) = some u := by
      intro j u hj
      have hjl : j < (rowsL l).length := (List.getElem?_eq_some_iff.1 hj).1
      rw [rowsL_len] at hjl
      have hlp : 0 < l.length := by
        rcases Nat.eq_zero_or_pos l.length with h0 | h0
        · rw [h0, Nat.zero_mul] at hjl; omega
        · exact h0
      obtain ⟨A2, n2, c2, h1, h2, h3⟩ := hl
      cases h1
      obtain ⟨g, o, h4, h5, _⟩ := h3 (by omega)
      cases h4
      have hc := R.pos
      have hk : j / R.c < l.length := by rw [Nat.div_lt_iff_lt_mul hc]; exact hjl
      have hr := rows_at (f := fun s : α => (R.f s).toList) (c := R.c) R.len l (j / R.c) l[j / R.c] (List.getElem?_eq_getElem hk)
      have e2 : (R.f l[j / R.c]).toList[j % R.c]? = some u := by
        rw [← hr, List.getElem?_take, if_pos (Nat.mod_lt _ hc), List.getElem?_drop, show j / R.c * R.c + j % R.c = j by rw [Nat.mul_comm]; exact Nat.div_add_mod j R.c]
        exact hj
      have e3 := h5 (j / R.c) l[j / R.c] (List.getElem?_eq_getElem hk) (j % R.c) u e2
      rw [Nat.add_assoc, show j / R.c * R.c + j % R.c = j by rw [Nat.mul_comm]; exact Nat.div_add_mod j R.c] at e3
      rw [Addr.add_mid]
      exact e3
    obtain ⟨v', w', hr, h2, h3, _, _⟩ := run_append_own_at (P := P) w base t op.type e i0 z R.c bytes hu hi0 hz0 hz1 hz2 hzs R.pos _ n0 _ hown.row ad m c (rowsL l) (by rw [rowsL_len, hlen]) hnews (fun u hu => List.all_eq_true.1 (rowsL_one l) u hu) (by unfold maxLen; omega) (Nat.le_trans (Nat.mul_le_mul h63 hby) (by decide)) hown.low
    refine wp_of_run ?_ (hK _ _ (h v' w' ⟨by rw [rowsL_append]; exact h2, Nat.le_trans hown.low h3.size⟩ h3))
    simp [execOp, ho, resolve, invoke, builtin, hs, hx, hr, Result.andThen]
end

end Go.Proofs.YtpbfnmokhmioaaaDoor
