/- Choices that lie one behind the other in memory, and in slices. -/
import Derived.Test.YtpdnfeooijmgoaaBestMath
import Derived.Test.YtpdnfeooijmgoaaRowIn
namespace Go.Proofs.Ytpdnfeooijmgoaa
set_option maxRecDepth 100000
open Go.RowKit
set_option linter.unusedVariables false

/-- choices that lie one behind the other -/
def ChsAt (w : World) (g o : Nat) (l : List Ch) : Prop := ∀ k s, l[k]? = some s → w.rangeAt g (o + k * 33) (chA s).toList
theorem ChsAt.block_ {w v : World} {g o : Nat} {l : List Ch} (h : ChsAt w g o l) (hv : v.heap[g]? = w.heap[g]?) : ChsAt v g o l := by
  intro k s hk j x hj
  rw [World.cell?_of_block (w := w) (a := ⟨g, o + k * 33 + j, none⟩) hv]
  exact h k s hk j x hj
theorem ChsAt.inside {w : World} {g o : Nat} {l : List Ch} (h : ChsAt w g o l) {k : Nat} {s : Ch} (hk : l[k]? = some s) : g < w.heap.size := by
  have h0 := h k s hk 0 (.int .i64 s.s.p1) rfl
  by_cases hg : g < w.heap.size
  · exact hg
  · have hnone : w.heap[g]? = none := Array.getElem?_eq_none (by omega)
    simp [World.cell?, hnone] at h0
theorem ChsAt.keptB {w v : World} {g o : Nat} {l : List Ch} (h : ChsAt w g o l) (hb : Below w.heap.size w v) : ChsAt v g o l := by
  cases l with
  | nil => intro k s hk; simp at hk
  | cons a l => exact h.block_ (hb.block g (h.inside (k := 0) rfl))
theorem ChsAt.drew {w : World} {g o : Nat} {l : List Ch} (h : ChsAt w g o l) : ChsAt w.drew g o l := h.block_ rfl
/-- choices in a row of their own -/
def chsA (l : List Ch) : Array Value := (l.flatMap fun s => (chA s).toList).toArray
theorem chs_at {w : World} {g : Nat} {t : TypeId} {l : List Ch} (h : Holds w g t (chsA l)) : ChsAt w g 0 l := by
  intro k s hk
  rw [Nat.zero_add]
  exact h.range (rows_at (f := fun s => (chA s).toList) (c := 33) (fun _ => rfl) l k s hk)
/-- a slice of choices that can be read -/
structure ChsOk (w : World) (A : Option Addr) (L C : Nat) (l : List Ch) : Prop where
  len : l.length = L
  ok : ∀ s ∈ l, s.s.ok
  max : L ≤ maxLen
  at_ : 0 < L → ∃ g o, A = some ⟨g, o, none⟩ ∧ ChsAt w g o l

/-- choices in a slice -/
def ChsIn (w : World) (v : Value) (l : List Ch) : Prop := ∃ (A : Option Addr) (n c : Nat), v = .slice A n c ∧ l.length = n ∧ (0 < n → ∃ g o, A = some ⟨g, o, none⟩ ∧ ChsAt w g o l)
theorem ChsIn.keptB {w v : World} {x : Value} {l : List Ch} (h : ChsIn w x l) (hb : Below w.heap.size w v) : ChsIn v x l := by
  obtain ⟨A, n, c, h1, h2, h3⟩ := h
  refine ⟨A, n, c, h1, h2, fun hn => ?_⟩
  obtain ⟨g, o, ha, hs⟩ := h3 hn
  exact ⟨g, o, ha, hs.keptB hb⟩
/-- the cells of choices -/
def chsL (l : List Ch) : List Value := l.flatMap fun s => (chA s).toList
theorem chsL_length (l : List Ch) : (chsL l).length = l.length * 33 := by
  induction l with
  | nil => rfl
  | cons a l ih =>
    have h1 : (chA a).toList.length = 33 := rfl
    simp only [chsL, List.flatMap_cons, List.length_append, List.length_cons] at ih ⊢
    rw [h1, ih]
    omega
theorem chsL_append (l : List Ch) (a : Ch) : chsL (l ++ [a]) = chsL l ++ chsL [a] := by
  unfold chsL; rw [List.flatMap_append]
theorem one_cellsC (s : Ch) : ∀ u ∈ chsL [s], u.oneCell' = true := by
  have h : (chsL [s]).all (·.oneCell') = true := rfl
  exact fun u hu => List.all_eq_true.1 h u hu
theorem own_chs {w : World} {base n : Nat} {e : TypeId} {v : Value} {l : List Ch} (h : w.ownsRow base e 33 v n (chsL l)) : ChsIn w v l := by
  have hl : l.length = n := by have := h.1; rw [chsL_length] at this; omega
  rcases h.2 with ⟨rfl, h0⟩ | ⟨g, cap, cur, rfl, _, hb, _, _, _, hcur⟩
  · exact ⟨none, 0, 0, rfl, by omega, fun hp => by omega⟩
  · refine ⟨some ⟨g, 0, none⟩, n, cap, rfl, hl, fun _ => ⟨g, 0, rfl, ?_⟩⟩
    intro k s hk
    have hkn : k < n := by
      rw [← hl]
      by_cases hk' : k < l.length
      · exact hk'
      · rw [List.getElem?_eq_none (by omega)] at hk; cases hk
    have hr := rows_at (f := fun s : Ch => (chA s).toList) (c := 33) (fun _ => rfl) l k s hk
    have e1 : l.flatMap (fun s => (chA s).toList) = cur.toList.take (n * 33) := hcur.symm
    rw [e1, List.drop_take, List.take_take, show min 33 (n * 33 - k * 33) = 33 by omega] at hr
    rw [Nat.zero_add]
    exact Holds.range (show Holds w g e cur from hb) (o := k * 33) hr
theorem info_rch : (Try.prog.info? 45).map (fun i => (i.zero, i.size, i.bytes)) = some (some (.agg (chA zeroCh)), 33, 96) := by kernel_rfl
/-- a choice behind choices -/
theorem big_append_rch {w : World} {ops : Array Oper} {rest : List Oper} {op : Oper} {a : Act} {Q : Exit → Act → World → Prop} (hw : Region.wanted op (yielded ops a.tmps) = true) (s x : Operand)
    (ho : op.op = .call { callee := .builtin .append, args := #[s, x], argTypes := #[30, 30] }) (base : Nat) {v : Value} {n : Nat} {l : List Ch} (hs : a.eval s = v) (hown : w.ownsRow base 45 33 v n (chsL l))
    (g : Nat) (y : Ch) (hx : a.eval x = .slice (some ⟨g, 0, none⟩) 1 1) (hy : Holds w g 45 (chsA [y])) (h63 : n + 1 ≤ 1000) (hbase : base ≤ w.heap.size)
    (h : ∀ v' w', w'.ownsRow base 45 33 v' (n + 1) (chsL (l ++ [y])) → Below base w w' → wpList Try.prog ops Q rest (a.put op.dst v') w') :
    wpList Try.prog ops Q (op :: rest) a w := by
  obtain ⟨i0, hi0, hx0⟩ := Option.map_eq_some_iff.1 info_rch
  simp only [Prod.mk.injEq] at hx0
  obtain ⟨hz0, hz1, hz2⟩ := hx0
  refine BigFrame.wpList_want hw fun K hK => wp_append_lies w s x _ ho base 45 i0 _ 33 96 Try.underlying30 hi0 hz0 hz1 hz2 rfl (by omega) v n _ hs hown ⟨g, 0, none⟩ 1 1 (chsL [y]) hx rfl ?_ (one_cellsC y) (by omega) (by unfold maxLen; omega) (by omega) hbase _ rfl ?_
  · intro j u hu
    have := chs_at hy 0 y rfl j u (by simpa [chsL] using hu)
    simpa [Addr.add_mid] using this
  · intro g' cap w' hown' hgr hat hlt
    refine hK _ _ (h _ w' (by rw [chsL_append]; exact hown') ?_)
    refine (Below.refl base w).grown hgr hbase ?_
    intro k hk
    rcases hown.2 with ⟨h0, _⟩ | ⟨g2, cap', cur, hv, hbg, _⟩
    · rw [h0] at hk; simp [Value.ownBlock] at hk
    · rw [hv] at hk
      simp [Value.ownBlock] at hk
      omega

theorem info_pch : (Try.prog.info? 47).map (fun i => (i.zero, i.size, i.bytes)) = some (some (.agg (chA zeroCh)), 33, 96) := by kernel_rfl
/-- a choice behind choices -/
theorem big_append_pch {w : World} {ops : Array Oper} {rest : List Oper} {op : Oper} {a : Act} {Q : Exit → Act → World → Prop} (hw : Region.wanted op (yielded ops a.tmps) = true) (s x : Operand)
    (ho : op.op = .call { callee := .builtin .append, args := #[s, x], argTypes := #[34, 34] }) (base : Nat) {v : Value} {n : Nat} {l : List Ch} (hs : a.eval s = v) (hown : w.ownsRow base 47 33 v n (chsL l))
    (g : Nat) (y : Ch) (hx : a.eval x = .slice (some ⟨g, 0, none⟩) 1 1) (hy : Holds w g 47 (chsA [y])) (h63 : n + 1 ≤ 1000) (hbase : base ≤ w.heap.size)
    (h : ∀ v' w', w'.ownsRow base 47 33 v' (n + 1) (chsL (l ++ [y])) → Below base w w' → wpList Try.prog ops Q rest (a.put op.dst v') w') :
    wpList Try.prog ops Q (op :: rest) a w := by
  obtain ⟨i0, hi0, hx0⟩ := Option.map_eq_some_iff.1 info_pch
  simp only [Prod.mk.injEq] at hx0
  obtain ⟨hz0, hz1, hz2⟩ := hx0
  refine BigFrame.wpList_want hw fun K hK => wp_append_lies w s x _ ho base 47 i0 _ 33 96 Try.underlying34 hi0 hz0 hz1 hz2 rfl (by omega) v n _ hs hown ⟨g, 0, none⟩ 1 1 (chsL [y]) hx rfl ?_ (one_cellsC y) (by omega) (by unfold maxLen; omega) (by omega) hbase _ rfl ?_
  · intro j u hu
    have := chs_at hy 0 y rfl j u (by simpa [chsL] using hu)
    simpa [Addr.add_mid] using this
  · intro g' cap w' hown' hgr hat hlt
    refine hK _ _ (h _ w' (by rw [chsL_append]; exact hown') ?_)
    refine (Below.refl base w).grown hgr hbase ?_
    intro k hk
    rcases hown.2 with ⟨h0, _⟩ | ⟨g2, cap', cur, hv, hbg, _⟩
    · rw [h0] at hk; simp [Value.ownBlock] at hk
    · rw [hv] at hk
      simp [Value.ownBlock] at hk
      omega

theorem ChsAt.kept {w v : World} {g o B : Nat} {l : List Ch} (h : ChsAt w g o l) (hb : Below B w v) (hg : g < B) : ChsAt v g o l := h.block_ (hb.block g hg)
theorem ChsIn.drew {w : World} {x : Value} {l : List Ch} (h : ChsIn w x l) : ChsIn w.drew x l := by
  obtain ⟨A, n, c, h1, h2, h3⟩ := h
  exact ⟨A, n, c, h1, h2, fun hn => by obtain ⟨g, o, ha, hs⟩ := h3 hn; exact ⟨g, o, ha, hs⟩⟩
theorem ChsIn.off {w : World} {A : Option Addr} {n c g : Nat} {l : List Ch} (h : ChsIn w (.slice A n c) l) (hg : w.heap.size ≤ g) : ∀ g' o, A = some ⟨g', o, none⟩ → 0 < n → g' ≠ g := by
  intro g' o ha hn
  obtain ⟨A2, n2, c2, h1, h2, h3⟩ := h
  cases h1
  obtain ⟨g3, o3, h4, h5⟩ := h3 hn
  rw [h4] at ha
  cases ha
  have h6 := ChsAt.inside h5 (k := 0) (s := l[0]'(by omega)) (List.getElem?_eq_getElem (by omega))
  omega
theorem ChsIn.touch {w v : World} {A : Option Addr} {n c g : Nat} {l : List Ch} (h : ChsIn w (.slice A n c) l) (ht : Touch g w v) (hg : ∀ g' o, A = some ⟨g', o, none⟩ → 0 < n → g' ≠ g) : ChsIn v (.slice A n c) l := by
  obtain ⟨A2, n2, c2, h1, h2, h3⟩ := h
  cases h1
  refine ⟨_, _, _, rfl, h2, fun hn => ?_⟩
  obtain ⟨g3, o3, h4, h5⟩ := h3 hn
  exact ⟨g3, o3, h4, h5.block_ (ht.block g3 (hg g3 o3 h4 hn))⟩
theorem ChsIn.keptO {w v : World} {A : Option Addr} {n c B : Nat} {l : List Ch} (h : ChsIn w (.slice A n c) l) (hb : Below B w v) (hg : ∀ g o, A = some ⟨g, o, none⟩ → 0 < n → g < B) : ChsIn v (.slice A n c) l := by
  obtain ⟨A2, n2, c2, h1, h2, h3⟩ := h
  cases h1
  refine ⟨_, _, _, rfl, h2, fun hn => ?_⟩
  obtain ⟨g, o, h4, h5⟩ := h3 hn
  exact ⟨g, o, h4, h5.block_ (hb.block g (hg g o h4 hn))⟩
theorem ChsIn.low {w : World} {A : Option Addr} {n c : Nat} {l : List Ch} (h : ChsIn w (.slice A n c) l) : ∀ g o, A = some ⟨g, o, none⟩ → 0 < n → g < w.heap.size := by
  intro g o ha hn
  obtain ⟨A2, n2, c2, h1, h2, h3⟩ := h
  cases h1
  obtain ⟨g', o', h4, h5⟩ := h3 hn
  rw [h4] at ha
  cases ha
  exact ChsAt.inside h5 (k := 0) (s := l[0]'(by omega)) (List.getElem?_eq_getElem (by omega))
theorem ch_in {w : World} {g o n c k : Nat} {l : List Ch} {s : Ch} (h : ChsIn w (.slice (some ⟨g, o, none⟩) n c) l) (hk : l[k]? = some s) : w.rangeAt g (o + k * 33) (chA s).toList := by
  obtain ⟨A, n2, c2, h1, h2, h3⟩ := h
  cases h1
  have hl : k < l.length := (List.getElem?_eq_some_iff.1 hk).1
  obtain ⟨g', o', h4, h5⟩ := h3 (by omega)
  cases h4
  exact h5 k s hk
theorem ChsIn.grown {w w' : World} {A : Option Addr} {n c : Nat} {l : List Ch} {row : Option Nat} (h : ChsIn w (.slice A n c) l) (hg : w.grownBy w' row) (hne : ∀ g o, A = some ⟨g, o, none⟩ → 0 < n → row ≠ some g) : ChsIn w' (.slice A n c) l := by
  have hlow := h.low
  obtain ⟨A2, n2, c2, h1, h2, h3⟩ := h
  cases h1
  refine ⟨_, _, _, rfl, h2, fun hn => ?_⟩
  obtain ⟨g, o, h4, h5⟩ := h3 hn
  exact ⟨g, o, h4, h5.block_ (hg.block g (hlow g o h4 hn) (fun hc => hne g o h4 hn hc.symm))⟩
theorem chA_split (a : Ch) : (chA a).toList = (rsA a.s).toList ++ [.bool a.is] := rfl
theorem ch_set {w : World} {g o : Nat} {l : List Ch} {k : Nat} {a : Ch} (h : ChsAt w g o l) (hk : l[k]? = some a) : w.rangeAt g (o + k * 33) (rsA a.s).toList := by
  intro j x hj
  refine h k a hk j x ?_
  rw [chA_split, List.getElem?_append_left (List.getElem?_eq_some_iff.1 hj).1]
  exact hj
theorem ch_is {w : World} {g o : Nat} {l : List Ch} {k : Nat} {a : Ch} (h : ChsAt w g o l) (hk : l[k]? = some a) : w.cell? ⟨g, o + k * 33 + 32, none⟩ = some (.bool a.is) := h k a hk 32 (.bool a.is) rfl

end Go.Proofs.Ytpdnfeooijmgoaa
