/- Sets in a slice; a set appended to a row of sets. -/
import Derived.Test.YtibhhhadjpmjiaaRankSets
import Derived.Deep.AppendLies
namespace Go.Proofs.Ytibhhhadjpmjiaa
set_option maxRecDepth 100000
open Go.RowKit
set_option linter.unusedVariables false

/-- sets in a slice -/
def SetsIn (w : World) (v : Value) (l : List Rs) : Prop := ∃ (A : Option Addr) (n c : Nat), v = .slice A n c ∧ l.length = n ∧ (0 < n → ∃ g o, A = some ⟨g, o, none⟩ ∧ SetsAt w g o l)
theorem SetsIn.keptB {w v : World} {x : Value} {l : List Rs} (h : SetsIn w x l) (hb : Below w.heap.size w v) : SetsIn v x l := by
  obtain ⟨A, n, c, h1, h2, h3⟩ := h
  refine ⟨A, n, c, h1, h2, fun hn => ?_⟩
  obtain ⟨g, o, ha, hs⟩ := h3 hn
  exact ⟨g, o, ha, hs.keptB hb⟩
theorem SetsIn.drew {w : World} {x : Value} {l : List Rs} (h : SetsIn w x l) : SetsIn w.drew x l := by
  obtain ⟨A, n, c, h1, h2, h3⟩ := h
  exact ⟨A, n, c, h1, h2, fun hn => by obtain ⟨g, o, ha, hs⟩ := h3 hn; exact ⟨g, o, ha, hs⟩⟩
theorem SetsIn.off {w : World} {A : Option Addr} {n c g : Nat} {l : List Rs} (h : SetsIn w (.slice A n c) l) (hg : w.heap.size ≤ g) : ∀ g' o, A = some ⟨g', o, none⟩ → 0 < n → g' ≠ g := by
  intro g' o ha hn
  obtain ⟨A2, n2, c2, h1, h2, h3⟩ := h
  cases h1
  obtain ⟨g3, o3, h4, h5⟩ := h3 hn
  rw [h4] at ha
  cases ha
  have h6 := SetsAt.inside h5 (k := 0) (s := l[0]'(by omega)) (List.getElem?_eq_getElem (by omega))
  omega
theorem SetsIn.touch {w v : World} {A : Option Addr} {n c g : Nat} {l : List Rs} (h : SetsIn w (.slice A n c) l) (ht : Touch g w v) (hg : ∀ g' o, A = some ⟨g', o, none⟩ → 0 < n → g' ≠ g) : SetsIn v (.slice A n c) l := by
  obtain ⟨A2, n2, c2, h1, h2, h3⟩ := h
  cases h1
  refine ⟨_, _, _, rfl, h2, fun hn => ?_⟩
  obtain ⟨g3, o3, h4, h5⟩ := h3 hn
  exact ⟨g3, o3, h4, h5.block_ (ht.block g3 (hg g3 o3 h4 hn))⟩
theorem SetsIn.keptO {w v : World} {A : Option Addr} {n c B : Nat} {l : List Rs} (h : SetsIn w (.slice A n c) l) (hb : Below B w v) (hg : ∀ g o, A = some ⟨g, o, none⟩ → 0 < n → g < B) : SetsIn v (.slice A n c) l := by
  obtain ⟨A2, n2, c2, h1, h2, h3⟩ := h
  cases h1
  refine ⟨_, _, _, rfl, h2, fun hn => ?_⟩
  obtain ⟨g, o, h4, h5⟩ := h3 hn
  exact ⟨g, o, h4, h5.block_ (hb.block g (hg g o h4 hn))⟩
theorem SetsIn.low {w : World} {A : Option Addr} {n c : Nat} {l : List Rs} (h : SetsIn w (.slice A n c) l) : ∀ g o, A = some ⟨g, o, none⟩ → 0 < n → g < w.heap.size := by
  intro g o ha hn
  obtain ⟨A2, n2, c2, h1, h2, h3⟩ := h
  cases h1
  obtain ⟨g', o', h4, h5⟩ := h3 hn
  rw [h4] at ha
  cases ha
  exact SetsAt.inside h5 (k := 0) (s := l[0]'(by omega)) (List.getElem?_eq_getElem (by omega))
theorem set_in {w : World} {g o n c k : Nat} {l : List Rs} {s : Rs} (h : SetsIn w (.slice (some ⟨g, o, none⟩) n c) l) (hk : l[k]? = some s) : w.rangeAt g (o + k * 32) (rsA s).toList := by
  obtain ⟨A, n2, c2, h1, h2, h3⟩ := h
  cases h1
  have hl : k < l.length := (List.getElem?_eq_some_iff.1 hk).1
  obtain ⟨g', o', h4, h5⟩ := h3 (by omega)
  cases h4
  exact h5 k s hk
/-- the cells of sets -/
def setsL8 (l : List Rs) : List Value := l.flatMap fun s => (rsA s).toList
theorem setsL8_length (l : List Rs) : (setsL8 l).length = l.length * 32 := by
  induction l with
  | nil => rfl
  | cons a l ih =>
    have h1 : (rsA a).toList.length = 32 := rfl
    simp only [setsL8, List.flatMap_cons, List.length_append, List.length_cons] at ih ⊢
    rw [h1, ih]
    omega
theorem setsL8_append (l : List Rs) (a : Rs) : setsL8 (l ++ [a]) = setsL8 l ++ setsL8 [a] := by
  unfold setsL8; rw [List.flatMap_append]
theorem one_cells8 (s : Rs) : ∀ u ∈ setsL8 [s], u.oneCell' = true := by
  have h : (setsL8 [s]).all (·.oneCell') = true := rfl
  exact fun u hu => List.all_eq_true.1 h u hu
theorem own_sets8 {w : World} {base n : Nat} {e : TypeId} {v : Value} {l : List Rs} (h : w.ownsRow base e 32 v n (setsL8 l)) : SetsIn w v l := by
  have hl : l.length = n := by have := h.1; rw [setsL8_length] at this; omega
  rcases h.2 with ⟨rfl, h0⟩ | ⟨g, cap, cur, rfl, _, hb, _, _, _, hcur⟩
  · exact ⟨none, 0, 0, rfl, by omega, fun hp => by omega⟩
  · refine ⟨some ⟨g, 0, none⟩, n, cap, rfl, hl, fun _ => ⟨g, 0, rfl, ?_⟩⟩
    intro k s hk
    have hkn : k < n := by
      rw [← hl]
      by_cases hk' : k < l.length
      · exact hk'
      · rw [List.getElem?_eq_none (by omega)] at hk; cases hk
    have hr := rows_at (f := fun s : Rs => (rsA s).toList) (c := 32) (fun _ => rfl) l k s hk
    have e1 : l.flatMap (fun s => (rsA s).toList) = cur.toList.take (n * 32) := hcur.symm
    rw [e1, List.drop_take, List.take_take, show min 32 (n * 32 - k * 32) = 32 by omega] at hr
    rw [Nat.zero_add]
    exact Holds.range (show Holds w g e cur from hb) (o := k * 32) hr
end Go.Proofs.Ytibhhhadjpmjiaa
