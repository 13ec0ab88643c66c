/- best.heardBy, and the iterator that it hands back: walked within a fence. -/
import Derived.Test.YtpdnfeooijmgoaaBestSmall
import Derived.Test.YtpdnfeooijmgoaaFenceCells
import Derived.Test.YtpdnfeooijmgoaaBestYes
import Derived.Deep.DeepCutAuto
import Derived.Deep.LoopGhost
import Derived.WalkMore
namespace Go.Proofs.Ytpdnfeooijmgoaa
set_option maxRecDepth 100000
open Go.RowKit Go.Shelf
set_option linter.unusedVariables false
set_option linter.unusedSimpArgs false
attribute [local go_sem] Oper.semAt_some

/-- what the iterator reads: the slice in its box, the port in its box, the sets -/
structure HeardAt (w : World) (b2 b3 : Nat) (A : Option Addr) (n c : Nat) (l : List Rs) (r : Pt) : Prop where
  bs : Holds w b2 62 #[.slice A n c]
  bp : Holds w b3 27 (ptA r)
  ss : SetsIn w (.slice A n c) l
theorem HeardAt.keptB {w v : World} {b2 b3 n c : Nat} {A : Option Addr} {l : List Rs} {r : Pt} (h : HeardAt w b2 b3 A n c l r) (hb : Below w.heap.size w v) : HeardAt v b2 b3 A n c l r := ⟨h.bs.keptB hb, h.bp.keptB hb, h.ss.keptB hb⟩
theorem SetsIn.onlyB {s : List Nat} {B : Nat} {w v : World} {A : Option Addr} {n c : Nat} {l : List Rs} (h : SetsIn w (.slice A n c) l) (k : Only s B w v) (hg : ∀ g o, A = some ⟨g, o, none⟩ → 0 < n → g < B ∧ g ∉ s) : SetsIn v (.slice A n c) l := by
  obtain ⟨A2, n2, c2, h1, h2, h3⟩ := h
  cases h1
  refine ⟨_, _, _, rfl, h2, fun hn => ?_⟩
  obtain ⟨g, o, h4, h5⟩ := h3 hn
  obtain ⟨h6, h7⟩ := hg g o h4 hn
  exact ⟨g, o, h4, h5.block_ (k.block g h6 h7)⟩
/-- where that lies -/
structure HeardOff (s : List Nat) (B b2 b3 : Nat) (A : Option Addr) (n : Nat) : Prop where
  l2 : b2 < B ∧ b2 ∉ s
  l3 : b3 < B ∧ b3 ∉ s
  ls : ∀ g o, A = some ⟨g, o, none⟩ → 0 < n → g < B ∧ g ∉ s
theorem HeardAt.onlyB {s : List Nat} {B : Nat} {w v : World} {b2 b3 n c : Nat} {A : Option Addr} {l : List Rs} {r : Pt} (h : HeardAt w b2 b3 A n c l r) (k : Only s B w v) (o : HeardOff s B b2 b3 A n) : HeardAt v b2 b3 A n c l r :=
  ⟨h.bs.onlyB k o.l2.1 o.l2.2, h.bp.onlyB k o.l3.1 o.l3.2, h.ss.onlyB k o.ls⟩
end Go.Proofs.Ytpdnfeooijmgoaa
