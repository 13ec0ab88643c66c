/- Words of this proof's own on rows that a function appends to. No program is read here. -/
import Derived.Test.YtibhhhadjpmjiaaSetsIn
namespace Go.Proofs.Ytibhhhadjpmjiaa
set_option maxRecDepth 100000
open Go.RowKit
set_option linter.unusedVariables false

/-- a row that is owned from block B on, as a fact on a world -/
structure RowB (w : World) (B : Nat) (e : TypeId) (size n : Nat) (v : Value) (xs : List Value) : Prop where
  row : w.ownsRow B e size v n xs
  low : B ≤ w.heap.size
section
variable {w u : World} {B size n g : Nat} {e : TypeId} {v : Value} {xs : List Value}
theorem RowB.nil (h : B ≤ w.heap.size) : RowB w B e size 0 (.slice none 0 0) [] := ⟨⟨by simp, .inl ⟨rfl, rfl⟩⟩, h⟩
theorem RowB.keptB (h : RowB w B e size n v xs) (hb : Below w.heap.size w u) : RowB u B e size n v xs := ⟨own_below h.row hb, Nat.le_trans h.low hb.size⟩
theorem RowB.drew (h : RowB w B e size n v xs) : RowB w.drew B e size n v xs := ⟨h.row, h.low⟩
theorem RowB.blocks (h : RowB w B e size n v xs) : ∀ b, v.ownBlock = some b → B ≤ b ∧ b < w.heap.size := by
  intro b hb
  rcases h.row.2 with ⟨h0, _⟩ | ⟨g', cap, cur, h1, h2, h3, _⟩
  · rw [h0] at hb; cases hb
  · rw [h1] at hb
    have : g' = b := by simpa [Value.ownBlock] using hb
    subst this
    refine ⟨h2, ?_⟩
    rcases Nat.lt_or_ge g' w.heap.size with hlt | hge
    · exact hlt
    · rw [Array.getElem?_eq_none hge] at h3; cases h3
theorem RowB.off (h : RowB w B e size n v xs) (hg : w.heap.size ≤ g) : v.ownBlock ≠ some g := fun hb => by have := h.blocks g hb; omega
theorem RowB.touch (h : RowB w B e size n v xs) (ht : Touch g w u) (hg : v.ownBlock ≠ some g) : RowB u B e size n v xs := by
  refine ⟨⟨h.row.1, h.row.2.imp id ?_⟩, by rw [ht.size]; exact h.low⟩
  rintro ⟨g', cap, cur, h1, h2, h3, h4⟩
  refine ⟨g', cap, cur, h1, h2, ?_, h4⟩
  rw [ht.block g']
  · exact h3
  · rintro rfl
    rw [h1] at hg
    simp [Value.ownBlock] at hg
end
theorem RowB.ne {w : World} {B size n g : Nat} {e : TypeId} {v : Value} {xs : List Value} (h : RowB w B e size n v xs) (hg : g < B) : v.ownBlock ≠ some g := fun hb => by have := h.blocks g hb; omega
theorem RowB.hb {a w w' : World} {B C size n : Nat} {e : TypeId} {v : Value} {xs : List Value} (h : RowB w B e size n v xs) (hw : C ≤ B) (hb : Below C a w) (hg : w.grownBy w' v.ownBlock) : Below C a w' :=
  hb.grown hg (Nat.le_trans hw h.low) (fun k hk => Nat.le_trans hw (h.blocks k hk).1)
theorem RowB.grown {w w' : World} {B size n : Nat} {e : TypeId} {v : Value} {xs : List Value} {row : Option Nat} (h : RowB w B e size n v xs) (hg : w.grownBy w' row) (hne : ∀ b, v.ownBlock = some b → row ≠ some b) : RowB w' B e size n v xs :=
  ⟨h.row.kept hg (by
    cases hv : v.ownBlock with
    | none => exact .inl rfl
    | some b => exact .inr (fun hc => hne b hv hc.symm)), Nat.le_trans h.low hg.size⟩
theorem Holds.grown {w w' : World} {g : Nat} {t : TypeId} {cs : Array Value} {row : Option Nat} (h : Holds w g t cs) (hg : w.grownBy w' row) (hne : row ≠ some g) : Holds w' g t cs := by
  rw [Holds, hg.block g h.inside (fun hc => hne hc.symm)]
  exact h
theorem SetsIn.grown {w w' : World} {A : Option Addr} {n c : Nat} {l : List Rs} {row : Option Nat} (h : SetsIn w (.slice A n c) l) (hg : w.grownBy w' row) (hne : ∀ g o, A = some ⟨g, o, none⟩ → 0 < n → row ≠ some g) : SetsIn w' (.slice A n c) l := by
  have hlow := h.low
  obtain ⟨A2, n2, c2, h1, h2, h3⟩ := h
  cases h1
  refine ⟨_, _, _, rfl, h2, fun hn => ?_⟩
  obtain ⟨g, o, h4, h5⟩ := h3 hn
  exact ⟨g, o, h4, h5.block_ (hg.block g (hlow g o h4 hn) (fun hc => hne g o h4 hn hc.symm))⟩
section
variable {P : Program} {ops : Array Oper} {rest : List Oper} {op : Oper} {a : Act} {w : World} {Q : Exit → Act → World → Prop}
/-- cells behind an owned row: all other blocks stay -/
theorem big_append (hw : Region.wanted op (yielded ops a.tmps) = true) (s x : Operand) (t e : TypeId) (ho : op.op = .call { callee := .builtin .append, args := #[s, x], argTypes := #[t, t] })
    (z : Value) (size bytes : Nat) (hu : P.underlying t = some (.slice e)) (hinfo : (P.info? e).map (fun i => (i.zero, i.size, i.bytes)) = some (some z, size, bytes)) (hzs : z.cells.size = size) (hsz : 0 < size) (hby : bytes ≤ 1000)
    (base : Nat) {v : Value} {n : Nat} {xs : List Value} (hs : a.eval s = v) (hown : RowB w base e size n v xs) (g m : Nat) (news : List Value) (hx : a.eval x = .slice (some ⟨g, 0, none⟩) m m) (hl : news.length = m * size) (hnews : w.rangeAt g 0 news) (h1 : news.all (·.oneCell') = true) (hm : 0 < m) (h63 : n + m ≤ 1000000)
    (h : ∀ v' w', RowB w' base e size (n + m) v' (xs ++ news) → w.grownBy w' v.ownBlock → (∀ b, v'.ownBlock = some b → v.ownBlock = some b ∨ w.heap.size ≤ b) → wpList P ops Q rest (a.put op.dst v') w') : wpList P ops Q (op :: rest) a w := by
  obtain ⟨i0, hi0, hx0⟩ := Option.map_eq_some_iff.1 hinfo
  simp only [Prod.mk.injEq] at hx0
  obtain ⟨hz0, hz1, hz2⟩ := hx0
  refine BigFrame.wpList_want hw fun K hK => wp_append_lies w s x t ho base e i0 z size bytes hu hi0 hz0 hz1 hz2 hzs hsz v n xs hs hown.row ⟨g, 0, none⟩ m m news hx hl ?_ (fun u hu => List.all_eq_true.1 h1 u hu) hm (by unfold maxLen; omega) ?_ hown.low _ rfl ?_
  · intro j u hu
    have := hnews j u hu
    simpa [Addr.add_mid] using this
  · exact Nat.le_trans (Nat.mul_le_mul h63 hby) (by decide)
  · intro g' cap w' hown' hgr hat hlt
    refine hK _ _ (h _ w' ⟨hown', Nat.le_trans hown.low hgr.size⟩ hgr ?_)
    intro b hb
    have : g' = b := by simpa [Value.ownBlock] using hb
    subst this
    rcases hat with h2 | h2
    · exact .inl h2
    · exact .inr (by omega)
end
theorem SetsAt.kept {w v : World} {g o B : Nat} {l : List Rs} (h : SetsAt w g o l) (hb : Below B w v) (hg : g < B) : SetsAt v g o l := h.block_ (hb.block g hg)
theorem size_isB (w : World) : ∃ B, w.heap.size = B := ⟨_, rfl⟩

end Go.Proofs.Ytibhhhadjpmjiaa
