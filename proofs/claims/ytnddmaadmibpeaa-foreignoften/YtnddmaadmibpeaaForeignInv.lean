/- Plain words on what stays so while a table is called: for the laws of layer 8. No program is read here. -/
import Derived.Test.YtnddmaadmibpeaaOpOpen
namespace Go.Proofs.Ytnddmaadmibpeaa
set_option maxRecDepth 100000
open Go.RowKit
set_option linter.unusedVariables false
set_option linter.unusedSimpArgs false

theorem doE_ok {own : Ck} {win : Int} {L : List Fe} (h : TabOk L) (kd now : Int) {s : Rs} (hs : s.full) : TabOk (doE own win L kd now s).2 := by
  unfold doE
  split
  · exact hearE_ok h hs.ok hs.n0 hs.n1 now
  · split
    · exact h.del _
    · split
      · exact tab_nil
      · exact h
/-- who is in a table behind a call was in it, or is the one that was heard -/
theorem mem_roomE {L : List Fe} {p : Pt} {st : Int} {e : Fe} (h : e ∈ (roomE L p st).2) : e ∈ L := by
  unfold roomE at h
  split at h
  · exact h
  · split at h
    · exact h
    · split at h
      · exact h
      · exact (mem_delE.1 h).1
theorem mem_hearE {own : Ck} {win : Int} {L : List Fe} {s : Rs} {now : Int} {e : Fe} (h : e ∈ (hearE own win L s now).2) : e ∈ L ∨ (heedE own L s now = true ∧ e.s = s ∧ e.t0 = now) := by
  unfold hearE at h
  split at h
  · rename_i hh
    split at h
    · exact .inl (mem_roomE h)
    · rcases mem_putE.1 h with rfl | ⟨h1, _⟩
      · exact .inr ⟨hh, rfl, rfl⟩
      · exact .inl (mem_roomE h1)
  · exact .inl h
theorem mem_doE {own : Ck} {win : Int} {L : List Fe} {kd now : Int} {s : Rs} {e : Fe} (h : e ∈ (doE own win L kd now s).2) : e ∈ L ∨ (heedE own L s now = true ∧ e.s = s ∧ e.t0 = now) := by
  unfold doE at h
  split at h
  · exact mem_hearE h
  · split at h
    · exact .inl (mem_delE.1 h).1
    · split at h
      · cases h
      · exact .inl h
/-- nobody is their own master; nobody is too many steps away -/
def InvB (own : Ck) (L : List Fe) : Prop := ∀ e ∈ L, eqC e.s.sn.c own = false ∧ 0 ≤ e.s.st ∧ e.s.st < 255
theorem doE_inv {own : Ck} {win : Int} {L : List Fe} (h : InvB own L) (kd now : Int) (s : Rs) : InvB own (doE own win L kd now s).2 := by
  intro e he
  rcases mem_doE he with h1 | ⟨h1, h2, _⟩
  · exact h e h1
  · obtain ⟨_, _, h3, h4, h5⟩ := says_no (heed_yes h1).1
    rw [h2]
    exact ⟨h3, h4, h5⟩
theorem told_mem {L : List Fe} {win now : Int} {s : Rs} (h : s ∈ toldE L win now) : ∃ e ∈ L, e.s = s ∧ oftenE e (now - win) now = true := by
  unfold toldE at h
  split at h
  · cases h
  · unfold qualE at h
    obtain ⟨e, he, rfl⟩ := List.mem_map.1 h
    have := List.mem_filter.1 he
    exact ⟨e, this.1, rfl, this.2⟩
theorem told_len {L : List Fe} (h : TabOk L) (win now : Int) : (toldE L win now).length ≤ 5 := by
  unfold toldE
  split
  · simp
  · unfold qualE
    rw [List.length_map]
    exact Nat.le_trans (List.length_filter_le _ _) h.len
/-- all were heard up to then -/
def LastB (last : Int) (L : List Fe) : Prop := ∀ e ∈ L, e.t0 ≤ last
theorem doE_last {own : Ck} {win last : Int} {L : List Fe} (h : LastB last L) (kd now : Int) (s : Rs) {last2 : Int} (h1 : last ≤ last2) (h2 : now ≤ last2) : LastB last2 (doE own win L kd now s).2 := by
  intro e he
  rcases mem_doE he with h3 | ⟨_, _, h3⟩
  · have := h e h3; omega
  · omega
theorem told_none {last win : Int} {L : List Fe} (h : LastB last L) : toldE L win (last + win) = [] := by
  unfold toldE
  split
  · rfl
  · unfold qualE
    rw [List.map_eq_nil_iff, List.filter_eq_nil_iff]
    intro e he
    have h1 := h e he
    unfold oftenE inW
    rw [decide_eq_true (show e.t0 ≤ last + win - win by omega)]
    simp
/-- a table's word on a sender hangs on that sender's entry alone -/
theorem getE_same {L R : List Fe} {q : Pt} (hL : L.Pairwise fun a b => a.s.sn ≠ b.s.sn) (hR : R.Pairwise fun a b => a.s.sn ≠ b.s.sn) (h : ∀ e, e.s.sn = q → (e ∈ R ↔ e ∈ L)) : getE R q = getE L q := by
  cases hg : getE L q with
  | some e =>
    obtain ⟨he, rfl⟩ := getE_some hg
    exact getE_of hR ((h e rfl).2 he)
  | none =>
    cases hr : getE R q with
    | none => rfl
    | some e =>
      obtain ⟨he, rfl⟩ := getE_some hr
      exact absurd rfl (getE_none hg e ((h e rfl).1 he))
theorem room_apart {L : List Fe} {p q : Pt} {st : Int} (h3 : (roomE L p st).1 ≠ 3) (e : Fe) : e ∈ (roomE L p st).2 ↔ e ∈ L := by
  unfold roomE at h3 ⊢
  split
  · rfl
  · rename_i h1
    rw [if_neg h1] at h3
    split
    · rfl
    · rename_i h2
      rw [if_neg h2] at h3
      split
      · rfl
      · rename_i o ho
        rw [ho] at h3
        exact absurd rfl h3
theorem hear_apart {own : Ck} {win : Int} {L : List Fe} (hL : TabOk L) {s : Rs} (hs : s.full) {now : Int} {q : Pt} (hq : s.sn ≠ q) (h3 : (hearE own win L s now).1 ≠ 3) : getE (hearE own win L s now).2 q = getE L q := by
  refine getE_same hL.apart (hearE_ok hL hs.ok hs.n0 hs.n1 now).apart ?_
  intro e he
  unfold hearE at h3 ⊢
  split
  · rename_i hh
    rw [if_pos hh] at h3
    split
    · rename_i h4
      exact room_apart (q := q) (by rw [h4]; decide) e
    · rename_i h4
      rw [if_neg h4] at h3
      rw [mem_putE, room_apart (q := q) h3 e]
      have e1 : (heardE (atE (roomE L s.sn (now - win)).2 s.sn) s now).s.sn = s.sn := rfl
      rw [e1]
      constructor
      · rintro (rfl | ⟨h, _⟩)
        · exact absurd (e1.symm.trans he) hq
        · exact h
      · intro h
        exact .inr ⟨h, fun h2 => hq (h2.symm.trans he)⟩
  · rfl
theorem del_apart {L : List Fe} (hL : TabOk L) {p q : Pt} (hq : p ≠ q) : getE (delE L p) q = getE L q := by
  refine getE_same hL.apart (hL.del p).apart ?_
  intro e he
  rw [mem_delE]
  exact ⟨fun h => h.1, fun h => ⟨h, fun h2 => hq (h2.symm.trans he)⟩⟩
/-- what one sender says is not seen at another one's entry -/
theorem doE_apart {own : Ck} {win : Int} {L : List Fe} (hL : TabOk L) {kd now : Int} {s : Rs} (hs : s.full) {q : Pt} (hk : kd ≠ 2) (hq : s.sn ≠ q) (h3 : kd = 0 → (doE own win L kd now s).1 ≠ 3) : getE (doE own win L kd now s).2 q = getE L q := by
  unfold doE at h3 ⊢
  split
  · rename_i h0
    rw [if_pos h0] at h3
    exact hear_apart hL hs hq (h3 h0)
  · split
    · exact del_apart hL hq
    · rfl
theorem SetsIn.off {w : World} {A : Option Addr} {n c g : Nat} {l : List Rs} (h : SetsIn w (.slice A n c) l) (hg : w.heap.size ≤ g) : ∀ g' o, A = some ⟨g', o, none⟩ → 0 < n → g' ≠ g := by
  intro g' o ha hn
  obtain ⟨A2, n2, c2, h1, h2, h3⟩ := h
  cases h1
  obtain ⟨g3, o3, h4, h5⟩ := h3 hn
  rw [h4] at ha
  cases ha
  have h6 := SetsAt.inside h5 (k := 0) (s := l[0]'(by omega)) (List.getElem?_eq_getElem (by omega))
  omega
theorem SetsIn.touch {w v : World} {A : Option Addr} {n c g : Nat} {l : List Rs} (h : SetsIn w (.slice A n c) l) (ht : Touch g w v) (hg : ∀ g' o, A = some ⟨g', o, none⟩ → 0 < n → g' ≠ g) : SetsIn v (.slice A n c) l := by
  obtain ⟨A2, n2, c2, h1, h2, h3⟩ := h
  cases h1
  refine ⟨_, _, _, rfl, h2, fun hn => ?_⟩
  obtain ⟨g3, o3, h4, h5⟩ := h3 hn
  exact ⟨g3, o3, h4, h5.block_ (ht.block g3 (hg g3 o3 h4 hn))⟩

end Go.Proofs.Ytnddmaadmibpeaa
