/- Plain words on a table that five senders fill, each heard at each interval. No program is read here. -/
import Derived.Test.YtnddmaadmibpeaaForeignOneB
namespace Go.Proofs.Ytnddmaadmibpeaa
set_option maxRecDepth 100000
open Go.RowKit
set_option linter.unusedVariables false
set_option linter.unusedSimpArgs false

/-- the senders, and what each says -/
def portF (k : Int) : Pt := ⟨⟨200, k, 0, 0, 0, 0, 0, 0⟩, 1⟩
def setF (p : Pt) : Rs := ⟨0, 0, 0, 0, 0, ⟨0, 0, 0, 0, 0, 0, 0, 0⟩, 0, p, ⟨⟨0, 0, 0, 0, 0, 0, 0, 0⟩, 0⟩⟩
theorem portF_inj {i k : Nat} (h : portF i = portF k) : i = k := by
  unfold portF at h
  injection h with h1 _
  injection h1 with _ h2
  omega
theorem setF_full {p : Pt} (h : ptOk p) : (setF p).full := by
  refine ⟨⟨?_, h.1, ?_, by show (-9223372036854775808 : Int) ≤ 0; decide, by show (0 : Int) ≤ 9223372036854775807; decide⟩, h.2, h.3⟩
  · show Ck.ok ⟨0, 0, 0, 0, 0, 0, 0, 0⟩
    unfold Ck.ok Ck.l isByte; decide
  · show Ck.ok ⟨0, 0, 0, 0, 0, 0, 0, 0⟩
    unfold Ck.ok Ck.l isByte; decide
theorem portF_ok {k : Nat} (h : k < 5) : ptOk (portF k) := by
  refine ⟨?_, by show (-9223372036854775808 : Int) ≤ 1; decide, by show (1 : Int) ≤ 9223372036854775807; decide⟩
  have : k = 0 ∨ k = 1 ∨ k = 2 ∨ k = 3 ∨ k = 4 := by omega
  show Ck.ok ⟨200, (k : Int), 0, 0, 0, 0, 0, 0⟩
  rcases this with rfl | rfl | rfl | rfl | rfl <;> (unfold Ck.ok Ck.l isByte; decide)
theorem says_F {own : Ck} {p : Pt} {now : Int} (h0 : 0 ≤ now) (h1 : now ≤ 4611686018427387904) (hc : eqC p.c own = false) : saysB own (setF p) now = false :=
  says_yes h0 h1 hc (by show (0 : Int) ≤ 0; decide) (by show (0 : Int) < 255; decide)
/-- how the table stands in a round, where some of the five have been heard in it already -/
structure FullB (R : List Fe) (E : Int) (r k : Nat) : Prop where
  tab : TabOk R
  all : ∀ e ∈ R, ∃ i : Nat, i < 5 ∧ e.s = setF (portF i) ∧ (r = 0 → i < k) ∧ e.t0 + (if i < k then 0 else E) = (r : Int) * E
  has : ∀ i : Nat, i < 5 → (i < k ∨ 0 < r) → hasE R (portF i) = true
  len0 : r = 0 → R.length = k
  len1 : 0 < r → R.length = 5
theorem full_nil (E : Int) : FullB [] E 0 0 := ⟨tab_nil, (fun e he => by cases he), (fun i _ h => by omega), fun _ => rfl, fun h => by omega⟩
theorem FullB.wrap {R : List Fe} {E : Int} {r : Nat} (h : FullB R E r 5) : FullB R E (r + 1) 0 := by
  refine ⟨h.tab, ?_, fun i hi _ => h.has i hi (.inl hi), fun h0 => by omega, fun _ => ?_⟩
  · intro e he
    obtain ⟨i, hi, hs, _, ht⟩ := h.all e he
    refine ⟨i, hi, hs, fun h0 => by omega, ?_⟩
    rw [if_pos hi] at ht
    rw [if_neg (by omega)]
    push_cast
    rw [Int.add_mul, Int.one_mul]
    omega
  · by_cases h0 : r = 0
    · exact h.len0 h0
    · exact h.len1 (by omega)
theorem FullB.step {own : Ck} {win E now : Int} {R : List Fe} {r k : Nat} (h : FullB R E r k) (hk : k < 5) (hm : (r : Int) * E = now) (hE : 1 ≤ E) (hs : saysB own (setF (portF k)) now = false) :
    FullB (hearE own win R (setF (portF k)) now).2 E r (k + 1) := by
  have hsn : (setF (portF k)).sn = portF k := rfl
  have hat : hasE R (portF k) = true → (atE R (portF k)).t0 ≤ now := by
    intro hh
    obtain ⟨e, he, hp⟩ := hasE_iff.1 hh
    have hg := getE_of h.tab.apart he
    rw [hp] at hg
    unfold atE
    rw [hg]
    show e.t0 ≤ now
    obtain ⟨i, _, _, _, ht⟩ := h.all e he
    rw [hm] at ht
    split at ht <;> omega
  have hr0 : r = 0 → hasE R (portF k) = false := by
    intro h0
    cases hh : hasE R (portF k)
    · rfl
    · obtain ⟨e, he, hp⟩ := hasE_iff.1 hh
      obtain ⟨i, _, hs2, hi, _⟩ := h.all e he
      rw [hs2] at hp
      have := portF_inj (show portF i = portF k from hp)
      have := hi h0
      omega
  have hheed : heedE own R (setF (portF k)) now = true := by
    unfold heedE
    rw [hs, hsn]
    cases hh : hasE R (portF k)
    · rfl
    · rw [decide_eq_true (show now ≥ (atE R (portF k)).t0 from hat hh)]
      rfl
  have hroom : (roomE R (portF k) (now - win)).1 ≠ 4 ∧ (roomE R (portF k) (now - win)).2 = R := by
    unfold roomE
    cases hh : hasE R (portF k)
    · have h0 : r = 0 := by
        by_cases h0 : r = 0
        · exact h0
        · rw [h.has k hk (.inr (by omega))] at hh; cases hh
      have := h.len0 h0
      rw [if_neg (by decide), if_pos (by omega)]
      exact ⟨by show (2 : Int) ≠ 4; decide, rfl⟩
    · rw [if_pos rfl]
      exact ⟨by show (1 : Int) ≠ 4; decide, rfl⟩
  have hq : (hearE own win R (setF (portF k)) now).2 = putE R (heardE (atE R (portF k)) (setF (portF k)) now) := by
    unfold hearE
    rw [hheed, hsn, if_pos rfl, if_neg hroom.1, hroom.2]
  have hok := hearE_ok (own := own) (win := win) h.tab (setF_full (portF_ok hk)).ok (setF_full (portF_ok hk)).n0 (setF_full (portF_ok hk)).n1 now
  rw [hq] at hok ⊢
  have hkey : (heardE (atE R (portF k)) (setF (portF k)) now).s.sn = portF k := rfl
  refine ⟨hok, ?_, ?_, ?_, ?_⟩
  · intro e he
    rcases mem_putE.1 he with rfl | ⟨h1, h2⟩
    · refine ⟨k, hk, rfl, fun _ => by omega, ?_⟩
      rw [if_pos (by omega), hm]
      show now + 0 = now
      omega
    · obtain ⟨i, hi, hs2, h3, h4⟩ := h.all e h1
      have hik : i ≠ k := by
        rintro rfl
        apply h2
        rw [hs2, hkey]
        rfl
      refine ⟨i, hi, hs2, fun h0 => by have := h3 h0; omega, ?_⟩
      by_cases hlt : i < k
      · rw [if_pos hlt] at h4; rw [if_pos (by omega)]; exact h4
      · rw [if_neg hlt] at h4; rw [if_neg (by omega)]; exact h4
  · intro i hi hc
    by_cases hik : i = k
    · subst hik
      exact hasE_iff.2 ⟨_, mem_putE.2 (.inl rfl), hkey⟩
    · obtain ⟨e, he, hp⟩ := hasE_iff.1 (h.has i hi (by omega))
      refine hasE_iff.2 ⟨e, mem_putE.2 (.inr ⟨he, ?_⟩), hp⟩
      rw [hp, hkey]
      exact fun hc => hik (portF_inj hc)
  · intro h0
    unfold putE
    rw [insE_len, hkey, delE_no (hr0 h0), h.len0 h0]
  · intro h0
    unfold putE
    rw [insE_len, hkey, delE_yes h.tab.apart (h.has k hk (.inr h0))]
    exact h.len1 h0
theorem FullB.five {R : List Fe} {E : Int} {r : Nat} (h : FullB R E r 5) : R.length = 5 := by
  by_cases h0 : r = 0
  · exact h.len0 h0
  · exact h.len1 (by omega)
/-- all others are kept out -/
theorem FullB.out_ {own : Ck} {win E now : Int} {R : List Fe} {r : Nat} {q : Pt} (h : FullB R E r 5) (hm : (r : Int) * E = now) (hw : 0 ≤ win) (hs : saysB own (setF q) now = false) (hq : ∀ i : Nat, i < 5 → q ≠ portF i) :
    hearE own win R (setF q) now = (4, R) := by
  have hsn : (setF q).sn = q := rfl
  have hno : hasE R q = false := by
    cases hh : hasE R q
    · rfl
    · obtain ⟨e, he, hp⟩ := hasE_iff.1 hh
      obtain ⟨i, hi, hs2, _, _⟩ := h.all e he
      rw [hs2] at hp
      exact absurd hp.symm (hq i hi)
  have hold : oldE R (now - win) = none := by
    rw [oldE_none]
    intro e he
    obtain ⟨i, hi, _, _, ht⟩ := h.all e he
    rw [if_pos hi, hm] at ht
    omega
  have hroom : roomE R q (now - win) = (4, R) := by
    unfold roomE
    rw [hno, if_neg (by decide), if_neg (by have := h.five; omega), hold]
  have hheed : heedE own R (setF q) now = true := by
    unfold heedE
    rw [hs, hsn, hno]
    rfl
  unfold hearE
  rw [hheed, hsn, hroom]
  rfl

end Go.Proofs.Ytnddmaadmibpeaa
