/- Plain words on sets of unlike grandmasters: the least one is best, in whatever order they were heard, and at which ports. No program is read here. -/
import Derived.Test.YtcmcgkcljefckaaBestMem
import Derived.Test.YtcmcgkcljefckaaRankGrandMath
namespace Go.Proofs.Ytcmcgkcljefckaa
set_option maxRecDepth 100000
open Go.RowKit
set_option linter.unusedVariables false

theorem range_sub {w : World} {g o d : Nat} {ls ks : List Value} (h : w.rangeAt g o ls) (hk : (ls.drop d).take ks.length = ks) : w.rangeAt g (o + d) ks := by
  intro j x hj
  have h1 : ls[d + j]? = some x := by
    rw [← hk, List.getElem?_take] at hj
    split at hj
    · rw [List.getElem?_drop] at hj; exact hj
    · cases hj
  have := h (d + j) x h1
  rwa [← Nat.add_assoc] at this
/-- sets, none ahead of each -/
def pairL (l : List Rs) : List Ch := l.flatMap fun s => [zeroCh, ⟨s, true⟩]
theorem pairL_len (l : List Rs) : (pairL l).length = 2 * l.length := by
  unfold pairL
  induction l with
  | nil => rfl
  | cons a l ih => rw [List.flatMap_cons, List.length_append, ih]; simp; omega
theorem pairL_step {l : List Rs} {j : Nat} {a : Rs} (h : l[j]? = some a) : pairL (l.take (j + 1)) = pairL (l.take j) ++ [zeroCh, ⟨a, true⟩] := by
  unfold pairL
  rw [List.take_add_one, h, List.flatMap_append]
  rfl
theorem pairL_at : ∀ (l : List Rs) (k : Nat), (pairL l)[2 * k]? = (l[k]?).map (fun _ => zeroCh) ∧ (pairL l)[2 * k + 1]? = (l[k]?).map (fun s => ⟨s, true⟩)
  | [], k => ⟨by simp [pairL], by simp [pairL]⟩
  | a :: l, 0 => ⟨rfl, rfl⟩
  | a :: l, k + 1 => by
    have h := pairL_at l k
    have e : pairL (a :: l) = zeroCh :: ⟨a, true⟩ :: pairL l := rfl
    rw [e, show 2 * (k + 1) = 2 * k + 1 + 1 by omega]
    simpa using h
theorem pairL_mem {l : List Rs} {c : Ch} (h : c ∈ pairL l) : c = zeroCh ∨ ∃ s ∈ l, c = ⟨s, true⟩ := by
  unfold pairL at h
  obtain ⟨s, hs, hc⟩ := List.mem_flatMap.1 h
  rcases List.mem_cons.1 hc with rfl | hc
  · exact .inl rfl
  · exact .inr ⟨s, hs, List.mem_singleton.1 hc⟩
theorem freeC_pair (l : List Rs) (a : Rs) : freeC (pairL l) ⟨a, true⟩ = freeB l a := by
  rw [Bool.eq_iff_iff, freeC_iff, freeB_iff]
  constructor
  · rintro ⟨_, h⟩ b hb
    exact h ⟨b, true⟩ (List.mem_flatMap.2 ⟨b, hb, by simp⟩) rfl
  · intro h
    refine ⟨rfl, fun b hb hi => ?_⟩
    rcases pairL_mem hb with rfl | ⟨s, hs, rfl⟩
    · cases hi
    · exact h s hs
theorem allN_pair {l : List Rs} {k : Nat} (h : firstN l = k) : allN (pairL l) = 2 * (k : Int) + 1 := by
  rcases firstN_spec l with ⟨h1, _⟩ | ⟨k', a, h1, h2, h3, h4⟩
  · omega
  · have hk : k' = k := by omega
    subst hk
    rcases allN_spec (pairL l) with ⟨_, g2⟩ | ⟨m, c, g1, g2, g3, g4⟩
    · have := g2 ⟨a, true⟩ (List.mem_flatMap.2 ⟨a, List.mem_of_getElem? h2, by simp⟩)
      rw [freeC_pair, h3] at this
      cases this
    · obtain ⟨q, hq⟩ : ∃ q, m = 2 * q ∨ m = 2 * q + 1 := ⟨m / 2, by omega⟩
      obtain ⟨p1, p2⟩ := pairL_at l q
      rcases hq with rfl | rfl
      · rw [p1] at g2
        obtain ⟨s, _, rfl⟩ := Option.map_eq_some_iff.1 g2
        exact absurd (freeC_iff.1 g3).1 (by decide)
      · rw [p2] at g2
        obtain ⟨s, hs, rfl⟩ := Option.map_eq_some_iff.1 g2
        rw [freeC_pair] at g3
        rcases Nat.lt_trichotomy q k' with hlt | heq | hgt
        · rw [h4 q s hlt hs] at g3; cases g3
        · rw [g1, heq]; omega
        · have := g4 (2 * k' + 1) ⟨a, true⟩ (by omega) (by rw [(pairL_at l k').2, h2]; rfl)
          rw [freeC_pair, h3] at this
          cases this
/-- what a port hears of unlike grandmasters -/
theorem keyL_recv (r : Pt) (s : Rs) : keyL (recv r s) = keyL s := rfl
theorem grandN_recv (r : Pt) (a b : Rs) : grandN (recv r a) b = grandN a b := by rw [grandN_key, grandN_key, keyL_recv]
theorem unlike_recv {l : List Rs} (h : unlikeL l) (r : Pt) : unlikeL (l.map (recv r)) := by
  intro p q a b hpq ha hb
  rw [List.getElem?_map] at ha hb
  obtain ⟨a', ha', rfl⟩ := Option.map_eq_some_iff.1 ha
  obtain ⟨b', hb', rfl⟩ := Option.map_eq_some_iff.1 hb
  exact h p q a' b' hpq ha' hb'
theorem lessB_recv {a b : Rs} (h : eqC a.gr b.gr = false) (r : Pt) : lessB (recv r a) (recv r b) = lessB a b := by
  rw [lessB_grand h, lessB_grand (show eqC (recv r a).gr (recv r b).gr = false from h), grandN_key, grandN_key, keyL_recv, keyL_recv]
theorem portN_of {l : List Rs} {r : Pt} {k : Nat} {s : Rs} (h : firstN (l.map (recv r)) = k) (hs : l[k]? = some s) : portN l r = ⟨recv r s, true⟩ := by
  unfold portN
  rw [hearL_map, allN_sets, h, if_neg (by omega), Int.toNat_natCast, List.getD_eq_getElem?_getD, List.map_map, List.getElem?_map, hs]
  rfl
theorem firstN_recv {l : List Rs} (hu : unlikeL l) (r : Pt) {k : Nat} (h : firstN l = k) : firstN (l.map (recv r)) = k := by
  have hfree : ∀ (p : Nat) (a : Rs), l[p]? = some a → freeB (l.map (recv r)) (recv r a) = freeB l a := by
    intro p a ha
    rw [Bool.eq_iff_iff, freeB_iff, freeB_iff]
    constructor
    · intro hh b hb
      obtain ⟨q, hq⟩ := List.mem_iff_getElem?.1 hb
      by_cases hpq : q = p
      · subst hpq
        rw [ha] at hq
        rw [← Option.some.inj hq]
        exact lessB_self a
      · have := hh (recv r b) (List.mem_map.2 ⟨b, hb, rfl⟩)
        rwa [lessB_recv (unlike_ne hu hpq hq ha)] at this
    · intro hh c hc
      obtain ⟨b, hb, rfl⟩ := List.mem_map.1 hc
      obtain ⟨q, hq⟩ := List.mem_iff_getElem?.1 hb
      by_cases hpq : q = p
      · subst hpq
        rw [ha] at hq
        rw [← Option.some.inj hq]
        exact lessB_self _
      · rw [lessB_recv (unlike_ne hu hpq hq ha)]
        exact hh b hb
  rcases firstN_spec l with ⟨h1, _⟩ | ⟨k', a, h1, h2, h3, h4⟩
  · omega
  · have hk : k' = k := by omega
    subst hk
    rcases firstN_spec (l.map (recv r)) with ⟨_, g2⟩ | ⟨m, c, g1, g2, g3, g4⟩
    · have := g2 (recv r a) (List.mem_map.2 ⟨a, List.mem_of_getElem? h2, rfl⟩)
      rw [hfree k' a h2, h3] at this
      cases this
    · rw [List.getElem?_map] at g2
      obtain ⟨s, hs, rfl⟩ := Option.map_eq_some_iff.1 g2
      rw [hfree m s hs] at g3
      rcases Nat.lt_trichotomy m k' with hlt | heq | hgt
      · rw [h4 m s hlt hs] at g3; cases g3
      · rw [g1, heq]
      · have := g4 k' (recv r a) hgt (by rw [List.getElem?_map, h2]; rfl)
        rw [hfree k' a h2, h3] at this
        cases this
/-- the whole -/
theorem order_best {l : List Rs} (h0 : l ≠ []) (hu : unlikeL l) (r : Pt) : ∃ (k : Nat) (s : Rs), l[k]? = some s ∧ portN l r = ⟨recv r s, true⟩ ∧ portN l.reverse r = ⟨recv r s, true⟩ ∧ allN (pairL l) = 2 * (k : Int) + 1 ∧ ∀ j b, j ≠ k → l[j]? = some b → grandN s b < 0 := by
  obtain ⟨k, s, hk, hs, hf, hmin, hr⟩ := grands_first h0 hu
  have hur : unlikeL l.reverse := by
    intro p q a b hpq ha hb
    have hp : p < l.length := by have := (List.getElem?_eq_some_iff.1 ha).1; simpa using this
    have hq : q < l.length := by omega
    rw [List.getElem?_reverse hp] at ha
    rw [List.getElem?_reverse hq] at hb
    exact unlike_ne hu (by omega) ha hb
  refine ⟨k, s, hs, portN_of (firstN_recv hu r hf) hs, ?_, allN_pair hf, hmin⟩
  refine portN_of (k := l.length - 1 - k) (firstN_recv hur r (by rw [hr]; omega)) ?_
  rw [List.getElem?_reverse (by omega), ← hs]
  congr 1
  omega

end Go.Proofs.Ytcmcgkcljefckaa
