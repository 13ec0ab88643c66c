/- The walks over the reference's rows of digits: digit, trimmed, digits. -/
import Derived.Test.YtblbjljfcoeeeaaRefMath
import Derived.Test.YtblbjljfcoeeeaaWideAll
import Derived.Test.YtblbjljfcoeeeaaMem
import Derived.OwnWalk
namespace Go.Proofs.Ytblbjljfcoeeeaa
set_option maxRecDepth 100000
open Go.RowKit

/-- the slice value '.slice A n c' holds the digits ds -/
def Row (w : World) (A : Option Addr) (n c : Nat) (ds : List Int) : Prop :=
  ds.length = n ∧ n ≤ c ∧ (0 < n → ∃ g, A = some ⟨g, 0, none⟩ ∧ g < w.heap.size ∧ ∀ i, i < n → w.cell? ⟨g, i, none⟩ = some (.int .i64 (ds.getD i 0)))

theorem Row.empty (w : World) (A : Option Addr) (c : Nat) : Row w A 0 c [] := ⟨rfl, Nat.zero_le _, fun h => absurd h (by omega)⟩
theorem Row.below {w w' : World} {A : Option Addr} {n c : Nat} {ds : List Int} (h : Row w A n c ds) (hb : Below w.heap.size w w') : Row w' A n c ds := by
  obtain ⟨h1, h2, h3⟩ := h
  refine ⟨h1, h2, fun hn => ?_⟩
  obtain ⟨g, e, hg, hc⟩ := h3 hn
  exact ⟨g, e, by have := hb.size; omega, fun i hi => (hb.cell (p := ⟨g, i, none⟩) hg).trans (hc i hi)⟩
theorem Row.own {w : World} {base : Nat} {t : TypeId} {v : Value} {ds : List Int} (h : w.ownsRow base t 1 v ds.length (ds.map (Value.int .i64))) :
    ∃ A c, v = .slice A ds.length c ∧ Row w A ds.length c ds := by
  rcases h.2 with ⟨rfl, h0⟩ | ⟨g, cap, cur, rfl, _, hh, hn, _⟩
  · refine ⟨none, 0, by rw [h0], ⟨rfl, by omega, fun hp => by omega⟩⟩
  · refine ⟨some ⟨g, 0, none⟩, cap, rfl, ⟨rfl, hn, fun _ => ⟨g, rfl, ?_, fun i hi => ?_⟩⟩⟩
    · rcases Nat.lt_or_ge g w.heap.size with hlt | hge
      · exact hlt
      · rw [Array.getElem?_eq_none hge] at hh; cases hh
    · rw [h.cellAt i (by omega)]
      simp [List.getD, hi]

set_option maxHeartbeats 400000 in
theorem rdigit_any (A : Option Addr) (n c i : Nat) (ds : List Int) (w : World) (h : Row w A n c ds) (hn : n ≤ 1000) :
    Calls Try.prog 70 #[.slice A n c, .int .i64 i] w fun e w' => e = .returned (.int .i64 (ds.getD i 0)) ∧ w = w' := by
  obtain ⟨h1, h2, h3⟩ := h
  by_cases hi : i < n
  · obtain ⟨g, rfl, hg, hc⟩ := h3 (by omega)
    have c0 := hc i hi
    have H1 := Lib.hid h1
    clear hc h3 h1
    go_enter Try.func70, Try.ntmps70
    go_wp2
    go_ret
    exact ⟨rfl, rfl⟩
  · have H : Hid (ds.getD i 0 = 0) := by
      rw [Hid, List.getD, List.getElem?_eq_none (by omega)]; rfl
    clear h3 h1
    go_enter Try.func70, Try.ntmps70
    go_wp2
    go_ret
    exact ⟨ret_int H.out.symm, rfl⟩

theorem Row.cut {w : World} {A : Option Addr} {n c : Nat} {ds : List Int} (h : Row w A n c ds) {m : Nat} (hm : m ≤ n) : Row w A m c (ds.take m) := by
  obtain ⟨h1, h2, h3⟩ := h
  refine ⟨by rw [List.length_take]; omega, by omega, fun hp => ?_⟩
  obtain ⟨g, e, hg, hc⟩ := h3 (by omega)
  refine ⟨g, e, hg, fun i hi => (hc i (by omega)).trans ?_⟩
  simp [List.getD, hi]

theorem trim_take {ds : List Int} {k : Nat} (hk : k < ds.length) (h : ds.getD k 0 ≠ 0) : Trim (ds.take (k + 1)) := by
  intro hne
  have e : ds.take (k + 1) = ds.take k ++ [ds[k]] := List.take_succ_eq_append_getElem hk
  have : (ds.take (k + 1)).getLast hne = ds[k] := by
    have h2 : ∀ (l a : List Int) (x : Int) (hl : l ≠ []), l = a ++ [x] → l.getLast hl = x := by
      intro l a x hl el; subst el; simp
    exact h2 _ _ _ hne e
  rw [this]
  simpa [List.getD, hk] using h
theorem trim_nil : Trim [] := fun h => absurd rfl h

def lenOf : Value → Nat | .slice _ k _ => k | _ => 0

/-- what trimmed leaves -/
def Trimmed (w : World) (A : Option Addr) (c : Nat) (ds : List Int) (e : Ending) (w' : World) : Prop :=
  ∃ m, m ≤ ds.length ∧ e = .returned (.slice A m c) ∧ Row w A m c (ds.take m) ∧ Trim (ds.take m) ∧ val (ds.take m) = val ds ∧ w = w'

set_option maxHeartbeats 400000 in
theorem rtrim_any (A : Option Addr) (n c : Nat) (ds : List Int) (w : World) (h : Row w A n c ds) (hn : n ≤ 1000) :
    Calls Try.prog 59 #[.slice A n c] w (Trimmed w A c ds) := by
  have H := Lib.hid h
  obtain ⟨h1, h2, h3⟩ := h
  have H1 := Lib.hid h1
  have H3 := Lib.hid h3
  clear h1 h3
  go_enter Try.func59, Try.ntmps59
  go_wp2
  go_loop [0] (fun l => ∃ m, m ≤ n ∧ l = .slice A m c ∧ Hid (val (ds.take m) = val ds)) (fun l => lenOf l)
  case atStart => exact ⟨n, Nat.le_refl _, rfl, Lib.hid (by rw [← H1.out, List.take_length])⟩
  case round =>
    obtain ⟨m, hm, rfl, HV⟩ := hrel
    by_cases h0 : 0 < m
    · obtain ⟨k, rfl⟩ : ∃ k, m = k + 1 := ⟨m - 1, by omega⟩
      obtain ⟨g, rfl, hg, hc⟩ := H3.out (by omega)
      have c0 := hc k (by omega)
      clear hc
      obtain ⟨z, HZ⟩ : ∃ z, Hid (z = ds.getD k 0) := ⟨_, Lib.hid rfl⟩
      rw [← HZ.out] at c0
      by_cases hz : z = 0
      · subst hz
        go_wp2
        go_round
        case rel => exact ⟨k, by omega, rfl, Lib.hid (by
          have hl := H1.out
          rw [← HV.out, val_take_succ (by omega), ← HZ.out]; omega)⟩
        case measure => simp [lenOf]
      · have hz' : (z == 0) = false := by simp [hz]
        go_wp2
        go_ret
        have hl := H1.out
        exact ⟨k + 1, by omega, rfl, H.out.cut hm, trim_take (by omega) (by rw [← HZ.out]; exact hz), HV.out, rfl⟩
    · obtain rfl : m = 0 := by omega
      go_wp2
      go_ret
      exact ⟨0, by omega, rfl, H.out.cut hm, by rw [List.take_zero]; exact trim_nil, HV.out, rfl⟩

end Go.Proofs.Ytblbjljfcoeeeaa
