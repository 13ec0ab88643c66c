/- Plain lists of digits to the base 32768, the lowest first, and their numbers. No program is read here. -/
import Derived.WalkKit
namespace Go.Proofs.Ytblbjljfcoeeeaa
set_option maxRecDepth 100000

def val : List Int → Int
  | [] => 0
  | d :: ds => d + 32768 * val ds
def Dig (ds : List Int) : Prop := ∀ d ∈ ds, 0 ≤ d ∧ d < 32768
/-- no digit 0 at the end -/
def Trim (ds : List Int) : Prop := ∀ h : ds ≠ [], ds.getLast h ≠ 0

theorem Dig.tail {d : Int} {ds : List Int} (h : Dig (d :: ds)) : Dig ds := fun x hx => h x (.tail _ hx)
theorem Dig.head {d : Int} {ds : List Int} (h : Dig (d :: ds)) : 0 ≤ d ∧ d < 32768 := h d (.head _)
theorem Dig.nil : Dig [] := fun _ h => by cases h
theorem Dig.append {a b : List Int} (h : Dig a) (h' : Dig b) : Dig (a ++ b) := fun x hx => by
  rcases List.mem_append.1 hx with h1 | h1
  · exact h x h1
  · exact h' x h1
theorem Dig.snoc {a : List Int} {d : Int} (h : Dig a) (h0 : 0 ≤ d) (h1 : d < 32768) : Dig (a ++ [d]) :=
  h.append fun x hx => by simp at hx; subst hx; exact ⟨h0, h1⟩
theorem Dig.take {a : List Int} (h : Dig a) (k : Nat) : Dig (a.take k) := fun x hx => h x (List.mem_of_mem_take hx)
theorem Dig.drop {a : List Int} (h : Dig a) (k : Nat) : Dig (a.drop k) := fun x hx => h x (List.mem_of_mem_drop hx)
theorem Dig.at {a : List Int} (h : Dig a) (k : Nat) : 0 ≤ a.getD k 0 ∧ a.getD k 0 < 32768 := by
  by_cases hk : k < a.length
  · have := h a[k] (List.getElem_mem hk)
    simpa [List.getD, hk] using this
  · simp [List.getD, List.getElem?_eq_none (Nat.le_of_not_lt hk)]

theorem val_append : ∀ (a b : List Int), val (a ++ b) = val a + 32768 ^ a.length * val b
  | [], b => by simp [val]
  | d :: a, b => by
    simp only [List.cons_append, val, val_append a b, List.length_cons, Int.pow_succ]
    grind
theorem val_snoc (a : List Int) (d : Int) : val (a ++ [d]) = val a + 32768 ^ a.length * d := by
  rw [val_append]; simp [val]
theorem base_pos (k : Nat) : (0 : Int) < 32768 ^ k := Int.pow_pos (by omega)
theorem val_bd : ∀ {ds : List Int}, Dig ds → 0 ≤ val ds ∧ val ds < 32768 ^ ds.length
  | [], _ => by simp [val]
  | d :: ds, h => by
    have := val_bd h.tail
    have := h.head
    simp only [val, List.length_cons, Int.pow_succ]
    omega
theorem val_zeros : ∀ (k : Nat), val (List.replicate k 0) = 0
  | 0 => rfl
  | k + 1 => by simp [List.replicate_succ, val, val_zeros k]
theorem Dig.zeros (k : Nat) : Dig (List.replicate k 0) := fun x hx => by
  have := List.eq_of_mem_replicate hx; omega
theorem val_take_succ {ds : List Int} {k : Nat} (h : k < ds.length) : val (ds.take (k + 1)) = val (ds.take k) + 32768 ^ k * ds.getD k 0 := by
  rw [List.take_succ_eq_append_getElem h, val_snoc, List.length_take, Nat.min_eq_left (Nat.le_of_lt h)]
  simp [List.getD, h]
theorem val_drop {ds : List Int} {k : Nat} (h : k < ds.length) : val (ds.drop k) = ds.getD k 0 + 32768 * val (ds.drop (k + 1)) := by
  rw [List.drop_eq_getElem_cons h]; simp [val, List.getD, h]
theorem val_split (ds : List Int) (k : Nat) (h : k ≤ ds.length) : val ds = val (ds.take k) + 32768 ^ k * val (ds.drop k) := by
  conv => lhs; rw [← List.take_append_drop k ds, val_append, List.length_take, Nat.min_eq_left h]

theorem trim_low {ds : List Int} (hd : Dig ds) (ht : Trim ds) {k : Nat} (hk : ds.length = k + 1) : 32768 ^ k ≤ val ds := by
  have hne : ds ≠ [] := by intro e; simp [e] at hk
  have h1 := ht hne
  have h2 := hd _ (List.getLast_mem hne)
  rw [← List.dropLast_concat_getLast hne, val_snoc, List.length_dropLast, hk, Nat.add_sub_cancel]
  have h3 := (val_bd (show Dig ds.dropLast from fun x hx => hd x (List.dropLast_subset ds hx))).1
  have h4 : (32768 : Int) ^ k * 1 ≤ 32768 ^ k * ds.getLast hne := Int.mul_le_mul_of_nonneg_left (by omega) (Int.le_of_lt (base_pos k))
  omega
theorem pow_le {m n : Nat} (h : m ≤ n) : (32768 : Int) ^ m ≤ 32768 ^ n := by
  obtain ⟨d, rfl⟩ := Nat.exists_eq_add_of_le h
  rw [Int.pow_add]
  have h1 := base_pos m
  have h2 := base_pos d
  have : (32768 : Int) ^ m * 1 ≤ 32768 ^ m * 32768 ^ d := Int.mul_le_mul_of_nonneg_left (by omega) (Int.le_of_lt h1)
  omega
theorem len_lt {a b : List Int} (ha : Dig a) (hb : Dig b) (hbt : Trim b) (h : a.length < b.length) : val a < val b := by
  obtain ⟨k, hk⟩ : ∃ k, b.length = k + 1 := ⟨b.length - 1, by omega⟩
  have h1 := trim_low hb hbt hk
  have h2 := (val_bd ha).2
  have h3 := pow_le (show a.length ≤ k by omega)
  omega
theorem len_bound {ds : List Int} (hd : Dig ds) (ht : Trim ds) {k : Nat} (h : val ds < 32768 ^ k) : ds.length ≤ k := by
  rcases Nat.lt_or_ge k ds.length with hlt | hge
  · obtain ⟨j, hj⟩ : ∃ j, ds.length = j + 1 := ⟨ds.length - 1, by omega⟩
    have h1 := trim_low hd ht hj
    have h2 := pow_le (show k ≤ j by omega)
    omega
  · exact hge
theorem high_lt {a b : List Int} (ha : Dig a) (hb : Dig b) (hl : a.length = b.length) {k : Nat} (hk : k < a.length)
    (hh : val (a.drop (k + 1)) = val (b.drop (k + 1))) (h : a.getD k 0 < b.getD k 0) : val a < val b := by
  rw [val_split a k (by omega), val_split b k (by omega), val_drop hk, val_drop (show k < b.length by omega), hh]
  have h1 := (val_bd (ha.take k)).2
  have h2 := (val_bd (hb.take k)).1
  rw [List.length_take, Nat.min_eq_left (by omega)] at h1
  have h3 : (32768 : Int) ^ k * (b.getD k 0 + 32768 * val (b.drop (k + 1)) - (a.getD k 0 + 32768 * val (b.drop (k + 1)))) ≥ 32768 ^ k * 1 := Int.mul_le_mul_of_nonneg_left (by omega) (Int.le_of_lt (base_pos k))
  rw [Int.mul_sub] at h3
  omega

end Go.Proofs.Ytblbjljfcoeeeaa
