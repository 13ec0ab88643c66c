/- Plain words on the text of a clock, and on reading it back; the order of texts. No program is read here. -/
import Derived.Test.YtifhjmhekapaoaaDoorIdentText
namespace Go.Proofs.YtifhjmhekapaoaaDoor
set_option maxRecDepth 100000
open Go.RowKit

/-- a letter's digit, or -1 -/
def ixN (z : Int) : Int := if 48 ≤ z ∧ z ≤ 57 then z - 48 else if 97 ≤ z ∧ z ≤ 102 then z - 87 else -1
theorem ix_dig {n : Int} (h0 : 0 ≤ n) (h1 : n ≤ 15) : ixN (digN n) = n := by
  unfold ixN digN
  split <;> split <;> (try split) <;> omega
theorem dig_ix {z : Int} (h : 0 ≤ ixN z) : digN (ixN z) = z := by
  by_cases h1 : 48 ≤ z ∧ z ≤ 57
  · have e : ixN z = z - 48 := by unfold ixN; rw [if_pos h1]
    rw [e]; unfold digN; rw [if_pos (by omega)]; omega
  · by_cases h2 : 97 ≤ z ∧ z ≤ 102
    · have e : ixN z = z - 87 := by unfold ixN; rw [if_neg h1, if_pos h2]
      rw [e]; unfold digN; rw [if_neg (by omega)]; omega
    · have e : ixN z = -1 := by unfold ixN; rw [if_neg h1, if_neg h2]
      omega
theorem ixN_bd (z : Int) : -1 ≤ ixN z ∧ ixN z ≤ 15 := by unfold ixN; split <;> (try split) <;> omega
/-- two letters' byte, or -1 -/
def prN (z0 z1 : Int) : Int := if ixN z0 < 0 ∨ ixN z1 < 0 then -1 else ixN z0 * 16 + ixN z1
theorem prN_bd (z0 z1 : Int) : -1 ≤ prN z0 z1 ∧ prN z0 z1 ≤ 255 := by
  have h0 := ixN_bd z0
  have h1 := ixN_bd z1
  unfold prN
  split <;> omega
theorem prN_iff {n z0 z1 : Int} (h0 : 0 ≤ n) (h1 : n ≤ 255) : prN z0 z1 = n ↔ digN (n / 16) = z0 ∧ digN (n % 16) = z1 := by
  constructor
  · intro h
    have b0 := ixN_bd z0
    have b1 := ixN_bd z1
    unfold prN at h
    split at h
    · omega
    · have e0 : n / 16 = ixN z0 := by omega
      have e1 : n % 16 = ixN z1 := by omega
      rw [e0, e1]
      exact ⟨dig_ix (by omega), dig_ix (by omega)⟩
  · rintro ⟨rfl, rfl⟩
    unfold prN
    rw [ix_dig (by omega) (by omega), ix_dig (by omega) (by omega), if_neg (by omega)]
    omega
theorem prN_dig {z0 z1 : Int} (h : 0 ≤ prN z0 z1) : digN (prN z0 z1 / 16) = z0 ∧ digN (prN z0 z1 % 16) = z1 := (prN_iff h (prN_bd z0 z1).2).1 rfl
/-- the k-th byte of a text -/
def pk (zs : List Int) (k : Nat) : Int := prN (zs.getD (2 * k) 0) (zs.getD (2 * k + 1) 0)
def pos0 (m : Int) : Int := if m < 0 then 0 else m
theorem pos0_byte (z0 z1 : Int) : isByte (pos0 (prN z0 z1)) := by
  have := prN_bd z0 z1
  unfold pos0 isByte
  split <;> omega
def part8 (p : Nat → Int) (k : Nat) : Ck := ⟨if 0 < k then p 0 else 0, if 1 < k then p 1 else 0, if 2 < k then p 2 else 0, if 3 < k then p 3 else 0, if 4 < k then p 4 else 0, if 5 < k then p 5 else 0, if 6 < k then p 6 else 0, if 7 < k then p 7 else 0⟩
def zeroC : Ck := ⟨0, 0, 0, 0, 0, 0, 0, 0⟩
def allC (zs : List Int) : Ck := part8 (fun i => pos0 (pk zs i)) 8
def goodK (zs : List Int) (k : Nat) : Bool := decide (0 ≤ pk zs k)
def rdB (zs : List Int) : Bool := (zs.length == 16) && (goodK zs 0 && goodK zs 1 && goodK zs 2 && goodK zs 3 && goodK zs 4 && goodK zs 5 && goodK zs 6 && goodK zs 7)
def rdC (zs : List Int) : Ck := if rdB zs then allC zs else zeroC
theorem rdB_iff {zs : List Int} : rdB zs = true ↔ zs.length = 16 ∧ ∀ k, k < 8 → 0 ≤ pk zs k := by
  unfold rdB goodK
  simp only [Bool.and_eq_true, beq_iff_eq, decide_eq_true_eq]
  constructor
  · rintro ⟨h, ⟨⟨⟨⟨⟨⟨⟨h0, h1⟩, h2⟩, h3⟩, h4⟩, h5⟩, h6⟩, h7⟩⟩
    refine ⟨h, fun k hk => ?_⟩
    match k, hk with
    | 0, _ => exact h0
    | 1, _ => exact h1
    | 2, _ => exact h2
    | 3, _ => exact h3
    | 4, _ => exact h4
    | 5, _ => exact h5
    | 6, _ => exact h6
    | 7, _ => exact h7
  · rintro ⟨h, H⟩
    exact ⟨h, ⟨⟨⟨⟨⟨⟨⟨H 0 (by omega), H 1 (by omega)⟩, H 2 (by omega)⟩, H 3 (by omega)⟩, H 4 (by omega)⟩, H 5 (by omega)⟩, H 6 (by omega)⟩, H 7 (by omega)⟩⟩
theorem allC_ok (zs : List Int) : (allC zs).ok := by
  intro z hz
  simp only [Ck.l, allC, part8, List.mem_cons, List.not_mem_nil, or_false] at hz
  simp at hz
  rcases hz with rfl | rfl | rfl | rfl | rfl | rfl | rfl | rfl <;> exact pos0_byte _ _
theorem zeroC_ok : zeroC.ok := by
  intro z hz
  simp [Ck.l, zeroC] at hz
  subst hz
  exact ⟨by omega, by omega⟩
theorem rdC_ok (zs : List Int) : (rdC zs).ok := by
  unfold rdC
  split
  · exact allC_ok zs
  · exact zeroC_ok
theorem getD_hex (c : Ck) {k : Nat} (hk : k < 8) : (hexL c.l).getD (2 * k) 0 = digN (c.l.getD k 0 / 16) ∧ (hexL c.l).getD (2 * k + 1) 0 = digN (c.l.getD k 0 % 16) := by
  match k, hk with
  | 0, _ => exact ⟨rfl, rfl⟩
  | 1, _ => exact ⟨rfl, rfl⟩
  | 2, _ => exact ⟨rfl, rfl⟩
  | 3, _ => exact ⟨rfl, rfl⟩
  | 4, _ => exact ⟨rfl, rfl⟩
  | 5, _ => exact ⟨rfl, rfl⟩
  | 6, _ => exact ⟨rfl, rfl⟩
  | 7, _ => exact ⟨rfl, rfl⟩
theorem allC_at (zs : List Int) {k : Nat} (hk : k < 8) : (allC zs).l.getD k 0 = pos0 (pk zs k) := by
  match k, hk with
  | 0, _ => rfl
  | 1, _ => rfl
  | 2, _ => rfl
  | 3, _ => rfl
  | 4, _ => rfl
  | 5, _ => rfl
  | 6, _ => rfl
  | 7, _ => rfl
/-- what is read is written again, just if it is a text -/
theorem hex_all {zs : List Int} (hl : zs.length = 16) : hexL (allC zs).l = zs ↔ rdB zs = true := by
  rw [rdB_iff]
  constructor
  · intro h
    refine ⟨hl, fun k hk => ?_⟩
    have hg := getD_hex (allC zs) hk
    have ha := allC_ok zs
    have hb : isByte ((allC zs).l.getD k 0) := by
      rcases (allC zs).at_ hk with h | h
      · exact h
      · exact absurd ha h
    rw [h] at hg
    unfold isByte at hb
    have := (prN_iff (n := (allC zs).l.getD k 0) hb.1 hb.2).2 ⟨hg.1.symm, hg.2.symm⟩
    unfold pk
    omega
  · rintro ⟨_, H⟩
    refine List.ext_getElem (by rw [hexL_length, Ck.len, hl]) (fun i h1 h2 => ?_)
    have hi : i < 16 := by omega
    have hk : i / 2 < 8 := by omega
    have hg := getD_hex (allC zs) hk
    rw [allC_at zs hk] at hg
    have hp := H _ hk
    have hpos : pos0 (pk zs (i / 2)) = pk zs (i / 2) := by unfold pos0; rw [if_neg (by omega)]
    rw [hpos] at hg
    have hd := prN_dig (show 0 ≤ prN (zs.getD (2 * (i / 2)) 0) (zs.getD (2 * (i / 2) + 1) 0) from hp)
    change digN (pk zs (i / 2) / 16) = _ ∧ digN (pk zs (i / 2) % 16) = _ at hd
    rw [hd.1, hd.2] at hg
    rcases (by omega : i = 2 * (i / 2) ∨ i = 2 * (i / 2) + 1) with e | e
    · have h3 := hg.1
      rw [← e] at h3
      simpa [List.getD, List.getElem?_eq_getElem h1, List.getElem?_eq_getElem h2] using h3
    · have h3 := hg.2
      rw [← e] at h3
      simpa [List.getD, List.getElem?_eq_getElem h1, List.getElem?_eq_getElem h2] using h3
/-- the text of a clock is read as that clock -/
theorem rd_hex {c : Ck} (h : c.ok) : rdB (hexL c.l) = true ∧ rdC (hexL c.l) = c := by
  have hpk : ∀ k, k < 8 → pk (hexL c.l) k = c.l.getD k 0 := by
    intro k hk
    have hg := getD_hex c hk
    have hb : isByte (c.l.getD k 0) := by
      rcases c.at_ hk with h' | h'
      · exact h'
      · exact absurd h h'
    unfold pk
    rw [hg.1, hg.2, prN_iff hb.1 hb.2]
    exact ⟨rfl, rfl⟩
  have hb : rdB (hexL c.l) = true := by
    rw [rdB_iff]
    refine ⟨by rw [hexL_length, Ck.len], fun k hk => ?_⟩
    rw [hpk k hk]
    rcases c.at_ hk with h' | h'
    · exact h'.1
    · exact absurd h h'
  refine ⟨hb, ?_⟩
  unfold rdC
  rw [if_pos hb]
  apply Ck.ext'
  refine List.ext_getElem rfl (fun i h1 h2 => ?_)
  have hi : i < 8 := h2
  have h3 := allC_at (hexL c.l) hi
  rw [hpk i hi] at h3
  have hp : pos0 (c.l.getD i 0) = c.l.getD i 0 := by
    unfold pos0
    rcases c.at_ hi with h' | h'
    · rw [if_neg (by have := h'.1; omega)]
    · exact absurd h h'
  rw [hp] at h3
  simpa [List.getD, List.getElem?_eq_getElem h1, List.getElem?_eq_getElem h2] using h3
/-- what was read is written as it stood -/
theorem hex_rd {zs : List Int} (h : rdB zs = true) : hexL (rdC zs).l = zs := by
  unfold rdC
  rw [if_pos h]
  exact (hex_all (rdB_iff.1 h).1).2 h

/-- a string's bytes -/
def strL (s : ByteArray) : List Int := s.data.toList.map fun b => (b.toNat : Int)
theorem strL_length (s : ByteArray) : (strL s).length = s.size := by simp [strL]
theorem strL_byte (s : ByteArray) : ∀ z ∈ strL s, isByte z := by
  intro z hz
  simp only [strL, List.mem_map] at hz
  obtain ⟨b, _, rfl⟩ := hz
  have := b.toNat_lt
  unfold isByte; omega
theorem str_strL (s : ByteArray) : strOfNums (strL s) = s := by
  apply ByteArray.ext
  apply Array.ext'
  rw [strOfNums_data, strL, List.map_map]
  conv => rhs; rw [← List.map_id s.data.toList]
  exact List.map_congr_left fun b _ => by simp
theorem strL_str {zs : List Int} (h : ∀ z ∈ zs, isByte z) : strL (strOfNums zs) = zs := by
  have := (str_eq (strL_byte (strOfNums zs)) h).1 (str_strL (strOfNums zs))
  exact this
theorem strL_at (s : ByteArray) (i : Nat) (h : i < s.size) : ((s[i]'h).toNat : Int) = (strL s).getD i 0 := by
  have h' : i < (strL s).length := by rw [strL_length]; exact h
  simp only [List.getD, List.getElem?_eq_getElem h', Option.getD_some]
  simp only [strL, List.getElem_map]
  rfl
theorem beq_str {xs ys : List Int} (hx : ∀ z ∈ xs, isByte z) (hy : ∀ z ∈ ys, isByte z) : ((strOfNums xs).toList == (strOfNums ys).toList) = (xs == ys) := by
  rw [str_toList, str_toList, Bool.eq_iff_iff]
  simp only [beq_iff_eq]
  constructor
  · intro h
    exact (str_eq hx hy).1 (ByteArray.ext (Array.ext' (by rw [strOfNums_data, strOfNums_data]; exact h)))
  · rintro rfl; rfl

/-- letters stand in the order of their bytes -/
theorem hex_less : ∀ xs ys : List Int, xs.length = ys.length → (∀ z ∈ xs, isByte z) → (∀ z ∈ ys, isByte z) → Op.bytesLess (u8s (hexL xs)) (u8s (hexL ys)) = decide (cmpL xs ys < 0)
  | [], [], _, _, _ => by simp [hexL, u8s, Op.bytesLess, cmpL]
  | [], y :: ys, h, _, _ => by simp at h
  | x :: xs, [], h, _, _ => by simp at h
  | x :: xs, y :: ys, h, hx, hy => by
    have ih := hex_less xs ys (by simpa using h) (fun z hz => hx z (by simp [hz])) (fun z hz => hy z (by simp [hz]))
    have bx := hx x (by simp)
    have by' := hy y (by simp)
    unfold isByte at bx by'
    have e : ∀ z zs, u8s (hexL (z :: zs)) = UInt8.ofNat (digN (z / 16)).toNat :: UInt8.ofNat (digN (z % 16)).toNat :: u8s (hexL zs) := by
      intro z zs; simp [hexL, u8s]
    have lt8 : ∀ m n : Int, 0 ≤ m → m ≤ 15 → 0 ≤ n → n ≤ 15 → (UInt8.ofNat (digN m).toNat < UInt8.ofNat (digN n).toNat ↔ m < n) := by
      intro m n h0 h1 h2 h3
      have em := u8_byte (digN_byte h0 h1)
      have en := u8_byte (digN_byte h2 h3)
      rw [UInt8.lt_iff_toNat_lt]
      constructor
      · intro hlt
        rcases Int.lt_or_le m n with h | h
        · exact h
        · have : digN n ≤ digN m := by
            rcases Int.lt_or_eq_of_le h with h | h
            · exact Int.le_of_lt (digN_mono h2 h h1)
            · rw [h]; omega
          omega
      · intro hlt
        have := digN_mono h0 hlt h3
        omega
    have eq8 : ∀ m n : Int, 0 ≤ m → m ≤ 15 → 0 ≤ n → n ≤ 15 → (UInt8.ofNat (digN m).toNat = UInt8.ofNat (digN n).toNat ↔ m = n) := by
      intro m n h0 h1 h2 h3
      constructor
      · intro he
        have l1 := lt8 m n h0 h1 h2 h3
        have l2 := lt8 n m h2 h3 h0 h1
        rw [he] at l1 l2
        have := (UInt8.lt_irrefl (UInt8.ofNat (digN n).toNat))
        have a1 : ¬ m < n := fun h => this (l1.2 h)
        have a2 : ¬ n < m := fun h => this (l2.2 h)
        omega
      · rintro rfl; rfl
    have L1 := lt8 (x / 16) (y / 16) (by omega) (by omega) (by omega) (by omega)
    have E1 := eq8 (x / 16) (y / 16) (by omega) (by omega) (by omega) (by omega)
    have L2 := lt8 (x % 16) (y % 16) (by omega) (by omega) (by omega) (by omega)
    have E2 := eq8 (x % 16) (y % 16) (by omega) (by omega) (by omega) (by omega)
    rw [e, e]
    simp only [Op.bytesLess, ih]
    rcases Int.lt_trichotomy x y with hlt | heq | hgt
    · have hc : cmpL (x :: xs) (y :: ys) = -1 := by rw [cmpL, if_pos hlt]
      rw [hc]
      rcases (by omega : x / 16 < y / 16 ∨ (x / 16 = y / 16 ∧ x % 16 < y % 16)) with h1 | ⟨h1, h2⟩
      · simp [L1.2 h1]
      · simp [E1.2 h1, L2.2 h2]
    · subst heq
      have hc : cmpL (x :: xs) (x :: ys) = cmpL xs ys := by rw [cmpL, if_neg (by omega), if_neg (by omega)]
      rw [hc]
      simp
    · have hc : cmpL (x :: xs) (y :: ys) = 1 := by rw [cmpL, if_neg (by omega), if_pos hgt]
      rw [hc]
      rcases (by omega : y / 16 < x / 16 ∨ (x / 16 = y / 16 ∧ y % 16 < x % 16)) with h1 | ⟨h1, h2⟩
      · have a1 : ¬ x / 16 < y / 16 := by omega
        have a2 : ¬ x / 16 = y / 16 := by omega
        rw [← L1] at a1
        rw [← E1] at a2
        simp [a1, a2]
      · have a1 : ¬ x % 16 < y % 16 := by omega
        have a2 : ¬ x % 16 = y % 16 := by omega
        rw [← L2] at a1
        rw [← E2] at a2
        simp [E1.2 h1, a1, a2]

end Go.Proofs.YtifhjmhekapaoaaDoor
