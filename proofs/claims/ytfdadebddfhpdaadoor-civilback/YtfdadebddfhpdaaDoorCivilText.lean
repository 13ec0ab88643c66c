/- Plain words on the texts of labels; the walks over strconv.Itoa (the library's contract), civil's two and number, the reference's number. -/
import Derived.Test.YtfdadebddfhpdaaDoorCivilTab
import Derived.Test.YtfdadebddfhpdaaDoorCivilRef6
import Derived.Test.YtfdadebddfhpdaaDoorStrNum
import Derived.Test.YtfdadebddfhpdaaDoorItoaLay
import Derived.Lib.AppendIntMem
import Derived.Lib.SmallJoins
namespace Go.Proofs.YtfdadebddfhpdaaDoor
set_option maxRecDepth 100000
open Go.RowKit
set_option linter.unusedVariables false
set_option linter.unusedSimpArgs false

/-- both tables lie as the program lays them -/
structure Tabs (w : World) : Prop where
  mons : Mons w
  pow : Lib.TabIs Tryd.prog w "internal/strconv.uint64pow10" .u64 Lib.pow10Tab
theorem Tabs.keptB {w v : World} (h : Tabs w) (hb : Below w.heap.size w v) : Tabs v :=
  ⟨h.mons.keptB hb, Go.Joins.tab_stays (show Tryd.prog.globalNamed "internal/strconv.uint64pow10" = some 1 by kernel_rfl) h.pow hb (Nat.le_refl _)⟩

/-- the digits of a number -/
def dgL : Nat → Int → List Int
  | 0, _ => []
  | k + 1, n => dgL k (n / 10) ++ [48 + n % 10]
theorem dgL_length (k : Nat) (n : Int) : (dgL k n).length = k := by
  induction k generalizing n with
  | zero => rfl
  | succ k ih => simp [dgL, ih]
theorem dgL_byte (k : Nat) (n : Int) : ∀ z ∈ dgL k n, isByte z := by
  induction k generalizing n with
  | zero => intro z hz; simp [dgL] at hz
  | succ k ih =>
    intro z hz
    simp only [dgL, List.mem_append, List.mem_singleton] at hz
    rcases hz with hz | rfl
    · exact ih _ z hz
    · unfold isByte; omega
def textL (l : Lb) : List Int := dgL 4 l.y ++ [45] ++ dgL 2 l.m ++ [45] ++ dgL 2 l.d ++ [84] ++ dgL 2 l.hh ++ [58] ++ dgL 2 l.mi ++ [58] ++ dgL 2 l.se
theorem textL_length (l : Lb) : (textL l).length = 19 := rfl
theorem textL_byte (l : Lb) : ∀ z ∈ textL l, isByte z := by
  intro z hz
  simp only [textL, List.mem_append, List.mem_singleton] at hz
  rcases hz with (((((((((h | rfl) | h) | rfl) | h) | rfl) | h) | rfl) | h) | rfl) | h
  all_goals first | exact dgL_byte _ _ z h | (unfold isByte; omega)
/-- the text of a label, or none -/
def txL (l : Lb) : List Int := if lbB l then textL l else []
theorem txL_byte (l : Lb) : ∀ z ∈ txL l, isByte z := by
  unfold txL
  split
  · exact textL_byte l
  · intro z hz; simp at hz
/-- the number that digits are -/
def numN (zs : List Int) : Int := zs.foldl (fun n z => n * 10 + z - 48) 0
theorem numN_snoc (zs : List Int) (z : Int) : numN (zs ++ [z]) = numN zs * 10 + z - 48 := by simp [numN]
theorem numN_bd {zs : List Int} (h : ∀ z ∈ zs, isByte z) (hl : zs.length ≤ 4) : -100000 ≤ numN zs ∧ numN zs ≤ 300000 := by
  match zs, hl with
  | [], _ => exact ⟨by decide, by decide⟩
  | [a], _ =>
    have ha := h a (by simp)
    unfold isByte at ha
    show _ ≤ 0 * 10 + a - 48 ∧ 0 * 10 + a - 48 ≤ _
    omega
  | [a, b], _ =>
    have ha := h a (by simp)
    have hb := h b (by simp)
    unfold isByte at ha hb
    show _ ≤ (0 * 10 + a - 48) * 10 + b - 48 ∧ (0 * 10 + a - 48) * 10 + b - 48 ≤ _
    omega
  | [a, b, c], _ =>
    have ha := h a (by simp)
    have hb := h b (by simp)
    have hc := h c (by simp)
    unfold isByte at ha hb hc
    show _ ≤ ((0 * 10 + a - 48) * 10 + b - 48) * 10 + c - 48 ∧ ((0 * 10 + a - 48) * 10 + b - 48) * 10 + c - 48 ≤ _
    omega
  | [a, b, c, d], _ =>
    have ha := h a (by simp)
    have hb := h b (by simp)
    have hc := h c (by simp)
    have hd := h d (by simp)
    unfold isByte at ha hb hc hd
    show _ ≤ (((0 * 10 + a - 48) * 10 + b - 48) * 10 + c - 48) * 10 + d - 48 ∧ (((0 * 10 + a - 48) * 10 + b - 48) * 10 + c - 48) * 10 + d - 48 ≤ _
    omega
  | a :: b :: c :: d :: e :: r, hl => simp at hl
def digB (z : Int) : Bool := decide (48 ≤ z) && decide (z ≤ 57)
/-- the number that digits are, -1 where they are none -/
def numR (zs : List Int) : Int := if zs.all digB then numN zs else -1

/-- the library's digits -/
theorem dec_str (u : Nat) (h : u < 10000) : (u < 10 → strOfNums (dgL 1 u) = ⟨(Lib.decDigits u).toArray⟩) ∧ (10 ≤ u → u < 100 → strOfNums (dgL 2 u) = ⟨(Lib.decDigits u).toArray⟩) ∧ (1000 ≤ u → strOfNums (dgL 4 u) = ⟨(Lib.decDigits u).toArray⟩) := by
  have ex : ∀ (zs : List Int) (bs : List UInt8), zs.map (fun z => UInt8.ofNat z.toNat) = bs → strOfNums zs = ⟨bs.toArray⟩ := by
    intro zs bs hb
    apply ByteArray.ext
    apply Array.ext'
    rw [strOfNums_data, hb]
  refine ⟨fun h1 => ex _ _ ?_, fun h1 h2 => ex _ _ ?_, fun h1 => ex _ _ ?_⟩
  · rw [Lib.decDigits_one h1]
    show [UInt8.ofNat (48 + (u : Int) % 10).toNat] = _
    rw [show (48 + (u : Int) % 10).toNat = 48 + u by omega]
  · rw [Lib.decDigits_two (by omega) h2]
    show [UInt8.ofNat (48 + (u : Int) / 10 % 10).toNat, UInt8.ofNat (48 + (u : Int) % 10).toNat] = _
    rw [show (48 + (u : Int) / 10 % 10).toNat = 48 + u / 10 by omega, show (48 + (u : Int) % 10).toNat = 48 + u % 10 by omega]
  · rw [Lib.decDigits, dif_neg (by omega), Lib.decDigits, dif_neg (by omega), Lib.decDigits_two (by omega) (by omega)]
    show [UInt8.ofNat (48 + (u : Int) / 10 / 10 / 10 % 10).toNat, UInt8.ofNat (48 + (u : Int) / 10 / 10 % 10).toNat, UInt8.ofNat (48 + (u : Int) / 10 % 10).toNat, UInt8.ofNat (48 + (u : Int) % 10).toNat] = _
    rw [show (48 + (u : Int) / 10 / 10 / 10 % 10).toNat = 48 + u / 10 / 10 / 10 by omega, show (48 + (u : Int) / 10 / 10 % 10).toNat = 48 + u / 10 / 10 % 10 by omega, show (48 + (u : Int) / 10 % 10).toNat = 48 + u / 10 % 10 by omega, show (48 + (u : Int) % 10).toNat = 48 + u % 10 by omega]
    rfl

theorem pitoa15_year (n : Int) (w : World) (hT : Tabs w) (h0 : 1000 ≤ n) (h1 : n ≤ 9999) :
    Calls Tryd.prog 39 #[.int .i64 n] w fun e w' => e = .returned (.string (strOfNums (dgL 4 n))) ∧ Below w.heap.size w w' := by
  obtain ⟨u, rfl⟩ := Int.eq_ofNat_of_zero_le (show 0 ≤ n by omega)
  refine (Any.strconv_Itoa itoaLays u (by omega) (by omega) w hT.pow).mono ?_
  rintro e w' ⟨rfl, k, os, rfl⟩
  refine ⟨?_, Lib.below_grow _ w (Nat.le_refl _) k os⟩
  rw [(dec_str u (by omega)).2.2 (by omega), Lib.itoa_nonneg]
theorem pitoa15_one (n : Int) (w : World) (h0 : 0 ≤ n) (h1 : n < 10) :
    Calls Tryd.prog 39 #[.int .i64 n] w fun e w' => e = .returned (.string (strOfNums (dgL 1 n))) ∧ w' = w := by
  obtain ⟨u, rfl⟩ := Int.eq_ofNat_of_zero_le h0
  refine (Any.strconv_Itoa_small { itoaLays with } u (by omega) w).mono ?_
  rintro e w' ⟨rfl, rfl⟩
  exact ⟨by rw [(dec_str u (by omega)).1 (by omega)], rfl⟩
theorem pitoa15_two (n : Int) (w : World) (h0 : 10 ≤ n) (h1 : n < 100) :
    Calls Tryd.prog 39 #[.int .i64 n] w fun e w' => e = .returned (.string (strOfNums (dgL 2 n))) ∧ w' = w := by
  obtain ⟨u, rfl⟩ := Int.eq_ofNat_of_zero_le (show 0 ≤ n by omega)
  refine (Any.strconv_Itoa_small { itoaLays with } u (by omega) w).mono ?_
  rintro e w' ⟨rfl, rfl⟩
  exact ⟨by rw [(dec_str u (by omega)).2.1 (by omega) (by omega)], rfl⟩

set_option maxHeartbeats 1000000 in
theorem ptwo15_any (n : Int) (w : World) (h0 : 0 ≤ n) (h1 : n < 100) :
    Calls Tryd.prog 40 #[.int .i64 n] w fun e w' => e = .returned (.string (strOfNums (dgL 2 n))) ∧ w = w' := by
  by_cases h : n < 10
  · have d0 : decide (n < 10) = true := decide_eq_true h
    have C := Lib.hid (fun w => pitoa15_one n w h0 h)
    have HX : Hid (strOfNums (dgL 2 n) = strOfNums ([48] ++ dgL 1 n)) := by
      rw [Hid]
      congr 1
      show [48 + n / 10 % 10, 48 + n % 10] = [48, 48 + n % 10]
      rw [show 48 + n / 10 % 10 = 48 by omega]
    have ha : ∀ w, (Op.stringOp .add { data := #[48] } (strOfNums (dgL 1 n))).run Tryd.prog w = .ok (.string (strOfNums ([48] ++ dgL 1 n))) w := fun w => add_str [48] (dgL 1 n) (by simp [dgL_length]) w
    obtain ⟨s, hs⟩ : ∃ s, strOfNums ([48] ++ dgL 1 n) = s := ⟨_, rfl⟩
    obtain ⟨q, hq⟩ : ∃ q, strOfNums (dgL 1 n) = q := ⟨_, rfl⟩
    rw [hs] at HX ha
    rw [hq] at C ha
    clear h hs hq
    go_enter Tryd.func40, Tryd.ntmps40
    go_wp2_with fail
    refine (C.out _).mono ?_
    rintro e w1 ⟨rfl, rfl⟩
    go_wp2
    go_ret
    exact ⟨by rw [HX.out]; rfl, rfl⟩
  · have d0 : decide (n < 10) = false := decide_eq_false h
    have C := Lib.hid (fun w => pitoa15_two n w (by omega) h1)
    obtain ⟨q, HQ⟩ : ∃ q, Hid (strOfNums (dgL 2 n) = q) := ⟨_, Lib.hid rfl⟩
    rw [HQ.out] at C
    clear h
    go_enter Tryd.func40, Tryd.ntmps40
    go_wp2_with fail
    refine (C.out _).mono ?_
    rintro e w1 ⟨rfl, rfl⟩
    go_wp2
    go_ret
    exact ⟨by rw [HQ.out]; rfl, rfl⟩

theorem numN_take (zs : List Int) {k : Nat} (hk : k < zs.length) : numN (zs.take (k + 1)) = numN (zs.take k) * 10 + zs.getD k 0 - 48 := by
  rw [List.take_succ_eq_append_getElem hk, numN_snoc]
  simp [List.getD, hk]
theorem mem_getD {zs : List Int} {k : Nat} (hk : k < zs.length) : zs.getD k 0 ∈ zs := by
  simp only [List.getD, List.getElem?_eq_getElem hk, Option.getD_some]
  exact List.getElem_mem hk

set_option maxHeartbeats 1000000 in
theorem pnumber15_any (s : ByteArray) (w : World) (hs : s.size ≤ 4) :
    Calls Tryd.prog 37 #[.string s] w fun e w' => e = .returned (.int .i64 (numN (strB s))) ∧ w = w' := by
  obtain ⟨zs, HZ⟩ : ∃ zs, Hid (strB s = zs) := ⟨_, Lib.hid rfl⟩
  have HBy : Hid (∀ z ∈ zs, isByte z) := by rw [Hid, ← HZ.out]; exact strB_byte s
  obtain ⟨L, hL⟩ : ∃ L, s.size = L := ⟨_, rfl⟩
  have HL : Hid (zs.length = L) := by rw [Hid, ← HZ.out, strB_length]; exact hL
  have HI : Hid (∀ (k : Nat), k < L → ∀ w, (Instr.index 9 (.string s) (.int .i64 k)).run Tryd.prog w = .ok (.int .u8 (zs.getD k 0)) w) := by
    rw [Hid, ← HZ.out]
    exact fun k hk w => index_strB s k k rfl (by omega) w
  rw [HZ.out]
  have hlen : (s.size : Int) = (L : Int) := by omega
  rw [hL] at hs
  have hl4 : L ≤ 4 := hs
  clear hs hL
  go_enter Tryd.func37, Tryd.ntmps37
  go_wp2
  clear hlen
  go_loopw [3, 7] (fun n i v => ∃ (k : Nat) (m : Int), k ≤ L ∧ i = .int .i64 k ∧ n = .int .i64 m ∧ Hid (numN (zs.take k) = m) ∧ Hid (w = v)) (fun _ i _ => L - (intOf i).toNat)
  case atStart => exact ⟨0, 0, by omega, rfl, rfl, Lib.hid rfl, Lib.hid rfl⟩
  case round =>
    obtain ⟨k, m, hk, rfl, rfl, HM, HW⟩ := hrel
    have hb := numN_bd (zs := zs.take k) (fun z hz => HBy.out z (List.mem_of_mem_take hz)) (by rw [List.length_take]; omega)
    rw [HM.out] at hb
    by_cases hlt : k < L
    · have dk : decide ((k : Int) < (L : Int)) = true := decide_eq_true (by omega)
      have hx := HI.out k hlt
      have hz := HBy.out _ (mem_getD (zs := zs) (k := k) (by rw [HL.out]; exact hlt))
      have HN := Lib.hid (numN_take zs (k := k) (by rw [HL.out]; exact hlt))
      obtain ⟨z, hzz⟩ : ∃ z, zs.getD k 0 = z := ⟨_, rfl⟩
      rw [hzz] at hx hz HN
      rw [HM.out] at HN
      unfold isByte at hz
      clear hzz
      go_wp2
      go_roundw
      case rel => exact ⟨k + 1, m * 10 + z - 48, by omega, by go_num, by go_num, HN, HW⟩
      case measure => simp [intOf]; omega
    · obtain rfl : k = L := by omega
      have dk : decide ((k : Int) < (k : Int)) = false := decide_eq_false (by omega)
      have HX : Hid (numN zs = m) := by
        have := HM.out
        rw [List.take_of_length_le (by rw [HL.out]; exact Nat.le_refl _)] at this
        exact this
      clear hlt
      go_wp2
      go_ret
      exact ⟨by rw [HX.out]; rfl, HW.out⟩

end Go.Proofs.YtfdadebddfhpdaaDoor
