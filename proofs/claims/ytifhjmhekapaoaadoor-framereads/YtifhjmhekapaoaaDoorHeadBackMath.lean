/- Heads and their bytes: what is written is read as it was, and what is read is written as the same bytes. No program is read here. -/
import Derived.Test.YtifhjmhekapaoaaDoorHeadForm
namespace Go.Proofs.YtifhjmhekapaoaaDoor
set_option maxRecDepth 100000
open Go.RowKit
set_option linter.unusedVariables false

theorem encL_lit (h : Hd) : encL h = [h.t, 2, longN h.t / 256 % 256, longN h.t % 256, h.d, 0, h.f / 256 % 256, h.f % 256, h.c / 256 / 256 / 256 / 256 / 256 / 256 / 256 % 256, h.c / 256 / 256 / 256 / 256 / 256 / 256 % 256, h.c / 256 / 256 / 256 / 256 / 256 % 256, h.c / 256 / 256 / 256 / 256 % 256, h.c / 256 / 256 / 256 % 256, h.c / 256 / 256 % 256, h.c / 256 % 256, h.c % 256, 0, 0, 0, 0, h.p.c.b0, h.p.c.b1, h.p.c.b2, h.p.c.b3, h.p.c.b4, h.p.c.b5, h.p.c.b6, h.p.c.b7, h.p.n / 256 % 256, h.p.n % 256, h.s / 256 % 256, h.s % 256, 0, h.l % 256] := rfl
theorem be8_wrap (c : Int) (h0 : -9223372036854775808 ≤ c) (h1 : c ≤ 9223372036854775807) : wrap64 (beN (beL 8 c)) = c := by
  simp only [beL, beN, List.nil_append, List.cons_append, List.foldl_cons, List.foldl_nil]
  unfold wrap64
  omega
theorem beL8_lit (c : Int) : beL 8 c = [c / 256 / 256 / 256 / 256 / 256 / 256 / 256 % 256, c / 256 / 256 / 256 / 256 / 256 / 256 % 256, c / 256 / 256 / 256 / 256 / 256 % 256, c / 256 / 256 / 256 / 256 % 256, c / 256 / 256 / 256 % 256, c / 256 / 256 % 256, c / 256 % 256, c % 256] := rfl

/-- the numbers at the first places of a head's bytes with more behind them -/
theorem enc_at (h : Hd) (r : List Int) (k : Nat) (hk : k < 34) : (encL h ++ r).getD k 0 = (encL h).getD k 0 := by
  have hl : k < (encL h).length := by rw [encL_length]; exact hk
  simp only [List.getD, List.getElem?_append_left hl]
theorem enc_sub (h : Hd) (r : List Int) (k n : Nat) (hk : k + n ≤ 34) : ((encL h ++ r).drop k).take n = ((encL h).drop k).take n := by
  apply List.ext_getElem?
  intro i
  rw [List.getElem?_take, List.getElem?_take]
  split
  · rw [List.getElem?_drop, List.getElem?_drop, List.getElem?_append_left (by rw [encL_length]; omega)]
  · rfl
theorem part8_all (f : Nat → Int) : part8 f 8 = ⟨f 0, f 1, f 2, f 3, f 4, f 5, f 6, f 7⟩ := rfl
theorem hdOf_l (zs : List Int) : (hdOf zs).l = sg1 (zs.getD 33 0) := rfl
/-- what is written is read as it was -/
theorem hd_enc (h : Hd) (r : List Int) (hr : h.right = true) (c0 : -9223372036854775808 ≤ h.c) (c1 : h.c ≤ 9223372036854775807) : hdOf (encL h ++ r) = h := by
  obtain ⟨hln, ⟨d0, d1⟩, hfl, ⟨p0, p1⟩, ⟨s0, s1⟩, l0, l1⟩ := Hd.right_iff.1 hr
  have hfb := flagB_bd hfl
  have htb := (longN_ne hln).1
  have e1 : ((encL h).drop 8).take 8 = beL 8 h.c := rfl
  have e2 : ((encL h).drop 20).take 10 = ptL h.p := rfl
  apply Hd.ext'
  · show (encL h ++ r).getD 0 0 % 16 = h.t
    rw [enc_at h r 0 (by omega)]
    show h.t % 16 = h.t
    omega
  · show (encL h ++ r).getD 4 0 = h.d
    rw [enc_at h r 4 (by omega)]; rfl
  · show (encL h ++ r).getD 6 0 * 256 + (encL h ++ r).getD 7 0 = h.f
    rw [enc_at h r 6 (by omega), enc_at h r 7 (by omega)]
    show h.f / 256 % 256 * 256 + h.f % 256 = h.f
    omega
  · show wrap64 (beN (((encL h ++ r).drop 8).take 8)) = h.c
    rw [enc_sub h r 8 8 (by omega), e1, be8_wrap h.c c0 c1]
  · show getP (((encL h ++ r).drop 20).take 10) = h.p
    rw [enc_sub h r 20 10 (by omega), e2, ptL_lit]
    show (⟨⟨h.p.c.b0, h.p.c.b1, h.p.c.b2, h.p.c.b3, h.p.c.b4, h.p.c.b5, h.p.c.b6, h.p.c.b7⟩, h.p.n / 256 % 256 * 256 + h.p.n % 256⟩ : Pt) = h.p
    rw [show h.p.n / 256 % 256 * 256 + h.p.n % 256 = h.p.n by omega]
  · show (encL h ++ r).getD 30 0 * 256 + (encL h ++ r).getD 31 0 = h.s
    rw [enc_at h r 30 (by omega), enc_at h r 31 (by omega)]
    show h.s / 256 % 256 * 256 + h.s % 256 = h.s
    omega
  · rw [hdOf_l, enc_at h r 33 (by omega)]
    have e : (encL h).getD 33 0 = h.l % 256 := rfl
    rw [e]
    unfold sg1
    split <;> omega
theorem form_enc (h : Hd) (r : List Int) (L : Int) (hL : 34 ≤ L) (hr : h.right = true) : formN L (encL h ++ r) = if L = longN h.t then 0 else 53 := by
  obtain ⟨hln, ⟨d0, d1⟩, hfl, ⟨p0, p1⟩, ⟨s0, s1⟩, l0, l1⟩ := Hd.right_iff.1 hr
  have htb := (longN_ne hln).1
  have hlb := longN_bd h.t
  rw [formN_eq, enc_at h r 0 (by omega), enc_at h r 1 (by omega), enc_at h r 2 (by omega), enc_at h r 3 (by omega), enc_at h r 5 (by omega), enc_at h r 16 (by omega), enc_at h r 17 (by omega), enc_at h r 18 (by omega), enc_at h r 19 (by omega), enc_at h r 32 (by omega)]
  show formM L (longN (h.t % 16)) h.t 2 (longN h.t / 256 % 256) (longN h.t % 256) 0 0 0 0 0 0 = _
  rw [show h.t % 16 = h.t by omega]
  generalize longN h.t = m at *
  unfold formM
  split
  · repeat (first | omega | split)
  · repeat (first | omega | split)
/-- what is amiss with a head's bytes and more behind them: the length alone -/
theorem fault_enc (h : Hd) (r : List Int) (L : Int) (hL : 34 ≤ L) (hr : h.right = true) (c0 : -9223372036854775808 ≤ h.c) (c1 : h.c ≤ 9223372036854775807) : faultN L (encL h ++ r) = if L = longN h.t then 0 else 53 := by
  obtain ⟨hln, _, hfl, ⟨p0, p1⟩, _⟩ := Hd.right_iff.1 hr
  unfold faultN
  rw [form_enc h r L hL hr, hd_enc h r hr c0 c1]
  by_cases hh : L = longN h.t
  · rw [if_pos hh, if_neg (by simp), if_neg (by rw [hfl]; simp), if_neg (by rw [inB_iff.2 ⟨p0, p1⟩]; simp)]
  · rw [if_neg hh, if_pos (by omega)]
theorem dec_enc (h : Hd) (r : List Int) (L : Int) (hL : 34 ≤ L) (hr : h.right = true) (c0 : -9223372036854775808 ≤ h.c) (c1 : h.c ≤ 9223372036854775807) (hl : L = longN h.t) : faultN L (encL h ++ r) = 0 ∧ decH L (encL h ++ r) = h := by
  have e := fault_enc h r L hL hr c0 c1
  rw [if_pos hl] at e
  refine ⟨e, ?_⟩
  unfold decH
  rw [if_pos e, hd_enc h r hr c0 c1]

theorem take_map (zs : List Int) (n : Nat) (h : n ≤ zs.length) : zs.take n = (List.range n).map (fun k => zs.getD k 0) := by
  apply List.ext_getElem
  · simp; omega
  · intro i h1 h2
    have hz : i < zs.length := by simp at h1; omega
    rw [List.getElem_take, List.getElem_map, List.getElem_range]
    simp [List.getD, hz]
theorem list34 {zs : List Int} (h : 34 ≤ zs.length) : zs.take 34 = [zs.getD 0 0, zs.getD 1 0, zs.getD 2 0, zs.getD 3 0, zs.getD 4 0, zs.getD 5 0, zs.getD 6 0, zs.getD 7 0, zs.getD 8 0, zs.getD 9 0, zs.getD 10 0, zs.getD 11 0, zs.getD 12 0, zs.getD 13 0, zs.getD 14 0, zs.getD 15 0, zs.getD 16 0, zs.getD 17 0, zs.getD 18 0, zs.getD 19 0, zs.getD 20 0, zs.getD 21 0, zs.getD 22 0, zs.getD 23 0, zs.getD 24 0, zs.getD 25 0, zs.getD 26 0, zs.getD 27 0, zs.getD 28 0, zs.getD 29 0, zs.getD 30 0, zs.getD 31 0, zs.getD 32 0, zs.getD 33 0] := (take_map zs 34 h).trans rfl
theorem list8' {zs : List Int} (k : Nat) (h : k + 8 ≤ zs.length) : (zs.drop k).take 8 = [zs.getD (k + 0) 0, zs.getD (k + 1) 0, zs.getD (k + 2) 0, zs.getD (k + 3) 0, zs.getD (k + 4) 0, zs.getD (k + 5) 0, zs.getD (k + 6) 0, zs.getD (k + 7) 0] := by
  apply List.ext_getElem
  · simp; omega
  · intro i h1 h2
    rw [List.getElem_take, List.getElem_drop]
    have hz : k + i < zs.length := by simp at h1; omega
    have hg : zs[k + i] = zs.getD (k + i) 0 := by simp [List.getD, hz]
    rw [hg]
    simp at h2
    match i, h2 with
    | 0, _ => rfl
    | 1, _ => rfl
    | 2, _ => rfl
    | 3, _ => rfl
    | 4, _ => rfl
    | 5, _ => rfl
    | 6, _ => rfl
    | 7, _ => rfl
theorem wrap8_bytes (zs : List Int) (hl : zs.length = 8) (hb : ∀ z ∈ zs, isByte z) : beL 8 (wrap64 (beN zs)) = zs := by
  have h := beL_beN zs hb
  rw [hl] at h
  rw [← h]
  have e : beN (beL 8 (beN zs)) = beN zs := by rw [h]
  rw [h]
  have key : ∀ n : Int, beL 8 (wrap64 n) = beL 8 n := by
    intro n
    simp only [beL, List.nil_append, List.cons_append]
    unfold wrap64
    congr 1
    · omega
    congr 1
    · omega
    congr 1
    · omega
    congr 1
    · omega
    congr 1
    · omega
    congr 1
    · omega
    congr 1
    · omega
    congr 1
    omega
  rw [key, h]
/-- what is read is right, and is written as the same bytes -/
theorem enc_dec (zs : List Int) (hL : 34 ≤ zs.length) (hb : ∀ z ∈ zs, isByte z) (hf : faultN zs.length zs = 0) : (hdOf zs).right = true ∧ encL (hdOf zs) = zs.take 34 := by
  have hfo : formN zs.length zs = 0 := by
    unfold faultN at hf
    split at hf
    · rename_i h; exact absurd hf h
    · rename_i h; simpa using h
  have hfl : flagB (hdOf zs).t (hdOf zs).f = true := by
    unfold faultN at hf
    rw [if_neg (by simp [hfo])] at hf
    split at hf
    · omega
    · rename_i h; simpa using h
  have hnm : inB (hdOf zs).p.n 1 65534 = true := by
    unfold faultN at hf
    rw [if_neg (by simp [hfo]), if_neg (by rw [hfl]; simp)] at hf
    split at hf
    · omega
    · rename_i h; simpa using h
  rw [formN_eq] at hfo
  have B : ∀ k, isByte (zs.getD k 0) := fun k => getD_byte hb k
  have hlt := list34 hL
  have h8 := list8' (zs := zs) 8 (by omega)
  have hw8 := wrap8_bytes ((zs.drop 8).take 8) (by rw [List.length_take, List.length_drop]; omega) (fun z hz => hb z (List.mem_of_mem_drop (List.mem_of_mem_take hz)))
  have hlong := longN_bd (zs.getD 0 0 % 16)
  have hcond : zs.getD 1 0 = 2 ∧ longN (zs.getD 0 0 % 16) ≠ 0 ∧ zs.getD 2 0 * 256 + zs.getD 3 0 = longN (zs.getD 0 0 % 16) ∧ zs.getD 0 0 ≤ 15 ∧ zs.getD 5 0 = 0 ∧ zs.getD 16 0 = 0 ∧ zs.getD 17 0 = 0 ∧ zs.getD 18 0 = 0 ∧ zs.getD 19 0 = 0 ∧ zs.getD 32 0 = 0 := by
    unfold formM at hfo
    generalize longN (zs.getD 0 0 % 16) = m at *
    split at hfo
    · omega
    split at hfo
    · omega
    split at hfo
    · omega
    split at hfo
    · omega
    split at hfo
    · omega
    omega
  obtain ⟨q1, q2, q3, q0, q5, q16, q17, q18, q19, q32⟩ := hcond
  have hpP : (hdOf zs).p = ⟨⟨zs.getD 20 0, zs.getD 21 0, zs.getD 22 0, zs.getD 23 0, zs.getD 24 0, zs.getD 25 0, zs.getD 26 0, zs.getD 27 0⟩, zs.getD 28 0 * 256 + zs.getD 29 0⟩ := by
    have hg : ∀ i, i < 10 → ((zs.drop 20).take 10).getD i 0 = zs.getD (20 + i) 0 := by
      intro i hi
      simp only [List.getD]
      rw [List.getElem?_take, if_pos hi, List.getElem?_drop]
    show getP ((zs.drop 20).take 10) = _
    show (⟨⟨_, _, _, _, _, _, _, _⟩, _ * 256 + _⟩ : Pt) = _
    simp only [hg 0 (by omega), hg 1 (by omega), hg 2 (by omega), hg 3 (by omega), hg 4 (by omega), hg 5 (by omega), hg 6 (by omega), hg 7 (by omega), hg 8 (by omega), hg 9 (by omega)]
    rfl
  have b0 := B 0
  have b2 := B 2
  have b3 := B 3
  have b4 := B 4
  have b6 := B 6
  have b7 := B 7
  have b28 := B 28
  have b29 := B 29
  have b30 := B 30
  have b31 := B 31
  have b33 := B 33
  unfold isByte at b0 b2 b3 b4 b6 b7 b28 b29 b30 b31 b33
  have ht : (hdOf zs).t = zs.getD 0 0 := by show zs.getD 0 0 % 16 = _; omega
  refine ⟨?_, ?_⟩
  · rw [Hd.right_iff]
    refine ⟨by show longN (zs.getD 0 0 % 16) ≠ 0; exact q2, ?_, hfl, inB_iff.1 hnm, ?_, ?_⟩
    · show 0 ≤ zs.getD 4 0 ∧ zs.getD 4 0 ≤ 255; omega
    · show 0 ≤ zs.getD 30 0 * 256 + zs.getD 31 0 ∧ zs.getD 30 0 * 256 + zs.getD 31 0 ≤ 65535; omega
    · show -128 ≤ sg1 (zs.getD 33 0) ∧ sg1 (zs.getD 33 0) ≤ 127
      unfold sg1; split <;> omega
  · rw [hlt]
    have e0 : encL (hdOf zs) = [(hdOf zs).t, 2] ++ beL 2 (longN (hdOf zs).t) ++ [zs.getD 4 0, 0] ++ beL 2 (zs.getD 6 0 * 256 + zs.getD 7 0) ++ beL 8 (wrap64 (beN ((zs.drop 8).take 8))) ++ [0, 0, 0, 0] ++ ptL (hdOf zs).p ++ beL 2 (zs.getD 30 0 * 256 + zs.getD 31 0) ++ [0, sg1 (zs.getD 33 0) % 256] := rfl
    have two : ∀ x y : Int, 0 ≤ x → x ≤ 255 → 0 ≤ y → y ≤ 255 → beL 2 (x * 256 + y) = [x, y] := by
      intro x y h1 h2 h3 h4
      simp only [beL, List.nil_append, List.cons_append]
      congr 1
      · omega
      congr 1
      omega
    have hz0 : zs.getD 0 0 % 16 = zs.getD 0 0 := by omega
    have el : longN (hdOf zs).t = zs.getD 2 0 * 256 + zs.getD 3 0 := by rw [ht, ← hz0, q3]
    have es : sg1 (zs.getD 33 0) % 256 = zs.getD 33 0 := by unfold sg1; split <;> omega
    rw [e0, el, two _ _ (by omega) (by omega) (by omega) (by omega), two _ _ (by omega) (by omega) (by omega) (by omega), two _ _ (by omega) (by omega) (by omega) (by omega), hw8, h8, hpP, ptL, two _ _ (by omega) (by omega) (by omega) (by omega), es, ht]
    simp only [Ck.l, List.cons_append, List.nil_append, q1, q5, q16, q17, q18, q19, q32]

end Go.Proofs.YtifhjmhekapaoaaDoor
