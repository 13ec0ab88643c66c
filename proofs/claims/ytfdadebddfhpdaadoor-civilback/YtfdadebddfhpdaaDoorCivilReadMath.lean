/- Plain words on reading texts of labels. -/
import Derived.Test.YtfdadebddfhpdaaDoorCivilText2
import Derived.Test.YtfdadebddfhpdaaDoorBytesOrder
namespace Go.Proofs.YtfdadebddfhpdaaDoor
set_option maxRecDepth 100000
open Go.RowKit
set_option linter.unusedVariables false
set_option linter.unusedSimpArgs false

/-- the pieces of a text as numbers -/
def rdP (zs : List Int) : Lb := ⟨numN (zs.take 4), numN ((zs.take 7).drop 5), numN ((zs.take 10).drop 8), numN ((zs.take 13).drop 11), numN ((zs.take 16).drop 14), numN (zs.drop 17)⟩
def rdR (zs : List Int) : Lb := ⟨numR ((zs.take 4).drop 0), numR ((zs.take 7).drop 5), numR ((zs.take 10).drop 8), numR ((zs.take 13).drop 11), numR ((zs.take 16).drop 14), numR ((zs.take 19).drop 17)⟩
/-- whether a text is one of a label, and that label -/
def rdB (zs : List Int) : Bool := (zs.length == 19) && (txL (rdP zs) == zs)
def rdV (zs : List Int) : Lb := if rdB zs then rdP zs else zLb
def sepB (zs : List Int) : Bool := (zs.getD 4 0 == 45) && ((zs.getD 7 0 == 45) && ((zs.getD 10 0 == 84) && ((zs.getD 13 0 == 58) && (zs.getD 16 0 == 58))))

theorem digB_iff {z : Int} : digB z = true ↔ 48 ≤ z ∧ z ≤ 57 := by unfold digB; simp
theorem numR_2 {a b : Int} (h : 0 ≤ numR [a, b]) : (48 ≤ a ∧ a ≤ 57) ∧ (48 ≤ b ∧ b ≤ 57) ∧ numR [a, b] = numN [a, b] := by
  unfold numR at h ⊢
  by_cases hd : [a, b].all digB
  · rw [if_pos hd] at h ⊢
    simp only [List.all_cons, List.all_nil, Bool.and_true, Bool.and_eq_true, digB_iff] at hd
    exact ⟨hd.1, hd.2, rfl⟩
  · rw [if_neg hd] at h
    omega
theorem numR_4 {a b c d : Int} (h : 0 ≤ numR [a, b, c, d]) : (48 ≤ a ∧ a ≤ 57) ∧ (48 ≤ b ∧ b ≤ 57) ∧ (48 ≤ c ∧ c ≤ 57) ∧ (48 ≤ d ∧ d ≤ 57) ∧ numR [a, b, c, d] = numN [a, b, c, d] := by
  unfold numR at h ⊢
  by_cases hd : [a, b, c, d].all digB
  · rw [if_pos hd] at h ⊢
    simp only [List.all_cons, List.all_nil, Bool.and_true, Bool.and_eq_true, digB_iff] at hd
    exact ⟨hd.1, hd.2.1, hd.2.2.1, hd.2.2.2, rfl⟩
  · rw [if_neg hd] at h
    omega
theorem numR_d2 {a b : Int} (ha : 48 ≤ a ∧ a ≤ 57) (hb : 48 ≤ b ∧ b ≤ 57) : numR [a, b] = numN [a, b] := by
  unfold numR
  rw [if_pos (by simp only [List.all_cons, List.all_nil, Bool.and_true, Bool.and_eq_true, digB_iff]; exact ⟨ha, hb⟩)]
theorem numR_d4 {a b c d : Int} (ha : 48 ≤ a ∧ a ≤ 57) (hb : 48 ≤ b ∧ b ≤ 57) (hc : 48 ≤ c ∧ c ≤ 57) (hd : 48 ≤ d ∧ d ≤ 57) : numR [a, b, c, d] = numN [a, b, c, d] := by
  unfold numR
  rw [if_pos (by simp only [List.all_cons, List.all_nil, Bool.and_true, Bool.and_eq_true, digB_iff]; exact ⟨ha, hb, hc, hd⟩)]
theorem dg_num2 {a b : Int} (ha : 48 ≤ a ∧ a ≤ 57) (hb : 48 ≤ b ∧ b ≤ 57) : dgL 2 (numN [a, b]) = [a, b] := by
  show [48 + ((0 * 10 + a - 48) * 10 + b - 48) / 10 % 10, 48 + ((0 * 10 + a - 48) * 10 + b - 48) % 10] = [a, b]
  congr 1
  · omega
  · congr 1
    omega
theorem dg_num4 {a b c d : Int} (ha : 48 ≤ a ∧ a ≤ 57) (hb : 48 ≤ b ∧ b ≤ 57) (hc : 48 ≤ c ∧ c ≤ 57) (hd : 48 ≤ d ∧ d ≤ 57) : dgL 4 (numN [a, b, c, d]) = [a, b, c, d] := by
  obtain ⟨n, hn⟩ : ∃ n, numN [a, b, c, d] = n := ⟨_, rfl⟩
  have e : n = (((0 * 10 + a - 48) * 10 + b - 48) * 10 + c - 48) * 10 + d - 48 := hn.symm
  rw [hn]
  show [48 + n / 10 / 10 / 10 % 10, 48 + n / 10 / 10 % 10, 48 + n / 10 % 10, 48 + n % 10] = [a, b, c, d]
  have e1 : 48 + n / 10 / 10 / 10 % 10 = a := by omega
  have e2 : 48 + n / 10 / 10 % 10 = b := by omega
  have e3 : 48 + n / 10 % 10 = c := by omega
  have e4 : 48 + n % 10 = d := by omega
  rw [e1, e2, e3, e4]
theorem num_dg2 {n : Int} (h0 : 0 ≤ n) (h1 : n ≤ 99) : numN (dgL 2 n) = n := by
  show (0 * 10 + (48 + n / 10 % 10) - 48) * 10 + (48 + n % 10) - 48 = n
  omega
theorem num_dg4 {n : Int} (h0 : 0 ≤ n) (h1 : n ≤ 9999) : numN (dgL 4 n) = n := by
  show (((0 * 10 + (48 + n / 10 / 10 / 10 % 10) - 48) * 10 + (48 + n / 10 / 10 % 10) - 48) * 10 + (48 + n / 10 % 10) - 48) * 10 + (48 + n % 10) - 48 = n
  omega
theorem lb_nn {l : Lb} (h : lbB l = true) : (1970 ≤ l.y ∧ l.y ≤ 9999) ∧ (1 ≤ l.m ∧ l.m ≤ 12) ∧ (1 ≤ l.d ∧ l.d ≤ 31) ∧ (0 ≤ l.hh ∧ l.hh ≤ 23) ∧ (0 ≤ l.mi ∧ l.mi ≤ 59) ∧ (0 ≤ l.se ∧ l.se ≤ 60) := by
  obtain ⟨hd, t0, t1, t2, t3, t4, t5⟩ := lb_bd h
  obtain ⟨y, m, d0, d1⟩ := dayB_iff.1 hd
  have := (monN_bd l.y l.m).2
  exact ⟨y, m, ⟨d0, by omega⟩, ⟨t0, t1⟩, ⟨t2, t3⟩, t4, t5⟩
theorem rdP_19 (z0 z1 z2 z3 z4 z5 z6 z7 z8 z9 z10 z11 z12 z13 z14 z15 z16 z17 z18 : Int) : rdP [z0, z1, z2, z3, z4, z5, z6, z7, z8, z9, z10, z11, z12, z13, z14, z15, z16, z17, z18] = ⟨numN [z0, z1, z2, z3], numN [z5, z6], numN [z8, z9], numN [z11, z12], numN [z14, z15], numN [z17, z18]⟩ := rfl
/-- a label's text is read as that label -/
theorem rdP_text {l : Lb} (h : lbB l = true) : rdP (textL l) = l := by
  obtain ⟨⟨a0, a1⟩, ⟨b0, b1⟩, ⟨c0, c1⟩, ⟨e0, e1⟩, ⟨f0, f1⟩, ⟨g0, g1⟩⟩ := lb_nn h
  have e : textL l = [48 + l.y / 10 / 10 / 10 % 10, 48 + l.y / 10 / 10 % 10, 48 + l.y / 10 % 10, 48 + l.y % 10, 45, 48 + l.m / 10 % 10, 48 + l.m % 10, 45, 48 + l.d / 10 % 10, 48 + l.d % 10, 84, 48 + l.hh / 10 % 10, 48 + l.hh % 10, 58, 48 + l.mi / 10 % 10, 48 + l.mi % 10, 58, 48 + l.se / 10 % 10, 48 + l.se % 10] := rfl
  have k0 : numN [48 + l.y / 10 / 10 / 10 % 10, 48 + l.y / 10 / 10 % 10, 48 + l.y / 10 % 10, 48 + l.y % 10] = l.y := num_dg4 (by omega) (by omega)
  have k1 : numN [48 + l.m / 10 % 10, 48 + l.m % 10] = l.m := num_dg2 (by omega) (by omega)
  have k2 : numN [48 + l.d / 10 % 10, 48 + l.d % 10] = l.d := num_dg2 (by omega) (by omega)
  have k3 : numN [48 + l.hh / 10 % 10, 48 + l.hh % 10] = l.hh := num_dg2 (by omega) (by omega)
  have k4 : numN [48 + l.mi / 10 % 10, 48 + l.mi % 10] = l.mi := num_dg2 (by omega) (by omega)
  have k5 : numN [48 + l.se / 10 % 10, 48 + l.se % 10] = l.se := num_dg2 (by omega) (by omega)
  rw [e, rdP_19, k0, k1, k2, k3, k4, k5]
theorem rd_back (l : Lb) : rdB (txL l) = lbB l ∧ (lbB l = true → rdV (txL l) = l) := by
  rcases Bool.eq_false_or_eq_true (lbB l) with h | h
  · have e : txL l = textL l := by unfold txL; rw [h]; rfl
    have e2 : rdB (textL l) = true := by
      unfold rdB
      rw [rdP_text h, e, textL_length]
      simp
    rw [e, h]
    exact ⟨e2, fun _ => by unfold rdV; rw [e2]; exact rdP_text h⟩
  · have e : txL l = [] := by unfold txL; rw [h]; rfl
    rw [e, h]
    exact ⟨rfl, fun x => by cases x⟩
/-- the reference reads alike -/
theorem rdR_iff {zs : List Int} (hl : zs.length = 19) : ((lbB (rdR zs) && sepB zs) = rdB zs) ∧ (rdB zs = true → rdR zs = rdP zs) := by
  match zs, hl with
  | [z0, z1, z2, z3, z4, z5, z6, z7, z8, z9, z10, z11, z12, z13, z14, z15, z16, z17, z18], _ =>
    have hP : rdP [z0, z1, z2, z3, z4, z5, z6, z7, z8, z9, z10, z11, z12, z13, z14, z15, z16, z17, z18] = ⟨numN [z0, z1, z2, z3], numN [z5, z6], numN [z8, z9], numN [z11, z12], numN [z14, z15], numN [z17, z18]⟩ := rfl
    have hR : rdR [z0, z1, z2, z3, z4, z5, z6, z7, z8, z9, z10, z11, z12, z13, z14, z15, z16, z17, z18] = ⟨numR [z0, z1, z2, z3], numR [z5, z6], numR [z8, z9], numR [z11, z12], numR [z14, z15], numR [z17, z18]⟩ := rfl
    have hS : sepB [z0, z1, z2, z3, z4, z5, z6, z7, z8, z9, z10, z11, z12, z13, z14, z15, z16, z17, z18] = ((z4 == 45) && ((z7 == 45) && ((z10 == 84) && ((z13 == 58) && (z16 == 58))))) := rfl
    have hB : rdB [z0, z1, z2, z3, z4, z5, z6, z7, z8, z9, z10, z11, z12, z13, z14, z15, z16, z17, z18] = true ↔ txL ⟨numN [z0, z1, z2, z3], numN [z5, z6], numN [z8, z9], numN [z11, z12], numN [z14, z15], numN [z17, z18]⟩ = [z0, z1, z2, z3, z4, z5, z6, z7, z8, z9, z10, z11, z12, z13, z14, z15, z16, z17, z18] := by
      unfold rdB
      rw [hP]
      simp
    have key : rdB [z0, z1, z2, z3, z4, z5, z6, z7, z8, z9, z10, z11, z12, z13, z14, z15, z16, z17, z18] = true → (((48 ≤ z0 ∧ z0 ≤ 57) ∧ (48 ≤ z1 ∧ z1 ≤ 57) ∧ (48 ≤ z2 ∧ z2 ≤ 57) ∧ (48 ≤ z3 ∧ z3 ≤ 57)) ∧ ((48 ≤ z5 ∧ z5 ≤ 57) ∧ (48 ≤ z6 ∧ z6 ≤ 57)) ∧ ((48 ≤ z8 ∧ z8 ≤ 57) ∧ (48 ≤ z9 ∧ z9 ≤ 57)) ∧ ((48 ≤ z11 ∧ z11 ≤ 57) ∧ (48 ≤ z12 ∧ z12 ≤ 57)) ∧ ((48 ≤ z14 ∧ z14 ≤ 57) ∧ (48 ≤ z15 ∧ z15 ≤ 57)) ∧ ((48 ≤ z17 ∧ z17 ≤ 57) ∧ (48 ≤ z18 ∧ z18 ≤ 57))) ∧ (z4 = 45 ∧ z7 = 45 ∧ z10 = 84 ∧ z13 = 58 ∧ z16 = 58) ∧ lbB ⟨numN [z0, z1, z2, z3], numN [z5, z6], numN [z8, z9], numN [z11, z12], numN [z14, z15], numN [z17, z18]⟩ = true := by
      intro h
      have ht := hB.1 h
      rcases Bool.eq_false_or_eq_true (lbB ⟨numN [z0, z1, z2, z3], numN [z5, z6], numN [z8, z9], numN [z11, z12], numN [z14, z15], numN [z17, z18]⟩) with hb | hb
      · unfold txL at ht
        rw [hb] at ht
        obtain ⟨y, hy⟩ : ∃ y, numN [z0, z1, z2, z3] = y := ⟨_, rfl⟩
        obtain ⟨m, hm⟩ : ∃ y, numN [z5, z6] = y := ⟨_, rfl⟩
        obtain ⟨d, hd⟩ : ∃ y, numN [z8, z9] = y := ⟨_, rfl⟩
        obtain ⟨o, ho⟩ : ∃ y, numN [z11, z12] = y := ⟨_, rfl⟩
        obtain ⟨i, hi⟩ : ∃ y, numN [z14, z15] = y := ⟨_, rfl⟩
        obtain ⟨e, he⟩ : ∃ y, numN [z17, z18] = y := ⟨_, rfl⟩
        rw [hy, hm, hd, ho, hi, he] at ht hb
        have ht2 : [48 + y / 10 / 10 / 10 % 10, 48 + y / 10 / 10 % 10, 48 + y / 10 % 10, 48 + y % 10, 45, 48 + m / 10 % 10, 48 + m % 10, 45, 48 + d / 10 % 10, 48 + d % 10, 84, 48 + o / 10 % 10, 48 + o % 10, 58, 48 + i / 10 % 10, 48 + i % 10, 58, 48 + e / 10 % 10, 48 + e % 10] = [z0, z1, z2, z3, z4, z5, z6, z7, z8, z9, z10, z11, z12, z13, z14, z15, z16, z17, z18] := ht
        simp only [List.cons.injEq, and_true] at ht2
        obtain ⟨k0, k1, k2, k3, k4, k5, k6, k7, k8, k9, k10, k11, k12, k13, k14, k15, k16, k17, k18⟩ := ht2
        rw [hy, hm, hd, ho, hi, he]
        clear hB hP hR hS ht h hy hm hd ho hi he
        exact ⟨⟨⟨by omega, by omega, by omega, by omega⟩, ⟨by omega, by omega⟩, ⟨by omega, by omega⟩, ⟨by omega, by omega⟩, ⟨by omega, by omega⟩, by omega, by omega⟩, ⟨by omega, by omega, by omega, by omega, by omega⟩, hb⟩
      · unfold txL at ht
        rw [hb] at ht
        cases ht
    have same : rdB [z0, z1, z2, z3, z4, z5, z6, z7, z8, z9, z10, z11, z12, z13, z14, z15, z16, z17, z18] = true → rdR [z0, z1, z2, z3, z4, z5, z6, z7, z8, z9, z10, z11, z12, z13, z14, z15, z16, z17, z18] = rdP [z0, z1, z2, z3, z4, z5, z6, z7, z8, z9, z10, z11, z12, z13, z14, z15, z16, z17, z18] := by
      intro h
      obtain ⟨⟨⟨d0, d1, d2, d3⟩, ⟨d5, d6⟩, ⟨d8, d9⟩, ⟨d11, d12⟩, ⟨d14, d15⟩, d17, d18⟩, _, _⟩ := key h
      rw [hR, hP, numR_d4 d0 d1 d2 d3, numR_d2 d5 d6, numR_d2 d8 d9, numR_d2 d11 d12, numR_d2 d14 d15, numR_d2 d17 d18]
    refine ⟨?_, same⟩
    rw [Bool.eq_iff_iff, Bool.and_eq_true]
    constructor
    · rintro ⟨h1, h2⟩
      rw [hR] at h1
      rw [hS] at h2
      simp only [Bool.and_eq_true, beq_iff_eq] at h2
      obtain ⟨rfl, rfl, rfl, rfl, rfl⟩ := h2
      obtain ⟨⟨a0, a1⟩, ⟨b0, b1⟩, ⟨c0, c1⟩, ⟨e0, e1⟩, ⟨f0, f1⟩, ⟨g0, g1⟩⟩ := lb_nn h1
      obtain ⟨d0, d1, d2, d3, n0⟩ := numR_4 (a := z0) (b := z1) (c := z2) (d := z3) (Int.le_trans (by decide) a0)
      obtain ⟨d5, d6, n1⟩ := numR_2 (a := z5) (b := z6) (Int.le_trans (by decide) b0)
      obtain ⟨d8, d9, n2⟩ := numR_2 (a := z8) (b := z9) (Int.le_trans (by decide) c0)
      obtain ⟨d11, d12, n3⟩ := numR_2 (a := z11) (b := z12) e0
      obtain ⟨d14, d15, n4⟩ := numR_2 (a := z14) (b := z15) f0
      obtain ⟨d17, d18, n5⟩ := numR_2 (a := z17) (b := z18) g0
      rw [n0, n1, n2, n3, n4, n5] at h1
      rw [hB]
      unfold txL
      rw [h1]
      show textL _ = _
      unfold textL
      show dgL 4 (numN [z0, z1, z2, z3]) ++ [45] ++ dgL 2 (numN [z5, z6]) ++ [45] ++ dgL 2 (numN [z8, z9]) ++ [84] ++ dgL 2 (numN [z11, z12]) ++ [58] ++ dgL 2 (numN [z14, z15]) ++ [58] ++ dgL 2 (numN [z17, z18]) = _
      rw [dg_num4 d0 d1 d2 d3, dg_num2 d5 d6, dg_num2 d8 d9, dg_num2 d11 d12, dg_num2 d14 d15, dg_num2 d17 d18]
      rfl
    · intro h
      obtain ⟨_, ⟨rfl, rfl, rfl, rfl, rfl⟩, h2⟩ := key h
      refine ⟨?_, rfl⟩
      rw [same h, hP]
      exact h2
theorem rdR_no {zs : List Int} (hl : zs.length = 19) (h : (lbB (rdR zs) && sepB zs) = false) : rdB zs = false ∧ rdV zs = zLb := by
  have e : rdB zs = false := by rw [← (rdR_iff hl).1]; exact h
  exact ⟨e, by unfold rdV; rw [e]; rfl⟩
theorem rdR_yes {zs : List Int} (hl : zs.length = 19) (h : (lbB (rdR zs) && sepB zs) = true) : rdB zs = true ∧ rdV zs = rdR zs := by
  have e : rdB zs = true := by rw [← (rdR_iff hl).1]; exact h
  exact ⟨e, by unfold rdV; rw [if_pos e]; exact ((rdR_iff hl).2 e).symm⟩
theorem rdB_short {zs : List Int} (hl : zs.length ≠ 19) : rdB zs = false ∧ rdV zs = zLb := by
  have e : rdB zs = false := by unfold rdB; simp [hl]
  exact ⟨e, by unfold rdV; rw [e]; rfl⟩
theorem beq_strB {xs ys : List Int} (hx : ∀ z ∈ xs, isByte z) (hy : ∀ z ∈ ys, isByte z) : ((strOfNums xs).toList == (strOfNums ys).toList) = (xs == ys) := by
  rw [str_toList, str_toList, Bool.eq_iff_iff]
  simp only [beq_iff_eq]
  constructor
  · intro h
    exact (str_eq hx hy).1 (ByteArray.ext (Array.ext' (by rw [strOfNums_data, strOfNums_data]; exact h)))
  · rintro rfl; rfl
theorem pnumber15_str (zs : List Int) (w : World) (hb : ∀ z ∈ zs, isByte z) (hl : zs.length ≤ 4) :
    Calls Tryd.prog 37 #[.string (strOfNums zs)] w fun e w' => e = .returned (.int .i64 (numN zs)) ∧ w = w' := by
  have := pnumber15_any (strOfNums zs) w (by rw [strOfNums_size]; exact hl)
  rw [strB_str hb] at this
  exact this
theorem rnumber15_str (zs : List Int) (w : World) (hb : ∀ z ∈ zs, isByte z) (hl : zs.length ≤ 4) :
    Calls Tryd.prog 38 #[.string (strOfNums zs)] w fun e w' => e = .returned (.int .i64 (numR zs)) ∧ w = w' := by
  have := rnumber15_any (strOfNums zs) w (by rw [strOfNums_size]; exact hl)
  rw [strB_str hb] at this
  exact this

end Go.Proofs.YtfdadebddfhpdaaDoor
