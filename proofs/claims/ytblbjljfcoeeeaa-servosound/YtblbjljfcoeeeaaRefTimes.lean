/- The walks over the reference's times and product. -/
import Derived.Test.YtblbjljfcoeeeaaRefDigits
namespace Go.Proofs.Ytblbjljfcoeeeaa
set_option maxRecDepth 100000
open Go.RowKit

theorem times_step {a es : List Int} {k : Nat} {cy d : Int} (he : Dig es) (hl : es.length = k) (hv : val es + 32768 ^ k * cy = val (a.take k) * d) (n : Int) (hn : n = a.getD k 0 * d + cy) (_hn0 : 0 ≤ n) :
    Dig (es ++ [n % 32768]) ∧ val (es ++ [n % 32768]) + 32768 ^ (k + 1) * (n / 32768) = val (a.take (k + 1)) * d := by
  refine ⟨he.snoc (by omega) (by omega), ?_⟩
  rw [val_snoc, hl, val_take_any, Int.pow_succ]
  have h3 : a.getD k 0 * d + cy = n % 32768 + 32768 * (n / 32768) := by omega
  generalize n / 32768 = q at *
  generalize n % 32768 = r at *
  have h4 : (32768 : Int) ^ k * (a.getD k 0 * d + cy) = 32768 ^ k * (r + 32768 * q) := by rw [h3]
  grind

theorem mul_dig {x d : Int} (h0 : 0 ≤ x) (h1 : x < 32768) (g0 : 0 ≤ d) (g1 : d < 32768) : 0 ≤ x * d ∧ x * d ≤ 1073676289 := by
  refine ⟨Int.mul_nonneg h0 g0, ?_⟩
  have : x * d ≤ 32767 * 32767 := Int.mul_le_mul (by omega) (by omega) g0 (by omega)
  omega

/-- what times tells -/
def TimesOf (s : Int) (most : Nat) (w : World) (e : Ending) (w' : World) : Prop :=
  ∃ A k c ds, e = .returned (.slice A k c) ∧ Row w' A k c ds ∧ Dig ds ∧ val ds = s ∧ Trim ds ∧ k ≤ most ∧ Below w.heap.size w w'

set_option maxHeartbeats 2000000 in
theorem rtimes_any (A : Option Addr) (la ca up : Nat) (d : Int) (a : List Int) (w : World) (ha : Row w A la ca a) (da : Dig a) (hd0 : 0 ≤ d) (hd1 : d < 32768) (hla : la ≤ 300) (hup : up ≤ 300) :
    Calls Try.prog 58 #[.slice A la ca, .int .i64 d, .int .i64 up] w (TimesOf (32768 ^ up * (val a * d)) (up + la + 1) w) := by
  obtain ⟨i0, hi, hz0, hz1, hz2⟩ := info_parts info_int
  have HA := Lib.hid ha
  have DA := Lib.hid da
  clear ha da
  have hmk := fun (w : World) (hb : w.heap.size ≤ w.heap.size) => run_make_full (P := Try.prog) w w.heap.size 70 3 i0 (.int .i64 0) 1 Try.underlying70 hi hz0 hz1 .i64 .i64 up (by rw [hz2]; omega) (by unfold maxLen; omega) hb
  have HMK := Lib.hid hmk
  clear hmk
  go_enter Try.func58, Try.ntmps58
  go_wp2_with (refine wpList_make_full _ rfl _ _ 70 rfl w.heap.size 3 i0 (.int .i64 0) 1 Try.underlying70 hi hz0 hz1 .i64 .i64 _ _ up rfl rfl rfl rfl (by rw [hz2]; omega) (by unfold maxLen; omega) (Nat.le_refl _) ?_; intro w1 hown1 hg1)
  have hb1 : Below w.heap.size w w1 := (Below.refl _ w).grown hg1 (Nat.le_refl _) (fun k hk => by cases hk)
  have ho1 : w1.ownsRow w.heap.size 3 1 (.slice (some ⟨w.heap.size, 0, none⟩) up up) (List.replicate up (0 : Int)).length ((List.replicate up (0 : Int)).map (Value.int .i64)) := by
    have e : (madeCells (Value.int .i64 0).cells (up * 1)).toList = (List.replicate up (0 : Int)).map (Value.int .i64) := by
      rw [Nat.mul_one]; show (madeCells #[Value.int .i64 0] up).toList = _
      rw [toList_madeCells_one]; simp
    rw [e] at hown1
    simpa using hown1
  clear hown1 hg1 HMK
  go_loopw [7, 8, 9] (fun v cv iv wr => ∃ (k : Nat) (cy : Int) (es : List Int), iv = .int .i64 k ∧ cv = .int .i64 cy ∧ 0 ≤ cy ∧ cy ≤ 32767 ∧ k ≤ la + 1 ∧ (k = la + 1 → cy = 0) ∧
      Hid (Dig es ∧ es.length = k ∧ val es + 32768 ^ k * cy = val (a.take k) * d) ∧
      wr.ownsRow w.heap.size 3 1 v (List.replicate up (0 : Int) ++ es).length ((List.replicate up (0 : Int) ++ es).map (Value.int .i64)) ∧ Below w.heap.size w wr) (fun _ _ iv _ => la + 1 - (intOf iv).toNat)
  case atStart => exact ⟨0, 0, [], rfl, rfl, by omega, by omega, by omega, by omega, Lib.hid ⟨Dig.nil, rfl, by simp [val]⟩, by simpa using ho1, hb1⟩
  case round =>
    clear hb1 ho1
    obtain ⟨k, cy, es, rfl, rfl, hc0, hc1, hk, hkm, HD, hown, hbw⟩ := hrel
    have hsz := hbw.size
    obtain ⟨ds, hds⟩ : ∃ ds, ds = List.replicate up (0 : Int) ++ es := ⟨_, rfl⟩
    rw [← hds] at hown
    have HDS := Lib.hid hds
    have hdl : ds.length = up + k := by rw [hds]; simp [HD.out.2.1]
    have HDL := Lib.hid hdl
    have hdl' : ds.length ≤ 700 := by omega
    clear hds hdl
    by_cases hgo : k < la ∨ 0 < cy
    · have hkm' : k ≤ la := by
        rcases hgo with h | h
        · omega
        · by_cases e : k = la + 1
          · have := hkm e; omega
          · omega
      clear hkm
      obtain ⟨x, hx⟩ : ∃ x, x = a.getD k 0 := ⟨_, rfl⟩
      have hxb := DA.out.at k
      rw [← hx] at hxb
      obtain ⟨x0, x1⟩ := hxb
      obtain ⟨m, hm⟩ : ∃ m, m = x * d := ⟨_, rfl⟩
      have hmb := mul_dig x0 x1 hd0 hd1
      rw [← hm] at hmb
      obtain ⟨m0, m1⟩ := hmb
      have hwr : wrap64 (x * d) = m := by rw [← hm]; exact IntWalk.wrap64_in m ⟨by omega, by omega⟩
      have S := times_step (a := a) (d := d) HD.out.1 HD.out.2.1 HD.out.2.2 (m + cy) (by rw [hm, hx]) (by omega)
      have HS := Lib.hid S
      have HL := Lib.hid HD.out.2.1
      have C1 : Hid (∀ w' : World, Below w.heap.size w w' → Calls Try.prog 70 #[.slice A la ca, .int .i64 k] w' fun e w2 => e = .returned (.int .i64 x) ∧ w' = w2) :=
        fun w' hb' => (rdigit_any A la ca k a w' (HA.out.below hb') (by omega)).mono fun _ _ ⟨he, hw⟩ => ⟨he.trans (ret_int hx.symm), hw⟩
      have HX : Hid (k = la → m = 0) := by
        intro e
        have e1 := HA.out.1
        have : x = 0 := by
          rw [hx, List.getD, List.getElem?_eq_none (by omega)]; rfl
        rw [hm, this, Int.zero_mul]
      clear S hx HD hm
      have hgo' : (k < la) ∨ (¬ k < la ∧ 0 < cy) := by omega
      clear hgo
      have HBW := Lib.hid hbw
      have HOWN := Lib.hid hown
      clear hbw hown
      rcases hgo' with g1 | ⟨g1, g2⟩
      all_goals
        go_wp2_with fail
        refine (C1.out _ HBW.out).mono ?_
        rintro e w2 ⟨rfl, rfl⟩
        go_wp2_with (at_builtin; refine wpList_append_own _ rfl _ _ 70 rfl w.heap.size 3 i0 (.int .i64 0) 1 8 Try.underlying70 hi hz0 hz1 hz2 rfl (by decide) _ _ _ rfl (HOWN.out.alloc _) ⟨wr.heap.size, 0, none⟩ 1 1 [.int .i64 ((m + cy) % 32768)] rfl rfl ?_ ?_ ?_ ?_ ?_ ?_)
        rotate_right
        · intro v' w1 hown' hgrow _
          have R := own_step HOWN.out HBW.out hown' hgrow
          rw [HDS.out, List.append_assoc] at R
          clear hown' hgrow
          go_wp2
          go_roundw
          case rel => exact ⟨k + 1, (m + cy) / 32768, _, by go_num, rfl, by omega, by omega, by omega, fun e => by have := HX.out (by omega); omega, Lib.hid ⟨HS.out.1, by simp [HL.out], HS.out.2⟩, R.1, R.2⟩
          case measure => simp [intOf]; omega
        · intro j u hj
          match j, hj with
          | 0, hj => simp at hj; subst hj; simp [Addr.add]
        · intro u hu; simp at hu; subst hu; rfl
        · unfold maxLen; omega
        · omega
        · simp; omega
    · obtain rfl : cy = 0 := by omega
      have g1 : ¬ k < la := by omega
      have HV : Hid (Dig ds ∧ val ds = 32768 ^ up * (val a * d)) := by
        obtain ⟨e1, e2, e3⟩ := HD.out
        have e4 := HA.out.1
        rw [Int.mul_zero, Int.add_zero, List.take_of_length_le (by omega)] at e3
        refine ⟨?_, ?_⟩
        · rw [HDS.out]; exact (Dig.zeros up).append e1
        · rw [HDS.out, val_append, val_zeros, e3, List.length_replicate]; omega
      obtain ⟨A', c', rfl, hr⟩ := Row.own hown
      have hl2 : ds.length ≤ up + la + 1 := by have := HDL.out; omega
      have HR := Lib.hid hr
      clear HD hgo hkm hr hown
      go_wp2_with fail
      refine (rtrim_any A' ds.length c' ds _ HR.out (by omega)).mono ?_
      rintro e w2 ⟨m, hm, rfl, hrow, htr, hval, rfl⟩
      have HVAL := Lib.hid hval
      clear hval
      go_wp2
      go_ret
      exact ⟨A', m, c', ds.take m, rfl, hrow, HV.out.1.take m, by rw [HVAL.out, HV.out.2], htr, by omega, hbw⟩

set_option maxHeartbeats 2000000 in
theorem rproduct_any (A B : Option Addr) (la lb ca cb : Nat) (a b : List Int) (w : World) (ha : Row w A la ca a) (hb : Row w B lb cb b) (da : Dig a) (db : Dig b) (hla : la ≤ 100) (hlb : lb ≤ 100) :
    Calls Try.prog 36 #[.slice A la ca, .slice B lb cb] w (TimesOf (val a * val b) (la + lb + 1) w) := by
  have HA := Lib.hid ha
  have HB := Lib.hid hb
  have DA := Lib.hid da
  have DB := Lib.hid db
  clear ha hb da db
  go_enter Try.func36, Try.ntmps36
  go_wp2
  go_loopw [5, 6] (fun v iv wr => ∃ (k n c : Nat) (O : Option Addr) (ds : List Int), iv = .int .i64 k ∧ v = .slice O n c ∧ k ≤ lb ∧ n ≤ la + k + 1 ∧
      Hid (Dig ds ∧ val ds = val a * val (b.take k)) ∧ Hid (Row wr O n c ds) ∧ Below w.heap.size w wr) (fun _ iv _ => lb - (intOf iv).toNat)
  case atStart => exact ⟨0, 0, 0, none, [], rfl, rfl, by omega, by omega, Lib.hid ⟨Dig.nil, by simp [val]⟩, Row.empty _ _ _, Below.refl _ _⟩
  case round =>
    obtain ⟨k, n, c, O, ds, rfl, rfl, hk, hn, HD, HR, hbw⟩ := hrel
    have hsz := hbw.size
    by_cases hlt : k < lb
    · obtain ⟨_, hlc, h3⟩ := HB.out
      obtain ⟨g, rfl, hg, hc⟩ := h3 (by omega)
      obtain ⟨y, hy⟩ : ∃ y, y = b.getD k 0 := ⟨_, rfl⟩
      have c0 : wr.cell? ⟨g, k, none⟩ = some (.int .i64 y) := by rw [hbw.cell (p := ⟨g, k, none⟩) hg, hy]; exact hc k hlt
      have hyb := DB.out.at k
      rw [← hy] at hyb
      obtain ⟨y0, y1⟩ := hyb
      have HY := Lib.hid hy
      have HBW := Lib.hid hbw
      clear hy hc h3 hbw
      go_wp2_with fail
      refine (rtimes_any A la ca k y a _ (HA.out.below HBW.out) DA.out y0 y1 (by omega) (by omega)).mono ?_
      rintro e w2 ⟨A2, k2, c2, es, rfl, hr2, hd2, hv2, _, hk2, hb2⟩
      have HV2 := Lib.hid hv2
      have HR2 := Lib.hid hr2
      have HD2 := Lib.hid hd2
      clear hv2 hr2 hd2
      go_wp2_with fail
      refine (rsum_any O A2 n k2 c c2 ds es _ (HR.out.below hb2) HR2.out HD.out.1 HD2.out (by omega) (by omega) (la + k + 1) (by omega) (by omega) (by omega)).mono ?_
      rintro e w3 ⟨A3, k3, c3, fs, rfl, hr3, hd3, hv3, hk3, hb3⟩
      have HV3 := Lib.hid hv3
      have HR3 := Lib.hid hr3
      have HD3 := Lib.hid hd3
      clear hv3 hr3 hd3
      go_wp2
      go_roundw
      case rel => exact ⟨k + 1, k3, c3, A3, fs, by go_num, rfl, by omega, by omega, Lib.hid ⟨HD3.out, by
        rw [HV3.out, HV2.out, HD.out.2, val_take_any, ← HY.out]; grind⟩, HR3.out, bstep (bstep HBW.out hb2) hb3⟩
      case measure => simp [intOf]; omega
    · obtain rfl : k = lb := by omega
      have HV : Hid (val ds = val a * val b) := by
        have := HD.out.2
        have e := HB.out.1
        rw [List.take_of_length_le (by omega)] at this
        exact this
      go_wp2_with fail
      refine (rtrim_any O n c ds _ HR.out (by omega)).mono ?_
      rintro e w2 ⟨m, hm, rfl, hrow, htr, hval, rfl⟩
      have hl := HR.out.1
      have HVAL := Lib.hid hval
      have hmn : m ≤ n := by omega
      clear hval hl
      go_wp2
      go_ret
      exact ⟨O, m, c, ds.take m, rfl, hrow, HD.out.1.take m, by rw [HVAL.out, HV.out], htr, by omega, hbw⟩

end Go.Proofs.Ytblbjljfcoeeeaa
