/- The walks over the reference's digits and sum: rows that are built by append. -/
import Derived.Test.YtblbjljfcoeeeaaRefDig
import Derived.Maps.AppendAt
namespace Go.Proofs.Ytblbjljfcoeeeaa
set_option maxRecDepth 100000
open Go.RowKit

theorem own_ge {w : World} {base : Nat} {t : TypeId} {v : Value} {n : Nat} {xs : List Value} (h : w.ownsRow base t 1 v n xs) (k : Nat) (hk : v.ownBlock = some k) : base ≤ k := by
  rcases h.2 with ⟨rfl, _⟩ | ⟨g, cap, cur, rfl, hb, _⟩
  · simp [Value.ownBlock] at hk
  · simp [Value.ownBlock] at hk; omega

theorem info_int : (Try.prog.info? 3).map (fun i => (i.zero, i.size, i.bytes)) = some (some (.int .i64 0), 1, 8) := by kernel_rfl

/-- one append onto a row of the call's own: what is owned and what lies below -/
theorem own_step {w wr w1 : World} {o : Obj} {t : TypeId} {v v' : Value} {ds : List Int} {d : Int}
    (hown : wr.ownsRow w.heap.size t 1 v ds.length (ds.map (Value.int .i64))) (hb : Below w.heap.size w wr)
    (hown' : w1.ownsRow w.heap.size t 1 v' (ds.length + 1) (ds.map (Value.int .i64) ++ [.int .i64 d])) (hg : (wr.alloc o).grownBy w1 v.ownBlock) :
    w1.ownsRow w.heap.size t 1 v' (ds ++ [d]).length ((ds ++ [d]).map (Value.int .i64)) ∧ Below w.heap.size w w1 := by
  refine ⟨by simpa using hown', ?_⟩
  have h1 := hb.alloc hb.size o
  exact h1.grown hg (by simp; have := hb.size; omega) (own_ge hown)

/-- what digits tells -/
def DigitsOf (n : Int) (w : World) (e : Ending) (w' : World) : Prop :=
  ∃ A k c ds, e = .returned (.slice A k c) ∧ Row w' A k c ds ∧ Dig ds ∧ Trim ds ∧ val ds = n ∧ k ≤ 5 ∧ Below w.heap.size w w'

theorem digits_len {ds : List Int} {m n : Int} (hd : Dig ds) (hv : val ds + 32768 ^ ds.length * m = n) (hm : 1 ≤ m) (hn : n ≤ 9223372036854775807) : ds.length ≤ 4 := by
  rcases Nat.lt_or_ge 4 ds.length with hlt | hge
  · have h1 := pow_le (show 5 ≤ ds.length by omega)
    have h2 : (32768 : Int) ^ ds.length * 1 ≤ 32768 ^ ds.length * m := Int.mul_le_mul_of_nonneg_left hm (Int.le_of_lt (base_pos _))
    have h3 := (val_bd hd).1
    have h4 : (32768 : Int) ^ 5 = 37778931862957161709568 := by decide
    omega
  · omega
theorem digits_step {ds : List Int} {m n : Int} (hd : Dig ds) (hv : val ds + 32768 ^ ds.length * m = n) (hm : 1 ≤ m) :
    Dig (ds ++ [m % 32768]) ∧ val (ds ++ [m % 32768]) + 32768 ^ (ds ++ [m % 32768]).length * (m / 32768) = n ∧ (m / 32768 = 0 → Trim (ds ++ [m % 32768])) := by
  refine ⟨hd.snoc (by omega) (by omega), ?_, fun h0 hne => ?_⟩
  · rw [val_snoc, List.length_append, List.length_singleton, Int.pow_succ, ← hv]
    have h1 : m = m % 32768 + 32768 * (m / 32768) := by omega
    generalize m / 32768 = q at *
    generalize m % 32768 = r at *
    subst h1
    grind
  · simp; omega

set_option maxHeartbeats 1000000 in
theorem rdigits_any (n : Int) (w : World) (h0 : 0 ≤ n) (hn : n ≤ 9223372036854775807) :
    Calls Try.prog 37 #[.int .i64 n] w (DigitsOf n w) := by
  obtain ⟨i0, hi, hz0, hz1, hz2⟩ := info_parts info_int
  go_enter Try.func37, Try.ntmps37
  go_wp2
  go_loopw [0, 3] (fun x v wr => ∃ (m : Int) (ds : List Int), x = .int .i64 m ∧ 0 ≤ m ∧ m ≤ 9223372036854775807 ∧ Hid (Dig ds ∧ val ds + 32768 ^ ds.length * m = n ∧ (m = 0 → Trim ds)) ∧ ds.length ≤ 5 ∧
      wr.ownsRow w.heap.size 3 1 v ds.length (ds.map (Value.int .i64)) ∧ Below w.heap.size w wr) (fun x _ _ => (intOf x).toNat)
  case atStart => exact ⟨n, [], rfl, h0, hn, Lib.hid ⟨Dig.nil, by simp [val], fun _ => trim_nil⟩, by simp, World.ownsRow_nil _ _ _ _, Below.refl _ _⟩
  case round =>
    obtain ⟨m, ds, rfl, hm0, hm1, HD, hl, hown, hbw⟩ := hrel
    by_cases hp : 0 < m
    · have hl4 := digits_len HD.out.1 HD.out.2.1 (by omega) hn
      have hsz := hbw.size
      go_wp2_with (at_builtin; refine wpList_append_own _ rfl _ _ 70 rfl w.heap.size 3 i0 (.int .i64 0) 1 8 Try.underlying70 hi hz0 hz1 hz2 rfl (by decide) _ _ _ rfl (hown.alloc _) ⟨wr.heap.size, 0, none⟩ 1 1 [.int .i64 (m % 32768)] rfl rfl ?c1 ?c2 ?c3 ?c4 ?c5 ?_)
      case c1 =>
        intro j u hj
        match j, hj with
        | 0, hj => simp at hj; subst hj; simp [Addr.add]
      case c2 => intro u hu; simp at hu; subst hu; rfl
      case c3 => unfold maxLen; omega
      case c4 => omega
      case c5 => simp; omega
      intro v' w1 hown' hgrow _
      have R := own_step hown hbw hown' hgrow
      have D := digits_step HD.out.1 HD.out.2.1 (by omega)
      clear hown hown' hgrow hbw
      go_wp2
      go_roundw
      case rel => exact ⟨m / 32768, _, rfl, by omega, by omega, Lib.hid D, by simp; omega, R.1, R.2⟩
      case measure => simp [intOf]; omega
    · obtain rfl : m = 0 := by omega
      obtain ⟨A, c, rfl, hr⟩ := Row.own hown
      have HD1 := Lib.hid HD.out.1
      have HV : Hid (val ds = n) := by have := HD.out.2.1; rw [Int.mul_zero, Int.add_zero] at this; exact this
      have HT := Lib.hid (HD.out.2.2 rfl)
      clear HD
      go_wp2
      go_ret
      exact ⟨A, _, c, ds, rfl, hr, HD1.out, HT.out, HV.out, hl, hbw⟩

theorem val_take_any (a : List Int) (k : Nat) : val (a.take (k + 1)) = val (a.take k) + 32768 ^ k * a.getD k 0 := by
  by_cases h : k < a.length
  · exact val_take_succ h
  · rw [List.take_of_length_le (by omega), List.take_of_length_le (by omega), List.getD, List.getElem?_eq_none (by omega)]
    simp
theorem sum_step {a b ds : List Int} {k : Nat} {cy : Int} (ha : Dig a) (hb : Dig b) (hd : Dig ds) (hl : ds.length = k) (_hc0 : 0 ≤ cy) (_hc1 : cy ≤ 1)
    (hv : val ds + 32768 ^ k * cy = val (a.take k) + val (b.take k)) :
    Dig (ds ++ [(a.getD k 0 + b.getD k 0 + cy) % 32768]) ∧
    val (ds ++ [(a.getD k 0 + b.getD k 0 + cy) % 32768]) + 32768 ^ (k + 1) * ((a.getD k 0 + b.getD k 0 + cy) / 32768) = val (a.take (k + 1)) + val (b.take (k + 1)) := by
  have h1 := ha.at k
  have h2 := hb.at k
  refine ⟨hd.snoc (by omega) (by omega), ?_⟩
  rw [val_snoc, hl, val_take_any, val_take_any, Int.pow_succ]
  have h3 : a.getD k 0 + b.getD k 0 + cy = (a.getD k 0 + b.getD k 0 + cy) % 32768 + 32768 * ((a.getD k 0 + b.getD k 0 + cy) / 32768) := by omega
  generalize (a.getD k 0 + b.getD k 0 + cy) / 32768 = q at *
  generalize (a.getD k 0 + b.getD k 0 + cy) % 32768 = r at *
  have h4 : (32768 : Int) ^ k * (a.getD k 0 + b.getD k 0 + cy) = 32768 ^ k * (r + 32768 * q) := by rw [h3]
  rw [Int.mul_add, Int.mul_add, Int.mul_add] at h4
  grind

/-- what sum tells -/
def SumOf (s : Int) (most : Nat) (w : World) (e : Ending) (w' : World) : Prop :=
  ∃ A k c ds, e = .returned (.slice A k c) ∧ Row w' A k c ds ∧ Dig ds ∧ val ds = s ∧ k ≤ most ∧ Below w.heap.size w w'

set_option maxHeartbeats 2000000 in
theorem rsum_any (A B : Option Addr) (la lb ca cb : Nat) (a b : List Int) (w : World) (ha : Row w A la ca a) (hb : Row w B lb cb b) (da : Dig a) (db : Dig b) (hla : la ≤ 500) (hlb : lb ≤ 500) (most : Nat) (hm : la ≤ most) (hm' : lb ≤ most) (hm2 : most ≤ 500) :
    Calls Try.prog 57 #[.slice A la ca, .slice B lb cb] w (SumOf (val a + val b) (most + 1) w) := by
  obtain ⟨i0, hi, hz0, hz1, hz2⟩ := info_parts info_int
  have HA := Lib.hid ha
  have HB := Lib.hid hb
  have DA := Lib.hid da
  have DB := Lib.hid db
  clear ha hb da db
  go_enter Try.func57, Try.ntmps57
  go_wp2
  go_loopw [5, 6, 7] (fun v cv iv wr => ∃ (k : Nat) (cy : Int) (ds : List Int), iv = .int .i64 k ∧ cv = .int .i64 cy ∧ 0 ≤ cy ∧ cy ≤ 1 ∧ k ≤ most + 1 ∧ (k = most + 1 → cy = 0) ∧
      Hid (Dig ds ∧ ds.length = k ∧ val ds + 32768 ^ k * cy = val (a.take k) + val (b.take k)) ∧
      wr.ownsRow w.heap.size 3 1 v ds.length (ds.map (Value.int .i64)) ∧ Below w.heap.size w wr) (fun _ _ iv _ => most + 1 - (intOf iv).toNat)
  case atStart => exact ⟨0, 0, [], rfl, rfl, by omega, by omega, by omega, by omega, Lib.hid ⟨Dig.nil, rfl, by simp [val]⟩, World.ownsRow_nil _ _ _ _, Below.refl _ _⟩
  case round =>
    obtain ⟨k, cy, ds, rfl, rfl, hc0, hc1, hk, hkm, HD, hown, hbw⟩ := hrel
    have hsz := hbw.size
    by_cases hgo : k < la ∨ k < lb ∨ 0 < cy
    · have hkm' : k ≤ most := by
        rcases hgo with h | h | h
        · omega
        · omega
        · by_cases e : k = most + 1
          · have := hkm e; omega
          · omega
      clear hkm
      obtain ⟨x, hx⟩ : ∃ x, x = a.getD k 0 := ⟨_, rfl⟩
      obtain ⟨y, hy⟩ : ∃ x, x = b.getD k 0 := ⟨_, rfl⟩
      have hxb := DA.out.at k
      have hyb := DB.out.at k
      rw [← hx] at hxb
      rw [← hy] at hyb
      obtain ⟨x0, x1⟩ := hxb
      obtain ⟨y0, y1⟩ := hyb
      have S := sum_step DA.out DB.out HD.out.1 HD.out.2.1 hc0 hc1 HD.out.2.2
      rw [← hx, ← hy] at S
      have hlen := HD.out.2.1
      have HS := Lib.hid S
      have HL := Lib.hid hlen
      have hdl : ds.length ≤ 501 := by omega
      have C1 : Hid (∀ w' : World, Below w.heap.size w w' → Calls Try.prog 70 #[.slice A la ca, .int .i64 k] w' fun e w2 => e = .returned (.int .i64 x) ∧ w' = w2) :=
        fun w' hb' => (rdigit_any A la ca k a w' (HA.out.below hb') (by omega)).mono fun _ _ ⟨he, hw⟩ => ⟨he.trans (ret_int hx.symm), hw⟩
      have C2 : Hid (∀ w' : World, Below w.heap.size w w' → Calls Try.prog 70 #[.slice B lb cb, .int .i64 k] w' fun e w2 => e = .returned (.int .i64 y) ∧ w' = w2) :=
        fun w' hb' => (rdigit_any B lb cb k b w' (HB.out.below hb') (by omega)).mono fun _ _ ⟨he, hw⟩ => ⟨he.trans (ret_int hy.symm), hw⟩
      have HX : Hid (k = most → x = 0 ∧ y = 0) := by
        intro e
        have e1 := HA.out.1
        have e2 := HB.out.1
        rw [hx, hy, List.getD, List.getD, List.getElem?_eq_none (by omega), List.getElem?_eq_none (by omega)]
        exact ⟨rfl, rfl⟩
      clear S hx hy hlen HD
      have hgo' : (k < la) ∨ (¬ k < la ∧ k < lb) ∨ (¬ k < la ∧ ¬ k < lb ∧ 0 < cy) := by omega
      clear hgo
      have hbw' := hbw
      have HBW := Lib.hid hbw
      have HOWN := Lib.hid hown
      clear hbw hbw' hown
      rcases hgo' with g1 | ⟨g1, g2⟩ | ⟨g1, g2, g3⟩
      all_goals
        go_wp2_with fail
        refine (C1.out _ HBW.out).mono ?_
        rintro e w2 ⟨rfl, rfl⟩
        go_wp2_with fail
        refine (C2.out _ HBW.out).mono ?_
        rintro e w2 ⟨rfl, rfl⟩
        go_wp2_with (at_builtin; refine wpList_append_own _ rfl _ _ 70 rfl w.heap.size 3 i0 (.int .i64 0) 1 8 Try.underlying70 hi hz0 hz1 hz2 rfl (by decide) _ _ _ rfl (HOWN.out.alloc _) ⟨wr.heap.size, 0, none⟩ 1 1 [.int .i64 ((x + y + cy) % 32768)] rfl rfl ?_ ?_ ?_ ?_ ?_ ?_)
        rotate_right
        · intro v' w1 hown' hgrow _
          have R := own_step HOWN.out HBW.out hown' hgrow
          clear hown' hgrow
          go_wp2
          go_roundw
          case rel => exact ⟨k + 1, (x + y + cy) / 32768, _, by go_num, rfl, by omega, by omega, by omega, fun e => by have := HX.out (by omega); omega, Lib.hid ⟨HS.out.1, by simp [HL.out], HS.out.2⟩, R.1, R.2⟩
          case measure => simp [intOf]; omega
        · intro j u hj
          match j, hj with
          | 0, hj => simp at hj; subst hj; simp [Addr.add]
        · intro u hu; simp at hu; subst hu; rfl
        · unfold maxLen; omega
        · omega
        · simp; omega
    · obtain rfl : cy = 0 := by omega
      have g1 : ¬ k < la := by omega
      have g2 : ¬ k < lb := by omega
      have HV : Hid (val ds = val a + val b) := by
        have := HD.out.2.2
        have e1 := HA.out.1
        have e2 := HB.out.1
        rw [Int.mul_zero, Int.add_zero, List.take_of_length_le (by omega), List.take_of_length_le (by omega)] at this
        exact this
      have hlen := HD.out.2.1
      have HD1 := Lib.hid HD.out.1
      obtain ⟨A', c', rfl, hr⟩ := Row.own hown
      have hl2 : ds.length ≤ most + 1 := by omega
      clear HD hlen hgo hkm
      go_wp2
      go_ret
      exact ⟨A', _, c', ds, rfl, hr, HD1.out, HV.out, hl2, hbw⟩

end Go.Proofs.Ytblbjljfcoeeeaa
