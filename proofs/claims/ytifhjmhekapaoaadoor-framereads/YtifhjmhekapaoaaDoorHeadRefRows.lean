/- The walks over the reference's two, eight, value, signed. -/
import Derived.Test.YtifhjmhekapaoaaDoorHeadForm
import Derived.Deep.RegionWith
import Derived.Deep.DrawnRows
import Derived.BigRegion
namespace Go.Proofs.YtifhjmhekapaoaaDoor
set_option maxRecDepth 100000
open Go.RowKit
set_option linter.unusedVariables false

theorem conv_two (w : World) (g : Nat) (y z : Int) (h0 : w.cell? ⟨g, 0, none⟩ = some (.int .u8 y)) (h1 : w.cell? ⟨g, 1, none⟩ = some (.int .u8 z)) :
    (convert 22 9 (.slice (some ⟨g, 0, none⟩) 2 2)).run Tryd.prog w = .ok (.string (strOfNums [y, z])) w :=
  run_convert_bytes_arg w 22 5 Tryd.underlying22 Tryd.underlying5 g 0 2 2 [y, z] rfl (fun i hi => by
    match i, hi with
    | 0, _ => exact h0
    | 1, _ => exact h1) 9 Tryd.underlying9

set_option maxHeartbeats 400000 in
theorem two_any (n : Int) (w : World) (h0 : 0 ≤ n) (h1 : n ≤ 65535) :
    Calls Tryd.prog 60 #[.int .i64 n] w fun e w' => e = .returned (.string (strOfNums (beL 2 n))) ∧ Below w.heap.size w w' := by
  have HX : Hid (strOfNums (beL 2 n) = strOfNums [n / 256, n % 256]) := by
    rw [Hid]; simp only [beL, List.nil_append, List.singleton_append]; rw [show n / 256 % 256 = n / 256 by omega]
  rw [HX.out]
  have hconv := fun v c0 c1 => conv_two v w.heap.size (n / 256) (n % 256) c0 c1
  have hcv : (convert 22 9 (.slice (some ⟨w.heap.size, 0, none⟩) 2 2)).run Tryd.prog (w.alloc (.cells #[.int .u8 (n / 256), .int .u8 (n % 256)] 5)) = .ok (.string (strOfNums [n / 256, n % 256])) (w.alloc (.cells #[.int .u8 (n / 256), .int .u8 (n % 256)] 5)) :=
    hconv _ ((Holds.fresh w 5 #[.int .u8 (n / 256), .int .u8 (n % 256)] rfl).reads (i := 0) rfl) ((Holds.fresh w 5 #[.int .u8 (n / 256), .int .u8 (n % 256)] rfl).reads (i := 1) rfl)
  clear hconv
  go_enter Tryd.func60, Tryd.ntmps60
  go_wp2
  go_ret
  exact ⟨rfl, bnew _ _⟩

/-- the bytes of a number, the highest at the front -/
theorem beL_front (L : Nat) (n : Int) : beL (L + 1) n = (n / 256 ^ L % 256) :: beL L n := by
  induction L generalizing n with
  | zero => simp [beL]
  | succ L ih =>
    rw [beL, ih (n / 256)]
    have e : n / 256 / 256 ^ L = n / 256 ^ (L + 1) := by
      rw [Int.pow_succ, Int.mul_comm, Int.ediv_ediv_of_nonneg (by omega)]
    rw [e]
    simp [beL]

set_option maxHeartbeats 1000000 in
theorem eight_any (n : Int) (w : World) :
    Calls Tryd.prog 61 #[.int .i64 n] w fun e w' => e = .returned (.string (strOfNums (beL 8 n))) ∧ Below w.heap.size w w' := by
  have hc1 := Lib.hid conv_one
  go_enter Tryd.func61, Tryd.ntmps61
  go_wp2
  go_loopw [0, 3, 4] (fun m s i v => ∃ k : Nat, k ≤ 8 ∧ i = .int .i64 k ∧ m = .int .i64 (n / 256 ^ k) ∧ s = .string (strOfNums (beL k n)) ∧ Hid (Below w.heap.size w v)) (fun _ _ i _ => 8 - (intOf i).toNat)
  case atStart =>
    refine ⟨0, by omega, rfl, by simp, ?_, Lib.hid (Below.refl _ _)⟩
    rfl
  case round =>
    obtain ⟨k, hk, rfl, rfl, rfl, HB⟩ := hrel
    by_cases hlt : k < 8
    · have HF := Lib.hid (beL_front k n)
      have HP : Hid (n / 256 ^ k / 256 = n / 256 ^ (k + 1)) := by
        rw [Hid, Int.pow_succ, Int.ediv_ediv_of_nonneg (by exact Int.le_of_lt (Int.pow_pos (by omega)))]
      obtain ⟨m, hm⟩ : ∃ m, n / 256 ^ k = m := ⟨_, rfl⟩
      rw [hm] at HF HP ⊢
      have ha := i64_and255 m
      obtain ⟨z, hz⟩ : ∃ z, m % 256 = z := ⟨_, rfl⟩
      have z0 : 0 ≤ z := by omega
      have z1 : z ≤ 255 := by omega
      rw [hz] at ha HF
      have hcv := (hc1.out) (wr.alloc (.cells #[.int .u8 z] 5)) wr.heap.size z ((Holds.fresh wr 5 #[.int .u8 z] rfl).reads (i := 0) rfl)
      have hadd := add_str [z] (beL k n) (by rw [beL_length]; simp; omega)
      obtain ⟨S1, HS1⟩ : ∃ S, Hid (strOfNums [z] = S) := ⟨_, Lib.hid rfl⟩
      obtain ⟨S2, HS2⟩ : ∃ S, Hid (strOfNums (beL k n) = S) := ⟨_, Lib.hid rfl⟩
      obtain ⟨S3, HS3⟩ : ∃ S, Hid (strOfNums ([z] ++ beL k n) = S) := ⟨_, Lib.hid rfl⟩
      rw [HS1.out] at hcv hadd
      rw [HS2.out] at hadd ⊢
      rw [HS3.out] at hadd
      clear hm hz
      go_wp2
      go_roundw
      case rel =>
        refine ⟨k + 1, by omega, by go_num, by rw [HP.out], ?_, Lib.hid (bstep HB.out (bnew _ _))⟩
        rw [HF.out, ← HS3.out]
        rfl
      case measure => simp [intOf]; omega
    · obtain rfl : k = 8 := by omega
      go_wp2
      go_ret
      exact ⟨rfl, HB.out⟩

set_option maxHeartbeats 1000000 in
theorem value5_any (a : Addr) (L C : Nat) (k : Nat) (zs : List Int) (w : World) (hlen : zs.length = L) (hk : k + 1 < L) (hM : L ≤ maxLen) (hb : ∀ z ∈ zs, isByte z) (hc : BytesAt w a zs) :
    Calls Tryd.prog 24 #[.slice (some a) L C, .int .i64 k] w fun e w' => e = .returned (.int .i64 (zs.getD k 0 * 256 + zs.getD (k + 1) 0)) ∧ Below w.heap.size w w' := by
  unfold maxLen at hM
  have c0 := hc k (by omega)
  have c1 := hc (k + 1) (by omega)
  rw [Addr.add, if_neg (by omega)] at c1
  have b0 := getD_byte hb k
  have b1 := getD_byte hb (k + 1)
  obtain ⟨y, hy⟩ : ∃ y, zs.getD k 0 = y := ⟨_, rfl⟩
  obtain ⟨z, hz⟩ : ∃ y, zs.getD (k + 1) 0 = y := ⟨_, rfl⟩
  rw [hy] at c0 b0 ⊢
  rw [hz] at c1 b1 ⊢
  obtain ⟨b00, b01⟩ := b0
  obtain ⟨b10, b11⟩ := b1
  have hL1 : (k : Int) < (L : Int) := by omega
  have hL2 : (k : Int) + 1 < (L : Int) := by omega
  have hL3 : (L : Int) ≤ 9223372036854775807 := by omega
  clear hy hz hc hb hlen
  go_enter Tryd.func24, Tryd.ntmps24
  go_wp2
  go_region
  all_goals
    go_wp2
    go_ret
    exact ⟨rfl, bdrew (Below.refl _ _)⟩

/-- the number with a sign of the first bytes -/
def sgN (zs : List Int) (k : Nat) : Int := beN (zs.take k) - (if 127 < zs.getD 0 0 then 256 ^ k else 0)
theorem sgN_succ (zs : List Int) {k : Nat} (hk : k < zs.length) : sgN zs (k + 1) = sgN zs k * 256 + zs.getD k 0 := by
  unfold sgN
  rw [beN_take hk]
  split
  · rw [Int.pow_succ]; omega
  · omega
theorem sgN_bd (z0 z1 z2 z3 z4 z5 z6 z7 : Int) (l0 : 0 ≤ z0) (h0 : z0 ≤ 255) (l1 : 0 ≤ z1) (h1 : z1 ≤ 255) (l2 : 0 ≤ z2) (h2 : z2 ≤ 255) (l3 : 0 ≤ z3) (h3 : z3 ≤ 255) (l4 : 0 ≤ z4) (h4 : z4 ≤ 255) (l5 : 0 ≤ z5) (h5 : z5 ≤ 255) (l6 : 0 ≤ z6) (h6 : z6 ≤ 255) (l7 : 0 ≤ z7) (h7 : z7 ≤ 255) (k : Nat) (hk : 1 ≤ k) (hk2 : k ≤ 7) : -36028797018963968 ≤ sgN [z0, z1, z2, z3, z4, z5, z6, z7] k ∧ sgN [z0, z1, z2, z3, z4, z5, z6, z7] k ≤ 36028797018963967 := by
  match k, hk, hk2 with
  | 1, _, _ => simp only [sgN, beN, List.take_succ_cons, List.take_zero, List.foldl_cons, List.foldl_nil, List.getD_cons_zero]; split <;> omega
  | 2, _, _ => simp only [sgN, beN, List.take_succ_cons, List.take_zero, List.foldl_cons, List.foldl_nil, List.getD_cons_zero]; split <;> omega
  | 3, _, _ => simp only [sgN, beN, List.take_succ_cons, List.take_zero, List.foldl_cons, List.foldl_nil, List.getD_cons_zero]; split <;> omega
  | 4, _, _ => simp only [sgN, beN, List.take_succ_cons, List.take_zero, List.foldl_cons, List.foldl_nil, List.getD_cons_zero]; split <;> omega
  | 5, _, _ => simp only [sgN, beN, List.take_succ_cons, List.take_zero, List.foldl_cons, List.foldl_nil, List.getD_cons_zero]; split <;> omega
  | 6, _, _ => simp only [sgN, beN, List.take_succ_cons, List.take_zero, List.foldl_cons, List.foldl_nil, List.getD_cons_zero]; split <;> omega
  | 7, _, _ => simp only [sgN, beN, List.take_succ_cons, List.take_zero, List.foldl_cons, List.foldl_nil, List.getD_cons_zero]; split <;> omega
theorem sgN_8 (z0 z1 z2 z3 z4 z5 z6 z7 : Int) (l0 : 0 ≤ z0) (h0 : z0 ≤ 255) (l1 : 0 ≤ z1) (h1 : z1 ≤ 255) (l2 : 0 ≤ z2) (h2 : z2 ≤ 255) (l3 : 0 ≤ z3) (h3 : z3 ≤ 255) (l4 : 0 ≤ z4) (h4 : z4 ≤ 255) (l5 : 0 ≤ z5) (h5 : z5 ≤ 255) (l6 : 0 ≤ z6) (h6 : z6 ≤ 255) (l7 : 0 ≤ z7) (h7 : z7 ≤ 255) : sgN [z0, z1, z2, z3, z4, z5, z6, z7] 8 = wrap64 (beN [z0, z1, z2, z3, z4, z5, z6, z7]) := by
  simp only [sgN, beN, List.take_succ_cons, List.take_zero, List.foldl_cons, List.foldl_nil, List.getD_cons_zero]
  unfold wrap64
  split <;> omega
theorem list8 {zs : List Int} (h : zs.length = 8) : ∃ z0 z1 z2 z3 z4 z5 z6 z7, zs = [z0, z1, z2, z3, z4, z5, z6, z7] := by
  match zs, h with
  | [z0, z1, z2, z3, z4, z5, z6, z7], _ => exact ⟨z0, z1, z2, z3, z4, z5, z6, z7, rfl⟩

set_option maxHeartbeats 1000000 in
theorem signed_any (a : Addr) (C : Nat) (zs : List Int) (w : World) (hl : zs.length = 8) (hb : ∀ z ∈ zs, isByte z) (hc : BytesAt w a zs) :
    Calls Tryd.prog 25 #[.slice (some a) 8 C] w fun e w' => e = .returned (.int .i64 (wrap64 (beN zs))) ∧ w = w' := by
  obtain ⟨z0, z1, z2, z3, z4, z5, z6, z7, hzs⟩ := list8 hl
  have hy : ∀ i, isByte (zs.getD i 0) := fun i => getD_byte hb i
  have y0 := hy 0
  have y1 := hy 1
  have y2 := hy 2
  have y3 := hy 3
  have y4 := hy 4
  have y5 := hy 5
  have y6 := hy 6
  have y7 := hy 7
  rw [hzs] at y0 y1 y2 y3 y4 y5 y6 y7
  replace y0 : isByte z0 := y0
  obtain ⟨l0, h0⟩ := y0
  replace y1 : isByte z1 := y1
  obtain ⟨l1, h1⟩ := y1
  replace y2 : isByte z2 := y2
  obtain ⟨l2, h2⟩ := y2
  replace y3 : isByte z3 := y3
  obtain ⟨l3, h3⟩ := y3
  replace y4 : isByte z4 := y4
  obtain ⟨l4, h4⟩ := y4
  replace y5 : isByte z5 := y5
  obtain ⟨l5, h5⟩ := y5
  replace y6 : isByte z6 := y6
  obtain ⟨l6, h6⟩ := y6
  replace y7 : isByte z7 := y7
  obtain ⟨l7, h7⟩ := y7
  have HE : Hid (wrap64 (beN zs) = sgN zs 8) := by rw [Hid, hzs]; exact (sgN_8 _ _ _ _ _ _ _ _ l0 h0 l1 h1 l2 h2 l3 h3 l4 h4 l5 h5 l6 h6 l7 h7).symm
  have HBd : Hid (∀ k, 1 ≤ k → k ≤ 7 → -36028797018963968 ≤ sgN zs k ∧ sgN zs k ≤ 36028797018963967) := by rw [hzs]; exact fun k => sgN_bd _ _ _ _ _ _ _ _ l0 h0 l1 h1 l2 h2 l3 h3 l4 h4 l5 h5 l6 h6 l7 h7 k
  have H1 : Hid (sgN zs 1 = if 127 < z0 then z0 - 256 else z0) := by
    rw [Hid, hzs]
    simp only [sgN, beN, List.take_succ_cons, List.take_zero, List.foldl_cons, List.foldl_nil, List.getD_cons_zero]
    split <;> omega
  have HC := Lib.hid hc
  have HY := Lib.hid hy
  have HL := Lib.hid hl
  have c0 : w.cell? a = some (.int .u8 z0) := by
    have h := hc 0 (by omega)
    rw [Addr.add_zero', hzs] at h
    exact h
  rw [HE.out]
  clear hc hy hl hb hzs l1 h1 l2 h2 l3 h3 l4 h4 l5 h5 l6 h6 l7 h7
  have fin : ∀ x : Int, sgN zs 1 = x → True := fun _ _ => trivial
  clear fin
  by_cases hs : 127 < z0
  · have d : decide (127 < z0) = true := by simpa using hs
    have H1' : Hid (sgN zs 1 = z0 - 256) := by rw [Hid, H1.out, if_pos hs]
    clear H1 hs
    go_enter Tryd.func25, Tryd.ntmps25
    go_wp2
    go_loop [3, 4] (fun n i => ∃ k : Nat, 1 ≤ k ∧ k ≤ 8 ∧ i = .int .i64 k ∧ n = .int .i64 (sgN zs k)) (fun _ i => 8 - (intOf i).toNat)
    case atStart => exact ⟨1, by omega, by omega, rfl, by rw [H1'.out]⟩
    case round =>
      obtain ⟨k, hk1, hk, rfl, rfl⟩ := hrel
      clear c0 d
      by_cases hlt : k < 8
      · have c1 := HC.out k (by rw [HL.out]; exact hlt)
        have HS := Lib.hid (sgN_succ zs (k := k) (by rw [HL.out]; exact hlt))
        obtain ⟨z, hz⟩ : ∃ z, zs.getD k 0 = z := ⟨_, rfl⟩
        have by1 := HY.out k
        have bd := HBd.out k hk1 (by omega)
        rw [hz] at c1 HS by1
        obtain ⟨m, hm⟩ : ∃ m, sgN zs k = m := ⟨_, rfl⟩
        rw [hm] at HS bd ⊢
        obtain ⟨p0, p1⟩ := by1
        obtain ⟨q0, q1⟩ := bd
        clear hz hm
        go_wp2
        go_round
        case rel => exact ⟨k + 1, by omega, by omega, by go_num, by rw [HS.out]⟩
        case measure => simp [intOf]; omega
      · obtain rfl : k = 8 := by omega
        go_wp2
        go_ret
        exact ⟨rfl, rfl⟩
  · have d : decide (127 < z0) = false := by simpa using hs
    have H1' : Hid (sgN zs 1 = z0) := by rw [Hid, H1.out, if_neg hs]
    clear H1 hs
    go_enter Tryd.func25, Tryd.ntmps25
    go_wp2
    go_loop [3, 4] (fun n i => ∃ k : Nat, 1 ≤ k ∧ k ≤ 8 ∧ i = .int .i64 k ∧ n = .int .i64 (sgN zs k)) (fun _ i => 8 - (intOf i).toNat)
    case atStart => exact ⟨1, by omega, by omega, rfl, by rw [H1'.out]⟩
    case round =>
      obtain ⟨k, hk1, hk, rfl, rfl⟩ := hrel
      clear c0 d
      by_cases hlt : k < 8
      · have c1 := HC.out k (by rw [HL.out]; exact hlt)
        have HS := Lib.hid (sgN_succ zs (k := k) (by rw [HL.out]; exact hlt))
        obtain ⟨z, hz⟩ : ∃ z, zs.getD k 0 = z := ⟨_, rfl⟩
        have by1 := HY.out k
        have bd := HBd.out k hk1 (by omega)
        rw [hz] at c1 HS by1
        obtain ⟨m, hm⟩ : ∃ m, sgN zs k = m := ⟨_, rfl⟩
        rw [hm] at HS bd ⊢
        obtain ⟨p0, p1⟩ := by1
        obtain ⟨q0, q1⟩ := bd
        clear hz hm
        go_wp2
        go_round
        case rel => exact ⟨k + 1, by omega, by omega, by go_num, by rw [HS.out]⟩
        case measure => simp [intOf]; omega
      · obtain rfl : k = 8 := by omega
        go_wp2
        go_ret
        exact ⟨rfl, rfl⟩

end Go.Proofs.YtifhjmhekapaoaaDoor
