/- The walks over the reference's number, value, Put, Get of layer 2. -/
import Derived.Test.YtifhjmhekapaoaaDoorStampAll
import Derived.Test.YtifhjmhekapaoaaDoorStampRef
import Derived.Deep.RegionWith
import Derived.Deep.DrawnRows
import Derived.Laws.Concat
import Derived.Lib.ConvBytes
namespace Go.Proofs.YtifhjmhekapaoaaDoor
set_option maxRecDepth 100000
open Go.RowKit
set_option linter.unusedVariables false

set_option maxHeartbeats 400000 in
theorem value_any (a : Addr) (cap : Nat) (zs : List Int) (w : World) (hz : zs.length ≤ 7) (hb : ∀ z ∈ zs, isByte z)
    (hc : ∀ i, i < zs.length → w.cell? (a.add i) = some (.int .u8 (zs.getD i 0))) :
    Calls Tryd.prog 69 #[.slice (some a) zs.length cap] w fun e w' => e = .returned (.int .i64 (beN zs)) ∧ w = w' := by
  have HC := Lib.hid hc
  have HB := Lib.hid hb
  clear hc hb
  go_enter Tryd.func69, Tryd.ntmps69
  go_wp2
  go_loop [3, 4] (fun n i => ∃ k : Nat, k ≤ zs.length ∧ i = .int .i64 k ∧ n = .int .i64 (beN (zs.take k))) (fun _ i => zs.length - (intOf i).toNat)
  case atStart => exact ⟨0, Nat.zero_le _, rfl, rfl⟩
  case round =>
    obtain ⟨k, hk, rfl, rfl⟩ := hrel
    by_cases hlt : k < zs.length
    · obtain ⟨z, HZ⟩ : ∃ z, Hid (z = zs.getD k 0) := ⟨_, Lib.hid rfl⟩
      have hcell : w.cell? (a.add k) = some (.int .u8 z) := by rw [HZ.out]; exact HC.out k hlt
      have hzb : isByte z := by rw [HZ.out]; simp only [List.getD, List.getElem?_eq_getElem hlt, Option.getD_some]; exact HB.out _ (List.getElem_mem hlt)
      have hnb := beN_bd (zs.take k) (fun y hy => HB.out y (List.mem_of_mem_take hy))
      have hnb2 : beN (zs.take k) ≤ 36028797018963967 := by
        have := beN_le6 (zs.take k) (fun y hy => HB.out y (List.mem_of_mem_take hy)) (by rw [List.length_take]; omega)
        omega
      obtain ⟨z0, z1⟩ := hzb
      obtain ⟨n0, n1⟩ := hnb
      clear n1
      have H := Lib.hid (beN_take hlt)
      rw [← HZ.out] at H
      obtain ⟨m, hm⟩ : ∃ m, beN (zs.take k) = m := ⟨_, rfl⟩
      rw [hm] at n0 hnb2 H
      rw [hm]
      clear hm
      go_wp2
      go_round
      case rel => exact ⟨k + 1, by omega, by go_num, by rw [H.out]⟩
      case measure => simp [intOf]; omega
    · go_wp2
      go_ret
      exact ⟨ret_int (by rw [List.take_of_length_le (by omega)]), rfl⟩

attribute [local go_sem ↓] Go.wp_at_zero Go.wp_at_succ
set_option maxHeartbeats 1000000 in
theorem number_any (L : Nat) : ∀ (n : Int) (w : World), 0 ≤ n → n ≤ 9223372036854775807 → L ≤ 100 →
    Calls Tryd.prog 62 #[.int .i64 n, .int .i64 L] w fun e w' => e = .returned (.string (strOfNums (beL L n))) ∧ Below w.heap.size w w' := by
  induction L with
  | zero =>
    intro n w h0 h1 hL
    go_enter Tryd.func62, Tryd.ntmps62
    go_wp2
    go_ret
    exact ⟨rfl, Below.refl _ _⟩
  | succ L ih =>
    intro n w h0 h1 hL
    have IH := Lib.hid (fun w => ih (n / 256) w (by omega) (by omega) (by omega))
    clear ih
    have hc1 := conv_one
    have eL : ((L + 1 : Nat) : Int) = (L : Int) + 1 := by omega
    rw [eL]
    clear eL
    have hL0 : ((L : Int) + 1 == 0) = false := by simp; omega
    have hL1 : (L : Int) ≤ 100 := by omega
    have hL2 : (0 : Int) ≤ (L : Int) := by omega
    go_enter Tryd.func62, Tryd.ntmps62
    go_wp2
    have q1 : IntKind.i64.wrap (n.tdiv 256) = n / 256 := by rw [Int.tdiv_eq_ediv_of_nonneg h0, IntKind.wrap_i64]; omega
    have q2 : IntKind.i64.wrap (L : Int) = (L : Int) := by rw [IntKind.wrap_i64]; omega
    have q3 : IntKind.u8.wrap (n.tmod 256) = n % 256 := by rw [Int.tmod_eq_emod_of_nonneg h0, IntKind.wrap_u8']; omega
    have hadd := add_str (beL L (n / 256)) [n % 256] (by rw [beL_length]; simp; omega)
    change ∀ w, _ = Result.ok (Value.string (strOfNums (beL (L + 1) n))) w at hadd
    go_region_with (first | (go_at_call 62; (with_reducible refine (IH.out _).mono ?_); rintro e w1 ⟨rfl, hb1⟩; have hc := bcell hb1))
    all_goals
      have HB := Lib.hid hb1
      clear hb1 hc hc1 hadd q1 q2 q3 hL0
      go_wp2
      go_ret
      refine ⟨rfl, ?_⟩
      first
        | exact bstep (bstep (bdrew (Below.refl _ w)) HB.out) (bnew _ _)
        | exact bstep (bdrew (bnew w _)) HB.out

set_option maxHeartbeats 1000000 in
theorem rput_no (s n : Int) (w : World) (hR : rightB s n = false) :
    Calls Tryd.prog 36 #[.agg #[.int .i64 s, .int .i64 n]] w fun e w' => e = .returned (.tuple #[.slice none 0 0, .int .i64 20]) ∧ Below w.heap.size w w' := by
  have HR := Lib.hid hR
  clear hR
  go_enter Tryd.func36, Tryd.ntmps36
  go_wp2_with fail
  refine (rright_any _ _ _).mono ?_
  rintro e w1 ⟨rfl, hb1⟩
  rw [HR.out]
  go_wp2
  go_ret2
  exact ⟨rfl, bstep (bnew _ _) hb1⟩

/-- what the reference's Put leaves: a slice that reads as the bytes -/
def RPutYes (zs : List Int) (w : World) (e : Ending) (w' : World) : Prop :=
  ∃ g c, w.heap.size ≤ g ∧ g < w'.heap.size ∧ (∀ i, i < zs.length → w'.cell? ⟨g, i, none⟩ = some (.int .u8 (zs.getD i 0))) ∧ Below w.heap.size w w' ∧ e = .returned (.tuple #[.slice (some ⟨g, 0, none⟩) zs.length c, .int .i64 0])

set_option maxHeartbeats 1000000 in
theorem rput_yes (s n : Int) (w : World) (hR : rightB s n = true) :
    Calls Tryd.prog 36 #[.agg #[.int .i64 s, .int .i64 n]] w (RPutYes (beL 6 s ++ beL 4 n) w) := by
  obtain ⟨⟨h0, h1⟩, h2, h3⟩ := rightB_iff.1 hR
  have HR := Lib.hid hR
  clear hR
  have N1 : Hid (∀ w, Calls Tryd.prog 62 #[.int .i64 s, .int .i64 6] w fun e w' => e = .returned (.string (strOfNums (beL 6 s))) ∧ Below w.heap.size w w') := fun w => number_any 6 s w h0 (by omega) (by omega)
  have N2 : Hid (∀ w, Calls Tryd.prog 62 #[.int .i64 n, .int .i64 4] w fun e w' => e = .returned (.string (strOfNums (beL 4 n))) ∧ Below w.heap.size w w') := fun w => number_any 4 n w h2 (by omega) (by omega)
  go_enter Tryd.func36, Tryd.ntmps36
  go_wp2_with fail
  refine (rright_any _ _ _).mono ?_
  rintro e w1 ⟨rfl, hb1⟩
  rw [HR.out]
  have k0 := (Holds.fresh w 38 #[.int .i64 s, .int .i64 n] rfl).kept hb1 (by simp)
  have c0 := k0.reads (i := 0) rfl
  have c1 := k0.reads (i := 1) rfl
  have hlt := k0.inside
  have HB1 := Lib.hid (bstep (bnew _ _) hb1)
  clear k0 hb1
  have hadd := add_str (beL 6 s) (beL 4 n) (by rw [beL_length, beL_length]; omega)
  have hconv : ∀ v, (convert 9 22 (.string (strOfNums (beL 6 s ++ beL 4 n)))).run Tryd.prog v = .ok (.slice (some ⟨v.heap.size, 0, none⟩) 10 (grownCap v 10 0 5)) (Lib.bytesWorld v 5 (strOfNums (beL 6 s ++ beL 4 n))) := by
    intro v
    have := Lib.run_convert_string_bytes v 9 22 5 (strOfNums (beL 6 s ++ beL 4 n)) Tryd.underlying9 Tryd.underlying22 Tryd.underlying5
    rw [strOfNums_size, List.length_append, beL_length, beL_length] at this
    exact this
  go_wp2
  go_region_with (first | (go_at_call 62; (with_reducible refine (N1.out _).mono ?_); rintro e w2 ⟨rfl, hb2⟩; have e0 := (hb2.cell (p := ⟨w.heap.size, 0, none⟩) hlt).trans c0; have e1 := (hb2.cell (p := ⟨w.heap.size, 1, none⟩) hlt).trans c1) | (go_at_call 62; (with_reducible refine (N2.out _).mono ?_); rintro e w3 ⟨rfl, hb3⟩))
  all_goals
    have HB := Lib.hid (bstep (bstep (bstep (bdrew HB1.out) hb2) hb3) (bytes_below w3 5 (strOfNums (beL 6 s ++ beL 4 n))))
    have HL := Lib.hid (Nat.le_trans (HB1.out).size (Nat.le_trans (show w1.heap.size ≤ w2.heap.size from hb2.size) hb3.size))
    clear hb2 hb3 e0 e1 c0 c1 hadd hconv
    go_wp2
    go_ret2
    refine ⟨w3.heap.size, grownCap w3 10 0 5, HL.out, by rw [Lib.bytesWorld_size]; omega, ?_, HB.out, by rw [List.length_append, beL_length, beL_length]; rfl⟩
    exact bytes_new w3 5 _ (fun z hz => by
      rcases List.mem_append.1 hz with h | h
      · exact beL_byte _ _ z h
      · exact beL_byte _ _ z h)

set_option maxHeartbeats 400000 in
theorem rget_short (A : Option Addr) (L C : Nat) (w : World) (hL : L ≠ 10) (hm : L ≤ maxLen) :
    Calls Tryd.prog 50 #[.slice A L C] w fun e w' => e = stampR false 0 0 ∧ Below w.heap.size w w' := by
  unfold maxLen at hm
  have hL' : ((L : Int) != 10) = true := by simp; omega
  go_enter Tryd.func50, Tryd.ntmps50
  go_wp2
  refine bodyPost_ret (v := .tuple #[.agg #[.int .i64 0, .int .i64 0], .int .i64 20]) (by simp [results, Tryd.results50, go_sem]) rfl ⟨rfl, ?_⟩
  exact bnew _ _

set_option maxHeartbeats 400000 in
theorem rget_ten (a : Addr) (C : Nat) (zs : List Int) (w : World) (hl : zs.length = 10) (hb : ∀ z ∈ zs, isByte z) (hC : 10 ≤ C)
    (hc : BytesAt w a zs) :
    Calls Tryd.prog 50 #[.slice (some a) 10 C] w fun e w' => e = stampR (rightB (beN (zs.take 6)) (beN (zs.drop 6))) (beN (zs.take 6)) (beN (zs.drop 6)) ∧ Below w.heap.size w w' := by
  have HL := Lib.hid hl
  have HBy := Lib.hid hb
  have hab : a.block < w.heap.size := by
    have := hc 0 (by omega)
    have := World.block_lt_of_cell? w _ this
    simpa [Addr.add] using this
  obtain ⟨x, HX⟩ : ∃ x, Hid (beN (zs.take 6) = x) := ⟨_, Lib.hid rfl⟩
  obtain ⟨y, HY⟩ : ∃ x, Hid (beN (zs.drop 6) = x) := ⟨_, Lib.hid rfl⟩
  rw [HX.out, HY.out]
  obtain ⟨B, HR⟩ : ∃ B, Hid (rightB x y = B) := ⟨_, Lib.hid rfl⟩
  rw [HR.out]
  have R1 : Hid (∀ v c, BytesAt v a zs → Calls Tryd.prog 69 #[.slice (some a) 6 c] v fun e w' => e = .returned (.int .i64 x) ∧ v = w') := by
    intro v c hv
    have h := value_any a c (zs.take 6) v (by rw [List.length_take]; omega) (fun z hz => HBy.out z (List.mem_of_mem_take hz)) (by
      have := hv.sub (ys := zs.take 6) 0 (fun i hi => by
        rw [List.length_take] at hi
        rw [List.getElem?_take, if_pos (by omega), Nat.zero_add])
      rw [Addr.add_zero'] at this
      exact this)
    rw [List.length_take, HL.out, HX.out] at h
    exact h
  have R2 : Hid (∀ v c, BytesAt v a zs → Calls Tryd.prog 69 #[.slice (some ⟨a.block, a.off + 6, none⟩) 4 c] v fun e w' => e = .returned (.int .i64 y) ∧ v = w') := by
    intro v c hv
    have h := value_any (a.add 6) c (zs.drop 6) v (by rw [List.length_drop, HL.out]; omega) (fun z hz => HBy.out z (List.mem_of_mem_drop hz)) (hv.sub 6 (fun i hi => by
      rw [List.getElem?_drop]))
    rw [List.length_drop, HL.out, HY.out] at h
    exact h
  have hC1 : (10 : Int) ≤ (C : Int) := by omega
  have hC2 : (6 : Int) ≤ (C : Int) := by omega
  have hC3 : ¬ C = 6 := by omega
  have HC := Lib.hid (hc.keep (bnew w (.cells #[.int .i64 0, .int .i64 0] 38)) (fun _ _ => hab))
  clear hc hl hb
  go_enter Tryd.func50, Tryd.ntmps50
  go_wp2
  have KZ := Lib.hid (Holds.fresh w 38 #[.int .i64 0, .int .i64 0] rfl)
  have HBn := Lib.hid (bnew w (.cells #[.int .i64 0, .int .i64 0] 38))
  generalize w.alloc (.cells #[.int .i64 0, .int .i64 0] 38) = w2 at *
  have hlt := (KZ.out).inside
  have KD : Hid (BytesAt w2.drew a zs) := HC.out
  have KE := Lib.hid (show BytesAt (w2.alloc (.cells #[.int .i64 0, .int .i64 0] 38)).drew a zs from (HC.out).keep (bdrew (bnew w2 _)) (fun _ _ => Nat.lt_of_lt_of_le hab (HBn.out).size))
  have c0 := (KZ.out).reads (i := 0) rfl
  go_region_held3 (fun w' => w'.cell? ⟨w.heap.size, 0, none⟩ = some (.int .i64 0)) (first | go_keep)
    (first | (go_at_call 69; (with_reducible refine (R1.out _ _ ?_).mono ?_); (first | (with_reducible exact KD.out) | (with_reducible exact KE.out)); rintro e w' ⟨rfl, rfl⟩) | (go_at_call 69; (with_reducible refine (R2.out _ _ ?_).mono ?_); (first | (with_reducible exact KD.out) | (with_reducible exact KE.out)); rintro e w' ⟨rfl, rfl⟩))
  all_goals
    have KZ3 := Lib.hid ((KZ.out).laid (.cells #[.int .i64 x, .int .i64 y] 38)).drew
    have KS3 := Lib.hid (Holds.fresh w2 38 #[.int .i64 x, .int .i64 y] rfl).drew
    have HB3 := Lib.hid (bdrew (bstep HBn.out (bnew w2 (.cells #[.int .i64 x, .int .i64 y] 38))))
    clear R1 R2 KD KE c0 KZ HBn HC
    generalize (w2.alloc (.cells #[.int .i64 x, .int .i64 y] 38)).drew = W3 at *
    have c0 := (KS3.out).reads (i := 0) rfl
    have c1 := (KS3.out).reads (i := 1) rfl
    have k0 := (KZ3.out).reads (i := 0) rfl
    go_wp2_with fail
    refine (rright_any x y _).mono ?_
    rintro e w4 ⟨rfl, hb4⟩
    rw [HR.out]
    have KZ4 := Lib.hid ((KZ3.out).kept hb4 (KZ3.out).inside)
    have KS4 := Lib.hid ((KS3.out).kept hb4 (KS3.out).inside)
    have HB4 := Lib.hid (bstep HB3.out hb4)
    clear c0 c1 k0 KZ3 KS3 HB3 hb4
    have c0 := (KS4.out).reads (i := 0) rfl
    have c1 := (KS4.out).reads (i := 1) rfl
    have k0 := (KZ4.out).reads (i := 0) rfl
    have k1 := (KZ4.out).reads (i := 1) rfl
    have f0 := (KZ4.out).open_ 0
    have f1 := (KZ4.out).open_ 1
    cases B
    · go_wp2
      refine bodyPost_ret (v := .tuple #[.agg #[.int .i64 0, .int .i64 0], .int .i64 20]) (by simp [results, Tryd.results50, go_sem, k0, k1]) rfl ⟨rfl, ?_⟩
      exact ((HB4.out).setCell (Nat.le_refl _) _).setCell (Nat.le_refl _) _
    · go_wp2
      refine bodyPost_ret (v := .tuple #[.agg #[.int .i64 x, .int .i64 y], .int .i64 0]) (by simp [results, Tryd.results50, go_sem, k0, k1]) rfl ⟨rfl, ?_⟩
      exact ((HB4.out).setCell (Nat.le_refl _) _).setCell (Nat.le_refl _) _

end Go.Proofs.YtifhjmhekapaoaaDoor
