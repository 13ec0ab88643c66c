/- The walks over head's number, lay, read, typeOf. -/
import Derived.Test.YtifhjmhekapaoaaDoorHeadRef
import Derived.Deep.DeepAppendRoom
namespace Go.Proofs.YtifhjmhekapaoaaDoor
set_option maxRecDepth 100000
open Go.RowKit
set_option linter.unusedVariables false

def laid1 (w : World) (g : Nat) (n : Int) : World := (w.setCell ⟨g, 0, none⟩ (.int .u8 (n % 256)))
theorem laid1_holds {w : World} {g : Nat} {t : TypeId} {x0 : Value} (h : Holds w g t #[x0]) (n : Int) : Holds (laid1 w g n) g t (byteCells (beL 1 n)) := by
  unfold laid1
  have := (h.put 0 (.int .u8 (n % 256)))
  simpa [beL, byteCells] using this
theorem laid1_below {B g : Nat} {w0 w : World} (h : Below B w0 w) (hg : B ≤ g) (n : Int) : Below B w0 (laid1 w g n) := by
  unfold laid1
  exact (h.setCell hg _)
theorem made_1' : madeCells #[.int .u8 0] 1 = #[.int .u8 0] := by kernel_rfl
theorem make_1' (w : World) : (Instr.makeSlice 22 (.int .i64 1) (.int .i64 1)).run Tryd.prog w = .ok (.slice (some ⟨w.heap.size, 0, none⟩) 1 1) (w.alloc (.cells #[.int .u8 0] 5)) := by
  rw [← made_1']; exact make_bytes 1 1 (by omega) (by omega) (by omega) w
set_option maxHeartbeats 1000000 in
theorem number1_any (n : Int) (w : World) :
    Calls Tryd.prog 56 #[.int .i64 n, .int .i64 1] w fun e w' => ∃ g, w.heap.size ≤ g ∧ e = .returned (.slice (some ⟨g, 0, none⟩) 1 1) ∧ Holds w' g 5 (byteCells (beL 1 n)) ∧ Below w.heap.size w w' := by
  have hmk := make_1'
  have K := Lib.hid (Holds.fresh w 5 #[.int .u8 0] rfl)
  have HB := Lib.hid (bnew w (.cells #[.int .u8 0] 5))
  go_enter Tryd.func56, Tryd.ntmps56
  go_wp2
  clear hmk
  generalize w.alloc (.cells #[.int .u8 0] 5) = W at *
  have c0 := (K.out).reads (i := 0) rfl
  have f0 := (K.out).open_ 0
  refine wp_loop_rounds 2 ?_
  rw [rounds_succ]
  go_wp2
  rw [rounds_succ]
  go_wp2
  go_ret
  exact ⟨_, Nat.le_refl _, rfl, laid1_holds K.out n, laid1_below HB.out (Nat.le_refl _) n⟩

def laid2 (w : World) (g : Nat) (n : Int) : World := ((w.setCell ⟨g, 1, none⟩ (.int .u8 (n % 256))).setCell ⟨g, 0, none⟩ (.int .u8 (n / 256 % 256)))
theorem laid2_holds {w : World} {g : Nat} {t : TypeId} {x0 x1 : Value} (h : Holds w g t #[x0, x1]) (n : Int) : Holds (laid2 w g n) g t (byteCells (beL 2 n)) := by
  unfold laid2
  have := ((h.put 1 (.int .u8 (n % 256))).put 0 (.int .u8 (n / 256 % 256)))
  simpa [beL, byteCells] using this
theorem laid2_below {B g : Nat} {w0 w : World} (h : Below B w0 w) (hg : B ≤ g) (n : Int) : Below B w0 (laid2 w g n) := by
  unfold laid2
  exact ((h.setCell hg _).setCell hg _)
theorem made_2' : madeCells #[.int .u8 0] 2 = #[.int .u8 0, .int .u8 0] := by kernel_rfl
theorem make_2' (w : World) : (Instr.makeSlice 22 (.int .i64 2) (.int .i64 2)).run Tryd.prog w = .ok (.slice (some ⟨w.heap.size, 0, none⟩) 2 2) (w.alloc (.cells #[.int .u8 0, .int .u8 0] 5)) := by
  rw [← made_2']; exact make_bytes 2 2 (by omega) (by omega) (by omega) w
set_option maxHeartbeats 1000000 in
theorem number2_any (n : Int) (w : World) :
    Calls Tryd.prog 56 #[.int .i64 n, .int .i64 2] w fun e w' => ∃ g, w.heap.size ≤ g ∧ e = .returned (.slice (some ⟨g, 0, none⟩) 2 2) ∧ Holds w' g 5 (byteCells (beL 2 n)) ∧ Below w.heap.size w w' := by
  have hmk := make_2'
  have K := Lib.hid (Holds.fresh w 5 #[.int .u8 0, .int .u8 0] rfl)
  have HB := Lib.hid (bnew w (.cells #[.int .u8 0, .int .u8 0] 5))
  go_enter Tryd.func56, Tryd.ntmps56
  go_wp2
  clear hmk
  generalize w.alloc (.cells #[.int .u8 0, .int .u8 0] 5) = W at *
  have c0 := (K.out).reads (i := 0) rfl
  have f0 := (K.out).open_ 0
  have c1 := (K.out).reads (i := 1) rfl
  have f1 := (K.out).open_ 1
  refine wp_loop_rounds 3 ?_
  rw [rounds_succ]
  go_wp2
  rw [rounds_succ]
  go_wp2
  rw [rounds_succ]
  go_wp2
  go_ret
  exact ⟨_, Nat.le_refl _, rfl, laid2_holds K.out n, laid2_below HB.out (Nat.le_refl _) n⟩

def laid4 (w : World) (g : Nat) (n : Int) : World := ((((w.setCell ⟨g, 3, none⟩ (.int .u8 (n % 256))).setCell ⟨g, 2, none⟩ (.int .u8 (n / 256 % 256))).setCell ⟨g, 1, none⟩ (.int .u8 (n / 256 / 256 % 256))).setCell ⟨g, 0, none⟩ (.int .u8 (n / 256 / 256 / 256 % 256)))
theorem laid4_holds {w : World} {g : Nat} {t : TypeId} {x0 x1 x2 x3 : Value} (h : Holds w g t #[x0, x1, x2, x3]) (n : Int) : Holds (laid4 w g n) g t (byteCells (beL 4 n)) := by
  unfold laid4
  have := ((((h.put 3 (.int .u8 (n % 256))).put 2 (.int .u8 (n / 256 % 256))).put 1 (.int .u8 (n / 256 / 256 % 256))).put 0 (.int .u8 (n / 256 / 256 / 256 % 256)))
  simpa [beL, byteCells] using this
theorem laid4_below {B g : Nat} {w0 w : World} (h : Below B w0 w) (hg : B ≤ g) (n : Int) : Below B w0 (laid4 w g n) := by
  unfold laid4
  exact ((((h.setCell hg _).setCell hg _).setCell hg _).setCell hg _)
theorem made_4' : madeCells #[.int .u8 0] 4 = #[.int .u8 0, .int .u8 0, .int .u8 0, .int .u8 0] := by kernel_rfl
theorem make_4' (w : World) : (Instr.makeSlice 22 (.int .i64 4) (.int .i64 4)).run Tryd.prog w = .ok (.slice (some ⟨w.heap.size, 0, none⟩) 4 4) (w.alloc (.cells #[.int .u8 0, .int .u8 0, .int .u8 0, .int .u8 0] 5)) := by
  rw [← made_4']; exact make_bytes 4 4 (by omega) (by omega) (by omega) w
set_option maxHeartbeats 1000000 in
theorem number4_any (n : Int) (w : World) :
    Calls Tryd.prog 56 #[.int .i64 n, .int .i64 4] w fun e w' => ∃ g, w.heap.size ≤ g ∧ e = .returned (.slice (some ⟨g, 0, none⟩) 4 4) ∧ Holds w' g 5 (byteCells (beL 4 n)) ∧ Below w.heap.size w w' := by
  have hmk := make_4'
  have K := Lib.hid (Holds.fresh w 5 #[.int .u8 0, .int .u8 0, .int .u8 0, .int .u8 0] rfl)
  have HB := Lib.hid (bnew w (.cells #[.int .u8 0, .int .u8 0, .int .u8 0, .int .u8 0] 5))
  go_enter Tryd.func56, Tryd.ntmps56
  go_wp2
  clear hmk
  generalize w.alloc (.cells #[.int .u8 0, .int .u8 0, .int .u8 0, .int .u8 0] 5) = W at *
  have c0 := (K.out).reads (i := 0) rfl
  have f0 := (K.out).open_ 0
  have c1 := (K.out).reads (i := 1) rfl
  have f1 := (K.out).open_ 1
  have c2 := (K.out).reads (i := 2) rfl
  have f2 := (K.out).open_ 2
  have c3 := (K.out).reads (i := 3) rfl
  have f3 := (K.out).open_ 3
  refine wp_loop_rounds 5 ?_
  rw [rounds_succ]
  go_wp2
  rw [rounds_succ]
  go_wp2
  rw [rounds_succ]
  go_wp2
  rw [rounds_succ]
  go_wp2
  rw [rounds_succ]
  go_wp2
  go_ret
  exact ⟨_, Nat.le_refl _, rfl, laid4_holds K.out n, laid4_below HB.out (Nat.le_refl _) n⟩

def laid8 (w : World) (g : Nat) (n : Int) : World := ((((((((w.setCell ⟨g, 7, none⟩ (.int .u8 (n % 256))).setCell ⟨g, 6, none⟩ (.int .u8 (n / 256 % 256))).setCell ⟨g, 5, none⟩ (.int .u8 (n / 256 / 256 % 256))).setCell ⟨g, 4, none⟩ (.int .u8 (n / 256 / 256 / 256 % 256))).setCell ⟨g, 3, none⟩ (.int .u8 (n / 256 / 256 / 256 / 256 % 256))).setCell ⟨g, 2, none⟩ (.int .u8 (n / 256 / 256 / 256 / 256 / 256 % 256))).setCell ⟨g, 1, none⟩ (.int .u8 (n / 256 / 256 / 256 / 256 / 256 / 256 % 256))).setCell ⟨g, 0, none⟩ (.int .u8 (n / 256 / 256 / 256 / 256 / 256 / 256 / 256 % 256)))
theorem laid8_holds {w : World} {g : Nat} {t : TypeId} {x0 x1 x2 x3 x4 x5 x6 x7 : Value} (h : Holds w g t #[x0, x1, x2, x3, x4, x5, x6, x7]) (n : Int) : Holds (laid8 w g n) g t (byteCells (beL 8 n)) := by
  unfold laid8
  have := ((((((((h.put 7 (.int .u8 (n % 256))).put 6 (.int .u8 (n / 256 % 256))).put 5 (.int .u8 (n / 256 / 256 % 256))).put 4 (.int .u8 (n / 256 / 256 / 256 % 256))).put 3 (.int .u8 (n / 256 / 256 / 256 / 256 % 256))).put 2 (.int .u8 (n / 256 / 256 / 256 / 256 / 256 % 256))).put 1 (.int .u8 (n / 256 / 256 / 256 / 256 / 256 / 256 % 256))).put 0 (.int .u8 (n / 256 / 256 / 256 / 256 / 256 / 256 / 256 % 256)))
  simpa [beL, byteCells] using this
theorem laid8_below {B g : Nat} {w0 w : World} (h : Below B w0 w) (hg : B ≤ g) (n : Int) : Below B w0 (laid8 w g n) := by
  unfold laid8
  exact ((((((((h.setCell hg _).setCell hg _).setCell hg _).setCell hg _).setCell hg _).setCell hg _).setCell hg _).setCell hg _)
theorem made_8' : madeCells #[.int .u8 0] 8 = #[.int .u8 0, .int .u8 0, .int .u8 0, .int .u8 0, .int .u8 0, .int .u8 0, .int .u8 0, .int .u8 0] := by kernel_rfl
theorem make_8' (w : World) : (Instr.makeSlice 22 (.int .i64 8) (.int .i64 8)).run Tryd.prog w = .ok (.slice (some ⟨w.heap.size, 0, none⟩) 8 8) (w.alloc (.cells #[.int .u8 0, .int .u8 0, .int .u8 0, .int .u8 0, .int .u8 0, .int .u8 0, .int .u8 0, .int .u8 0] 5)) := by
  rw [← made_8']; exact make_bytes 8 8 (by omega) (by omega) (by omega) w
set_option maxHeartbeats 1000000 in
theorem number8_any (n : Int) (w : World) :
    Calls Tryd.prog 56 #[.int .i64 n, .int .i64 8] w fun e w' => ∃ g, w.heap.size ≤ g ∧ e = .returned (.slice (some ⟨g, 0, none⟩) 8 8) ∧ Holds w' g 5 (byteCells (beL 8 n)) ∧ Below w.heap.size w w' := by
  have hmk := make_8'
  have K := Lib.hid (Holds.fresh w 5 #[.int .u8 0, .int .u8 0, .int .u8 0, .int .u8 0, .int .u8 0, .int .u8 0, .int .u8 0, .int .u8 0] rfl)
  have HB := Lib.hid (bnew w (.cells #[.int .u8 0, .int .u8 0, .int .u8 0, .int .u8 0, .int .u8 0, .int .u8 0, .int .u8 0, .int .u8 0] 5))
  go_enter Tryd.func56, Tryd.ntmps56
  go_wp2
  clear hmk
  generalize w.alloc (.cells #[.int .u8 0, .int .u8 0, .int .u8 0, .int .u8 0, .int .u8 0, .int .u8 0, .int .u8 0, .int .u8 0] 5) = W at *
  have c0 := (K.out).reads (i := 0) rfl
  have f0 := (K.out).open_ 0
  have c1 := (K.out).reads (i := 1) rfl
  have f1 := (K.out).open_ 1
  have c2 := (K.out).reads (i := 2) rfl
  have f2 := (K.out).open_ 2
  have c3 := (K.out).reads (i := 3) rfl
  have f3 := (K.out).open_ 3
  have c4 := (K.out).reads (i := 4) rfl
  have f4 := (K.out).open_ 4
  have c5 := (K.out).reads (i := 5) rfl
  have f5 := (K.out).open_ 5
  have c6 := (K.out).reads (i := 6) rfl
  have f6 := (K.out).open_ 6
  have c7 := (K.out).reads (i := 7) rfl
  have f7 := (K.out).open_ 7
  refine wp_loop_rounds 9 ?_
  rw [rounds_succ]
  go_wp2
  rw [rounds_succ]
  go_wp2
  rw [rounds_succ]
  go_wp2
  rw [rounds_succ]
  go_wp2
  rw [rounds_succ]
  go_wp2
  rw [rounds_succ]
  go_wp2
  rw [rounds_succ]
  go_wp2
  rw [rounds_succ]
  go_wp2
  rw [rounds_succ]
  go_wp2
  go_ret
  exact ⟨_, Nat.le_refl _, rfl, laid8_holds K.out n, laid8_below HB.out (Nat.le_refl _) n⟩

set_option maxHeartbeats 400000 in
theorem hread_any (a : Addr) (cap : Nat) (zs : List Int) (w : World) (hz : zs.length ≤ 8) (hb : ∀ z ∈ zs, isByte z) (hc : BytesAt w a zs) :
    Calls Tryd.prog 20 #[.slice (some a) zs.length cap] w fun e w' => e = .returned (.int .i64 (wrap64 (beN zs))) ∧ w = w' := by
  have HC := Lib.hid hc
  have HB := Lib.hid hb
  clear hc hb
  go_enter Tryd.func20, Tryd.ntmps20
  go_wp2
  go_loop [3, 8] (fun n i => ∃ k : Nat, k ≤ zs.length ∧ i = .int .i64 k ∧ n = .int .i64 (wrap64 (beN (zs.take k)))) (fun _ i => zs.length - (intOf i).toNat)
  case atStart => exact ⟨0, Nat.zero_le _, rfl, by simp [beN, wrap64]⟩
  case round =>
    obtain ⟨k, hk, rfl, rfl⟩ := hrel
    by_cases hlt : k < zs.length
    · obtain ⟨z, HZ⟩ : ∃ z, Hid (z = zs.getD k 0) := ⟨_, Lib.hid rfl⟩
      have hcell : w.cell? (a.add k) = some (.int .u8 z) := by rw [HZ.out]; exact HC.out k hlt
      have hzb : isByte z := by rw [HZ.out]; simp only [List.getD, List.getElem?_eq_getElem hlt, Option.getD_some]; exact HB.out _ (List.getElem_mem hlt)
      have hnb := beN_bd (zs.take k) (fun y hy => HB.out y (List.mem_of_mem_take hy))
      have hnb2 : beN (zs.take k) ≤ 72057594037927935 := by
        have h2 := pow256_le (show (zs.take k).length ≤ 7 by rw [List.length_take]; omega)
        have e : (256 : Int) ^ 7 = 72057594037927936 := by decide
        omega
      obtain ⟨z0, z1⟩ := hzb
      obtain ⟨n0, n1⟩ := hnb
      clear n1
      have H := Lib.hid (beN_take hlt)
      rw [← HZ.out] at H
      obtain ⟨m, hm⟩ : ∃ m, beN (zs.take k) = m := ⟨_, rfl⟩
      rw [hm] at n0 hnb2 H
      have hw : wrap64 m = m := by unfold wrap64; omega
      rw [hm, hw]
      have ho := i64_or_wrap m z n0 hnb2 z0 z1
      clear hm hw
      go_wp2
      go_round
      case rel => exact ⟨k + 1, by omega, by go_num, by rw [H.out]⟩
      case measure => simp [intOf]; omega
    · go_wp2
      go_ret
      exact ⟨ret_int' (by rw [List.take_of_length_le (by omega)]), rfl⟩

set_option maxHeartbeats 400000 in
theorem typeOf_any (a : Addr) (L cap : Nat) (z : Int) (w : World) (hL : 1 ≤ L) (hm : L ≤ maxLen) (hz : isByte z) (hc : w.cell? a = some (.int .u8 z)) :
    Calls Tryd.prog 19 #[.slice (some a) L cap] w fun e w' => e = .returned (.int .i64 (z % 16)) ∧ w = w' := by
  obtain ⟨z0, z1⟩ := hz
  have ha := and15 z z0 z1
  obtain ⟨m, hm'⟩ : ∃ m, z % 16 = m := ⟨_, rfl⟩
  have m0 : 0 ≤ m := by omega
  have m1 : m ≤ 15 := by omega
  rw [hm'] at ha ⊢
  have h1 : ¬ ((L : Int) = 0) := by omega
  have h2 : (1 : Int) ≤ (L : Int) := by omega
  unfold maxLen at hm
  clear hm'
  go_enter Tryd.func19, Tryd.ntmps19
  go_wp2
  go_ret
  exact ⟨rfl, rfl⟩

end Go.Proofs.YtifhjmhekapaoaaDoor
