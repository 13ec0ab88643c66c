/- Parts of this proof, one behind the other: StampPlain, StampWire, StampGet. -/
import Derived.Test.YtifhjmhekapaoaaDoorWideAll
import Derived.Test.YtifhjmhekapaoaaDoorStampMath
import Derived.Test.YtifhjmhekapaoaaDoorCells
import Derived.Deep.RegionHeld3
import Derived.Laws.CopyOwn

/- The walks over stamp's plain functions: Down, Up, Scaled, Less, Right, Of, Nanos. -/
namespace Go.Proofs.YtifhjmhekapaoaaDoor
set_option maxRecDepth 100000
open Go.RowKit
set_option linter.unusedVariables false

theorem scaled_num (n : Int) (h0 : -9223372036854775808 ≤ n) (h1 : n ≤ 9223372036854775807) :
    (wrap64 (n * 65536) / 65536 = n ∧ scB n = true ∧ wrap64 (n * 65536) = n * 65536) ∨ (wrap64 (n * 65536) / 65536 ≠ n ∧ scB n = false) := by
  cases h : scB n
  · right
    refine ⟨?_, rfl⟩
    have : ¬ (-140737488355328 ≤ n ∧ n ≤ 140737488355327) := by rw [← scB_iff, h]; simp
    unfold wrap64; omega
  · left
    have := scB_iff.1 h
    exact ⟨by unfold wrap64; omega, rfl, by unfold wrap64; omega⟩

/-- two stamps are the same -/
def sameB (a b c d : Int) : Bool := (a == c) && (b == d)
theorem sameB_iff {a b c d : Int} : sameB a b c d = true ↔ a = c ∧ b = d := by unfold sameB; simp
theorem eql_stamp (a b c d : Int) (w : World) : (binOp .eql 47 (.agg #[.int .i64 a, .int .i64 b]) (.agg #[.int .i64 c, .int .i64 d])).run Tryd.prog w = .ok (.bool (sameB a b c d)) w := by
  rw [run_eql_struct, run_equalIn_agg w 9999 _ _ _ (by kernel_rfl) (by kernel_rfl)]
  unfold sameB
  cases h1 : (a == c) <;> cases h2 : (b == d) <;> go_simp

set_option maxHeartbeats 400000 in
theorem right_any (a b : Int) (w : World) :
    Calls Tryd.prog 41 #[.agg #[.int .i64 a, .int .i64 b]] w fun e w' => e = .returned (.bool (rightB a b)) ∧ Below w.heap.size w w' := by
  have heq := eql_stamp
  have H := Lib.hid (show sameB a b (clipS a 0 281474976710655) (clipS b 0 999999999) = rightB a b by
    rw [Bool.eq_iff_iff, sameB_iff]; exact rightB_clip a b)
  go_enter Tryd.func41, Tryd.ntmps41
  go_wp2
  go_quiet ((go_at_call 63; exact quiet_same (clip_any _ _ _ _)))
  go_wp2
  go_ret
  exact ⟨ret_bool H.out, bdrawn (bnew _ _) _⟩

theorem mulB_sec {s : Int} (h0 : 0 ≤ s) (h1 : s ≤ 281474976710655) : floorB s 1000000000 1 = decide (s * 1000000000 ≤ 4611686018427387904) := by
  unfold floorB smallB
  rw [Int.ediv_one]
  rw [Bool.eq_iff_iff]
  simp
  omega

end Go.Proofs.YtifhjmhekapaoaaDoor

/- The walks over stamp.write, read, Put, Get. -/
namespace Go.Proofs.YtifhjmhekapaoaaDoor
set_option maxRecDepth 100000
open Go.RowKit
set_option linter.unusedVariables false

set_option maxHeartbeats 400000 in
theorem read_any (a : Addr) (cap : Nat) (zs : List Int) (w : World) (hz : zs.length ≤ 7) (hb : ∀ z ∈ zs, isByte z)
    (hc : ∀ i, i < zs.length → w.cell? (a.add i) = some (.int .u8 (zs.getD i 0))) :
    Calls Tryd.prog 71 #[.slice (some a) zs.length cap] w fun e w' => e = .returned (.int .i64 (beN zs)) ∧ w = w' := by
  have HC := Lib.hid hc
  have HB := Lib.hid hb
  clear hc hb
  go_enter Tryd.func71, Tryd.ntmps71
  go_wp2
  go_loop [3, 8] (fun n i => ∃ k : Nat, k ≤ zs.length ∧ i = .int .i64 k ∧ n = .int .i64 (beN (zs.take k))) (fun _ i => zs.length - (intOf i).toNat)
  case atStart => exact ⟨0, Nat.zero_le _, rfl, rfl⟩
  case round =>
    obtain ⟨k, hk, rfl, rfl⟩ := hrel
    by_cases hlt : k < zs.length
    · obtain ⟨z, HZ⟩ : ∃ z, Hid (z = zs.getD k 0) := ⟨_, Lib.hid rfl⟩
      have hcell : w.cell? (a.add k) = some (.int .u8 z) := by rw [HZ.out]; exact HC.out k hlt
      have hzb : isByte z := by rw [HZ.out]; simp only [List.getD, List.getElem?_eq_getElem hlt, Option.getD_some]; exact HB.out _ (List.getElem_mem hlt)
      have hnb := beN_bd (zs.take k) (fun y hy => HB.out y (List.mem_of_mem_take hy))
      have hnb2 : beN (zs.take k) ≤ 36028797018963967 := by
        have := beN_le6 (zs.take k) (fun y hy => HB.out y (List.mem_of_mem_take hy)) (by rw [List.length_take]; omega)
        omega
      obtain ⟨z0, z1⟩ := hzb
      obtain ⟨n0, n1⟩ := hnb
      clear n1
      have H := Lib.hid (beN_take hlt)
      rw [← HZ.out] at H
      obtain ⟨m, hm⟩ : ∃ m, beN (zs.take k) = m := ⟨_, rfl⟩
      rw [hm] at n0 hnb2 H
      rw [hm]
      have ho := i64_or_join m z n0 hnb2 z0 z1
      clear hm
      go_wp2
      go_round
      case rel => exact ⟨k + 1, by omega, by go_num, by rw [H.out]⟩
      case measure => simp [intOf]; omega
    · go_wp2
      go_ret
      exact ⟨ret_int (by rw [List.take_of_length_le (by omega)]), rfl⟩


/-- the world behind write of six bytes, and of four behind them -/
def put6 (w : World) (g : Nat) (n : Int) : World :=
  (((((w.setCell ⟨g, 5, none⟩ (.int .u8 (n % 256))).setCell ⟨g, 4, none⟩ (.int .u8 (n / 256 % 256))).setCell ⟨g, 3, none⟩ (.int .u8 (n / 256 / 256 % 256))).setCell ⟨g, 2, none⟩ (.int .u8 (n / 256 / 256 / 256 % 256))).setCell ⟨g, 1, none⟩ (.int .u8 (n / 256 / 256 / 256 / 256 % 256))).setCell ⟨g, 0, none⟩ (.int .u8 (n / 256 / 256 / 256 / 256 / 256 % 256))
def put4 (w : World) (g : Nat) (n : Int) : World :=
  (((w.setCell ⟨g, 9, none⟩ (.int .u8 (n % 256))).setCell ⟨g, 8, none⟩ (.int .u8 (n / 256 % 256))).setCell ⟨g, 7, none⟩ (.int .u8 (n / 256 / 256 % 256))).setCell ⟨g, 6, none⟩ (.int .u8 (n / 256 / 256 / 256 % 256))
theorem put6_below {B g : Nat} {w0 w : World} (h : Below B w0 w) (hg : B ≤ g) (n : Int) : Below B w0 (put6 w g n) := by
  unfold put6
  exact (((((h.setCell hg _).setCell hg _).setCell hg _).setCell hg _).setCell hg _).setCell hg _
theorem put4_below {B g : Nat} {w0 w : World} (h : Below B w0 w) (hg : B ≤ g) (n : Int) : Below B w0 (put4 w g n) := by
  unfold put4
  exact (((h.setCell hg _).setCell hg _).setCell hg _).setCell hg _
theorem put6_aside {w : World} {g k : Nat} {t : TypeId} {cs : Array Value} (h : Holds w k t cs) (hk : g ≠ k) (n : Int) : Holds (put6 w g n) k t cs := by
  unfold put6
  exact (((((h.aside hk _).aside hk _).aside hk _).aside hk _).aside hk _).aside hk _
theorem put4_aside {w : World} {g k : Nat} {t : TypeId} {cs : Array Value} (h : Holds w k t cs) (hk : g ≠ k) (n : Int) : Holds (put4 w g n) k t cs := by
  unfold put4
  exact (((h.aside hk _).aside hk _).aside hk _).aside hk _
theorem put6_holds {w : World} {g : Nat} {t : TypeId} {x0 x1 x2 x3 x4 x5 x6 x7 x8 x9 : Value} (h : Holds w g t #[x0, x1, x2, x3, x4, x5, x6, x7, x8, x9]) (n : Int) :
    Holds (put6 w g n) g t (((beL 6 n).map (Value.int .u8)).toArray ++ #[x6, x7, x8, x9]) := by
  unfold put6
  have := (((((h.put 5 (.int .u8 (n % 256))).put 4 (.int .u8 (n / 256 % 256))).put 3 (.int .u8 (n / 256 / 256 % 256))).put 2 (.int .u8 (n / 256 / 256 / 256 % 256))).put 1 (.int .u8 (n / 256 / 256 / 256 / 256 % 256))).put 0 (.int .u8 (n / 256 / 256 / 256 / 256 / 256 % 256))
  simpa [beL] using this
theorem put4_holds {w : World} {g : Nat} {t : TypeId} {y0 y1 y2 y3 y4 y5 x6 x7 x8 x9 : Value} (h : Holds w g t #[y0, y1, y2, y3, y4, y5, x6, x7, x8, x9]) (n : Int) :
    Holds (put4 w g n) g t (#[y0, y1, y2, y3, y4, y5] ++ ((beL 4 n).map (Value.int .u8)).toArray) := by
  unfold put4
  have := (((h.put 9 (.int .u8 (n % 256))).put 8 (.int .u8 (n / 256 % 256))).put 7 (.int .u8 (n / 256 / 256 % 256))).put 6 (.int .u8 (n / 256 / 256 / 256 % 256))
  simpa [beL] using this

set_option maxHeartbeats 400000 in
theorem write6_any (g : Nat) (n : Int) (w : World) (t : TypeId) (x0 x1 x2 x3 x4 x5 x6 x7 x8 x9 : Value) (hg : Holds w g t #[x0, x1, x2, x3, x4, x5, x6, x7, x8, x9]) :
    Calls Tryd.prog 58 #[.slice (some ⟨g, 0, none⟩) 6 10, .int .i64 n] w fun e w' => e = .returned (.tuple #[]) ∧ put6 w g n = w' := by
  have f0 := hg.open_ 0
  have f1 := hg.open_ 1
  have f2 := hg.open_ 2
  have f3 := hg.open_ 3
  have f4 := hg.open_ 4
  have f5 := hg.open_ 5
  have c0 := hg.reads (i := 0) rfl
  have c1 := hg.reads (i := 1) rfl
  have c2 := hg.reads (i := 2) rfl
  have c3 := hg.reads (i := 3) rfl
  have c4 := hg.reads (i := 4) rfl
  have c5 := hg.reads (i := 5) rfl
  clear hg
  go_enter Tryd.func58, Tryd.ntmps58
  go_wp2
  refine wp_loop_rounds 7 ?_
  rw [rounds_succ]
  go_wp2
  rw [rounds_succ]
  go_wp2
  rw [rounds_succ]
  go_wp2
  rw [rounds_succ]
  go_wp2
  rw [rounds_succ]
  go_wp2
  rw [rounds_succ]
  go_wp2
  rw [rounds_succ]
  go_wp2
  go_end0
  exact ⟨rfl, rfl⟩

set_option maxHeartbeats 400000 in
theorem write4_any (g : Nat) (n : Int) (w : World) (t : TypeId) (x0 x1 x2 x3 x4 x5 x6 x7 x8 x9 : Value) (hg : Holds w g t #[x0, x1, x2, x3, x4, x5, x6, x7, x8, x9]) :
    Calls Tryd.prog 58 #[.slice (some ⟨g, 6, none⟩) 4 4, .int .i64 n] w fun e w' => e = .returned (.tuple #[]) ∧ put4 w g n = w' := by
  have f6 := hg.open_ 6
  have f7 := hg.open_ 7
  have f8 := hg.open_ 8
  have f9 := hg.open_ 9
  have c6 := hg.reads (i := 6) rfl
  have c7 := hg.reads (i := 7) rfl
  have c8 := hg.reads (i := 8) rfl
  have c9 := hg.reads (i := 9) rfl
  clear hg
  go_enter Tryd.func58, Tryd.ntmps58
  go_wp2
  refine wp_loop_rounds 5 ?_
  rw [rounds_succ]
  go_wp2
  rw [rounds_succ]
  go_wp2
  rw [rounds_succ]
  go_wp2
  rw [rounds_succ]
  go_wp2
  rw [rounds_succ]
  go_wp2
  go_end0
  exact ⟨rfl, rfl⟩

set_option maxHeartbeats 1000000 in
theorem put_no (s n : Int) (w : World) (hR : rightB s n = false) :
    Calls Tryd.prog 32 #[.agg #[.int .i64 s, .int .i64 n]] w fun e w' => e = .returned (.tuple #[.slice none 0 0, .int .i64 20]) ∧ Below w.heap.size w w' := by
  have HR := Lib.hid hR
  clear hR
  go_enter Tryd.func32, Tryd.ntmps32
  go_wp2_with fail
  refine (right_any _ _ _).mono ?_
  rintro e w1 ⟨rfl, hb1⟩
  rw [HR.out]
  go_wp2
  go_ret2
  exact ⟨rfl, bstep (bnew _ _) hb1⟩

/-- what Put leaves: a new row of ten bytes -/
def PutYes (t : TypeId) (zs : List Int) (w : World) (e : Ending) (w' : World) : Prop :=
  ∃ g, w.heap.size ≤ g ∧ Holds w' g t (byteCells zs) ∧ Below w.heap.size w w' ∧ e = .returned (.tuple #[.slice (some ⟨g, 0, none⟩) zs.length zs.length, .int .i64 0])

theorem put_done {w w2 : World} {g : Nat} {t : TypeId} {s n : Int} {z6 z7 z8 z9 : Value} (h : Holds w2 g t (((beL 6 s).map (Value.int .u8)).toArray ++ #[z6, z7, z8, z9])) :
    Holds (put4 w2 g n) g t (byteCells (beL 6 s ++ beL 4 n)) := by
  have h2 := put4_holds (w := w2) (g := g) (t := t) (y0 := .int .u8 (s / 256 / 256 / 256 / 256 / 256 % 256)) (y1 := .int .u8 (s / 256 / 256 / 256 / 256 % 256)) (y2 := .int .u8 (s / 256 / 256 / 256 % 256)) (y3 := .int .u8 (s / 256 / 256 % 256)) (y4 := .int .u8 (s / 256 % 256)) (y5 := .int .u8 (s % 256)) (x6 := z6) (x7 := z7) (x8 := z8) (x9 := z9) (by simpa [beL] using h) n
  simpa [beL, byteCells] using h2

set_option maxHeartbeats 400000 in
theorem put_yes (s n : Int) (w : World) (hR : rightB s n = true) :
    Calls Tryd.prog 32 #[.agg #[.int .i64 s, .int .i64 n]] w (PutYes 92 (beL 6 s ++ beL 4 n) w) := by
  have HR := Lib.hid hR
  clear hR
  go_enter Tryd.func32, Tryd.ntmps32
  go_wp2_with fail
  refine (right_any _ _ _).mono ?_
  rintro e w1 ⟨rfl, hb1⟩
  rw [HR.out]
  have k0 := (Holds.fresh w 47 #[.int .i64 s, .int .i64 n] rfl).kept hb1 (by simp)
  have hlt := k0.inside
  have K0 := Lib.hid k0
  clear k0
  have HB1 := Lib.hid (bstep (bnew _ _) hb1)
  clear hb1
  go_wp2
  have KW := Lib.hid ((K0.out).laid (.cells #[.int .u8 0, .int .u8 0, .int .u8 0, .int .u8 0, .int .u8 0, .int .u8 0, .int .u8 0, .int .u8 0, .int .u8 0, .int .u8 0] 92))
  have KG := Lib.hid (Holds.fresh w1 92 #[.int .u8 0, .int .u8 0, .int .u8 0, .int .u8 0, .int .u8 0, .int .u8 0, .int .u8 0, .int .u8 0, .int .u8 0, .int .u8 0] rfl)
  have HB2 := Lib.hid (bstep HB1.out (bnew w1 (.cells #[.int .u8 0, .int .u8 0, .int .u8 0, .int .u8 0, .int .u8 0, .int .u8 0, .int .u8 0, .int .u8 0, .int .u8 0, .int .u8 0] 92)))
  obtain ⟨g, hg⟩ : ∃ g, w1.heap.size = g := ⟨_, rfl⟩
  generalize w1.alloc _ = W at KW KG HB2 ⊢
  rw [hg] at KG hlt ⊢
  clear HB1 K0 hg
  have c0 := (KW.out).reads (i := 0) rfl
  have KGd := Lib.hid (KG.out).drew
  have KW2 := Lib.hid (put6_aside (KW.out).drew (show g ≠ w.heap.size by omega) s)
  have KC : Hid ((put6 W.drew g s).cell? ⟨w.heap.size, 0, none⟩ = some (.int .i64 s)) := (KW2.out).reads (i := 0) rfl
  have KG2 := Lib.hid (put6_holds (KG.out).drew s)
  have HB3 := Lib.hid (put6_below (bdrew HB2.out) (show w.heap.size ≤ g by omega) s)
  clear KW KG HB2
  go_region_held3 (fun w' => w'.cell? ⟨w.heap.size, 0, none⟩ = some (.int .i64 s)) (first | (with_reducible exact KC.out) | go_keep)
    (first | (go_at_call 58; refine (write6_any g s W.drew 92 _ _ _ _ _ _ _ _ _ _ KGd.out).mono ?_; rintro e w' ⟨rfl, rfl⟩))
  clear c0 KGd
  clear KC
  generalize put6 W.drew g s = W2 at KW2 KG2 HB3 ⊢
  have c1 := (KW2.out).reads (i := 1) rfl
  have KC : Hid ((put4 W2.drew g n).cell? ⟨w.heap.size, 1, none⟩ = some (.int .i64 n)) := (put4_aside (KW2.out).drew (show g ≠ w.heap.size by omega) n).reads (i := 1) rfl
  have KGd : Hid (Holds W2.drew g 92 #[.int .u8 (s / 256 / 256 / 256 / 256 / 256 % 256), .int .u8 (s / 256 / 256 / 256 / 256 % 256), .int .u8 (s / 256 / 256 / 256 % 256), .int .u8 (s / 256 / 256 % 256), .int .u8 (s / 256 % 256), .int .u8 (s % 256), .int .u8 0, .int .u8 0, .int .u8 0, .int .u8 0]) := by
    have h := (KG2.out).drew
    rw [Hid]
    simpa [beL] using h
  have KG3 := Lib.hid (put_done (n := n) (w := w) (KG2.out).drew)
  have HB4 := Lib.hid (put4_below (bdrew HB3.out) (show w.heap.size ≤ g by omega) n)
  clear KG2 HB3
  go_wp2
  go_region_held3 (fun w' => w'.cell? ⟨w.heap.size, 1, none⟩ = some (.int .i64 n)) (first | (with_reducible exact KC.out) | go_keep)
    (first | (go_at_call 58; refine (write4_any g n W2.drew 92 _ _ _ _ _ _ _ _ _ _ KGd.out).mono ?_; rintro e w' ⟨rfl, rfl⟩))
  clear KC c1 KGd KW2
  generalize put4 W2.drew g n = W3 at KG3 HB4 ⊢
  go_wp2
  go_ret2
  exact ⟨g, by omega, KG3.out, HB4.out, by simp [beL_length]⟩

end Go.Proofs.YtifhjmhekapaoaaDoor

/- The walk over stamp.Get. -/
namespace Go.Proofs.YtifhjmhekapaoaaDoor
set_option maxRecDepth 100000
open Go.RowKit
set_option linter.unusedVariables false

/-- how a stamp and an error are told -/
def stampR (B : Bool) (s n : Int) : Ending := .returned (.tuple #[.agg #[.int .i64 (told B s), .int .i64 (told B n)], .int .i64 (if B then 0 else 20)])

set_option maxHeartbeats 400000 in
theorem get_short (A : Option Addr) (L C : Nat) (w : World) (hL : L ≠ 10) (hm : L ≤ maxLen) :
    Calls Tryd.prog 66 #[.slice A L C] w fun e w' => e = stampR false 0 0 ∧ Below w.heap.size w w' := by
  unfold maxLen at hm
  have hL' : ((L : Int) != 10) = true := by simp; omega
  go_enter Tryd.func66, Tryd.ntmps66
  go_wp2
  refine bodyPost_ret (v := .tuple #[.agg #[.int .i64 0, .int .i64 0], .int .i64 20]) (by simp [results, Tryd.results66, go_sem]) rfl ⟨rfl, ?_⟩
  exact bstep (bnew _ _) (bnew _ _)

set_option maxHeartbeats 400000 in
theorem get_ten (a : Addr) (C : Nat) (zs : List Int) (w : World) (hl : zs.length = 10) (hb : ∀ z ∈ zs, isByte z)
    (hc : ∀ i, i < 10 → w.cell? (a.add i) = some (.int .u8 (zs.getD i 0))) :
    Calls Tryd.prog 66 #[.slice (some a) 10 C] w fun e w' => e = stampR (rightB (beN (zs.take 6)) (beN (zs.drop 6))) (beN (zs.take 6)) (beN (zs.drop 6)) ∧ Below w.heap.size w w' := by
  have HC : Hid (∀ j v, (zs.map (Value.int .u8))[j]? = some v → (((w.alloc (.cells #[.int .i64 0, .int .i64 0] 47)).alloc (.cells #[.int .u8 0, .int .u8 0, .int .u8 0, .int .u8 0, .int .u8 0, .int .u8 0, .int .u8 0, .int .u8 0, .int .u8 0, .int .u8 0] 92)).cell? (a.add j) = some v)) := by
    intro j v hv
    have hj : j < 10 := by
      have := (List.getElem?_eq_some_iff.1 hv).1
      simp at this; omega
    have hcj := hc j hj
    have hlt := World.block_lt_of_cell? w _ hcj
    rw [(bstep (bnew w _) (bnew _ _)).cell hlt, hcj]
    simp only [List.getElem?_map] at hv
    rw [List.getD, List.getElem?_eq_getElem (by omega)]
    rw [List.getElem?_eq_getElem (by omega)] at hv
    simpa using hv
  have HL := Lib.hid hl
  have HBy := Lib.hid hb
  obtain ⟨cs, HCS⟩ : ∃ cs, Hid (cs = zs.map (Value.int .u8)) := ⟨_, Lib.hid rfl⟩
  rw [← HCS.out] at HC
  have HN : Hid (cs.length = 10) := by rw [Hid, HCS.out]; simp [hl]
  have H1 : Hid (∀ v ∈ cs, v.oneCell' = true) := by
    rw [Hid, HCS.out]; intro v hv; simp at hv; obtain ⟨z, _, rfl⟩ := hv; rfl
  clear hc hl hb
  obtain ⟨x, HX⟩ : ∃ x, Hid (beN (zs.take 6) = x) := ⟨_, Lib.hid rfl⟩
  obtain ⟨y, HY⟩ : ∃ x, Hid (beN (zs.drop 6) = x) := ⟨_, Lib.hid rfl⟩
  rw [HX.out, HY.out]
  obtain ⟨B, HR⟩ : ∃ B, Hid (rightB x y = B) := ⟨_, Lib.hid rfl⟩
  rw [HR.out]
  go_enter Tryd.func66, Tryd.ntmps66
  have HF : Hid (0 + cs.length ≤ [Value.int .u8 0, .int .u8 0, .int .u8 0, .int .u8 0, .int .u8 0, .int .u8 0, .int .u8 0, .int .u8 0, .int .u8 0, .int .u8 0].length) := by rw [Hid, HN.out]; decide
  have HG := Lib.hid (Holds.fresh (w.alloc (.cells #[.int .i64 0, .int .i64 0] 47)) 92 #[.int .u8 0, .int .u8 0, .int .u8 0, .int .u8 0, .int .u8 0, .int .u8 0, .int .u8 0, .int .u8 0, .int .u8 0, .int .u8 0] (g := w.heap.size + 1) (by simp))
  have HZ := Lib.hid (((Holds.fresh w 47 #[.int .i64 0, .int .i64 0] rfl).laid (.cells #[.int .u8 0, .int .u8 0, .int .u8 0, .int .u8 0, .int .u8 0, .int .u8 0, .int .u8 0, .int .u8 0, .int .u8 0, .int .u8 0] 92)))
  have HBn := Lib.hid (bstep (bnew w (.cells #[.int .i64 0, .int .i64 0] 47)) (bnew _ (.cells #[.int .u8 0, .int .u8 0, .int .u8 0, .int .u8 0, .int .u8 0, .int .u8 0, .int .u8 0, .int .u8 0, .int .u8 0, .int .u8 0] 92)))
  go_wp2_with (with_reducible refine wpList_copy_splice rfl (.tmp 10) (.tmp 11) 22 22 rfl 5 Tryd.underlying22 (by kernel_rfl) _ _ _ _ _ _ rfl rfl (w.heap.size + 1) 0 [.int .u8 0, .int .u8 0, .int .u8 0, .int .u8 0, .int .u8 0, .int .u8 0, .int .u8 0, .int .u8 0, .int .u8 0, .int .u8 0] 92 ?_ cs ?_ ?_ ?_ H1.out (w.heap.size + 1) _ (Below.refl _ _) (Nat.le_refl _) ?_)
  · exact HG.out
  · exact HN.out
  · first | exact fun _ => HC.out | exact fun _ => ⟨rfl, a, rfl, HC.out⟩
  · exact HF.out
  intro w2 HG2 hB2
  have KG : Hid (Holds w2 (w.heap.size + 1) 92 (byteCells zs)) := by
    have h := HG2.out
    rw [splice_all _ _ (by rw [HN.out]; rfl), HCS.out] at h
    exact h
  have KZ := Lib.hid ((HZ.out).kept hB2 (by omega))
  have HB2 := Lib.hid ((HBn.out).trans (hB2.mono (by omega)))
  have c0 := (KZ.out).reads (i := 0) rfl
  clear HG2 hB2 HC HCS HN H1 HF HG HZ HBn
  have hlt := (KG.out).inside
  have KD := Lib.hid (KG.out).drew
  have KE := Lib.hid ((KG.out).laid (.cells #[.int .i64 0, .int .i64 0] 47)).drew
  have R1 : Hid (∀ v, Holds v (w.heap.size + 1) 92 (byteCells zs) → Calls Tryd.prog 71 #[.slice (some ⟨w.heap.size + 1, 0, none⟩) 6 10] v fun e w' => e = .returned (.int .i64 x) ∧ v = w') := by
    intro v hv
    have h := read_any ⟨w.heap.size + 1, 0, none⟩ 10 (zs.take 6) v (by rw [List.length_take]; omega) (fun z hz => HBy.out z (List.mem_of_mem_take hz)) (cells_of hv (fun i hi => by
      rw [List.length_take] at hi
      rw [List.getElem?_take, if_pos (by omega), Nat.zero_add]))
    rw [List.length_take, HL.out, HX.out] at h
    exact h
  have R2 : Hid (∀ v, Holds v (w.heap.size + 1) 92 (byteCells zs) → Calls Tryd.prog 71 #[.slice (some ⟨w.heap.size + 1, 6, none⟩) 4 4] v fun e w' => e = .returned (.int .i64 y) ∧ v = w') := by
    intro v hv
    have h := read_any ⟨w.heap.size + 1, 6, none⟩ 4 (zs.drop 6) v (by rw [List.length_drop, HL.out]; omega) (fun z hz => HBy.out z (List.mem_of_mem_drop hz)) (cells_of hv (fun i hi => by
      rw [List.getElem?_drop]))
    rw [List.length_drop, HL.out, HY.out] at h
    exact h
  clear KG
  go_wp2
  go_region_held3 (fun w' => w'.cell? ⟨w.heap.size, 0, none⟩ = some (.int .i64 0)) (first | go_keep)
    (first | (go_at_call 71; (with_reducible refine (R1.out _ ?_).mono ?_); (first | (with_reducible exact KD.out) | (with_reducible exact KE.out)); rintro e w' ⟨rfl, rfl⟩) | (go_at_call 71; (with_reducible refine (R2.out _ ?_).mono ?_); (first | (with_reducible exact KD.out) | (with_reducible exact KE.out)); rintro e w' ⟨rfl, rfl⟩))
  all_goals
    have KZ3 := Lib.hid ((KZ.out).laid (.cells #[.int .i64 x, .int .i64 y] 47)).drew
    have KS3 := Lib.hid (Holds.fresh w2 47 #[.int .i64 x, .int .i64 y] rfl).drew
    have HB3 := Lib.hid (bdrew (bstep HB2.out (bnew w2 (.cells #[.int .i64 x, .int .i64 y] 47))))
    clear R1 R2 KD KE c0 KZ HB2
    generalize (w2.alloc (.cells #[.int .i64 x, .int .i64 y] 47)).drew = W3 at *
    have c0 := (KS3.out).reads (i := 0) rfl
    have c1 := (KS3.out).reads (i := 1) rfl
    have k0 := (KZ3.out).reads (i := 0) rfl
    go_wp2_with fail
    refine (right_any x y _).mono ?_
    rintro e w4 ⟨rfl, hb4⟩
    rw [HR.out]
    have KZ4 := Lib.hid ((KZ3.out).kept hb4 (KZ3.out).inside)
    have KS4 := Lib.hid ((KS3.out).kept hb4 (KS3.out).inside)
    have HB4 := Lib.hid (bstep HB3.out hb4)
    clear c0 c1 k0 KZ3 KS3 HB3 hb4
    have c0 := (KS4.out).reads (i := 0) rfl
    have c1 := (KS4.out).reads (i := 1) rfl
    have k0 := (KZ4.out).reads (i := 0) rfl
    have k1 := (KZ4.out).reads (i := 1) rfl
    have f0 := (KZ4.out).open_ 0
    have f1 := (KZ4.out).open_ 1
    cases B
    · go_wp2
      refine bodyPost_ret (v := .tuple #[.agg #[.int .i64 0, .int .i64 0], .int .i64 20]) (by simp [results, Tryd.results66, go_sem, k0, k1]) rfl ⟨rfl, ?_⟩
      exact ((HB4.out).setCell (Nat.le_refl _) _).setCell (Nat.le_refl _) _
    · go_wp2
      refine bodyPost_ret (v := .tuple #[.agg #[.int .i64 x, .int .i64 y], .int .i64 0]) (by simp [results, Tryd.results66, go_sem, k0, k1]) rfl ⟨rfl, ?_⟩
      exact ((HB4.out).setCell (Nat.le_refl _) _).setCell (Nat.le_refl _) _

end Go.Proofs.YtifhjmhekapaoaaDoor
