/- The walks over stamp.write, read, Put, Get. -/
import Derived.Test.YtaeefaembfgfhaaStampPlain
import Derived.Test.YtaeefaembfgfhaaBytes
import Derived.Deep.RegionHeld3
import Derived.Laws.CopyOwn
namespace Go.Proofs.Ytaeefaembfgfhaa
open Go.RowKit
set_option linter.unusedVariables false

set_option maxHeartbeats 400000 in
theorem read_any (a : Addr) (cap : Nat) (zs : List Int) (w : World) (hz : zs.length ≤ 7) (hb : ∀ z ∈ zs, isByte z)
    (hc : ∀ i, i < zs.length → w.cell? (a.add i) = some (.int .u8 (zs.getD i 0))) :
    Calls Try.prog 36 #[.slice (some a) zs.length cap] w fun e w' => e = .returned (.int .i64 (beN zs)) ∧ w = w' := by
  have HC := Lib.hid hc
  have HB := Lib.hid hb
  clear hc hb
  go_enter Try.func36, Try.ntmps36
  go_wp2
  go_loop [3, 8] (fun n i => ∃ k : Nat, k ≤ zs.length ∧ i = .int .i64 k ∧ n = .int .i64 (beN (zs.take k))) (fun _ i => zs.length - (intOf i).toNat)
  case atStart => exact ⟨0, Nat.zero_le _, rfl, rfl⟩
  case round =>
    obtain ⟨k, hk, rfl, rfl⟩ := hrel
    by_cases hlt : k < zs.length
    · obtain ⟨z, HZ⟩ : ∃ z, Hid (z = zs.getD k 0) := ⟨_, Lib.hid rfl⟩
      have hcell : w.cell? (a.add k) = some (.int .u8 z) := by rw [HZ.out]; exact HC.out k hlt
      have hzb : isByte z := by rw [HZ.out]; simp only [List.getD, List.getElem?_eq_getElem hlt, Option.getD_some]; exact HB.out _ (List.getElem_mem hlt)
      have hnb := beN_bd (zs.take k) (fun y hy => HB.out y (List.mem_of_mem_take hy))
      have hnb2 : beN (zs.take k) ≤ 36028797018963967 := by
        have := beN_le6 (zs.take k) (fun y hy => HB.out y (List.mem_of_mem_take hy)) (by rw [List.length_take]; omega)
        omega
      obtain ⟨z0, z1⟩ := hzb
      obtain ⟨n0, n1⟩ := hnb
      clear n1
      have H := Lib.hid (beN_take hlt)
      rw [← HZ.out] at H
      obtain ⟨m, hm⟩ : ∃ m, beN (zs.take k) = m := ⟨_, rfl⟩
      rw [hm] at n0 hnb2 H
      rw [hm]
      have ho := i64_or_join m z n0 hnb2 z0 z1
      clear hm
      go_wp2
      go_round
      case rel => exact ⟨k + 1, by omega, by go_num, by rw [H.out]⟩
      case measure => simp [intOf]; omega
    · go_wp2
      go_ret
      exact ⟨ret_int (by rw [List.take_of_length_le (by omega)]), rfl⟩


/-- the world behind write of six bytes, and of four behind them -/
def put6 (w : World) (g : Nat) (n : Int) : World :=
  (((((w.setCell ⟨g, 5, none⟩ (.int .u8 (n % 256))).setCell ⟨g, 4, none⟩ (.int .u8 (n / 256 % 256))).setCell ⟨g, 3, none⟩ (.int .u8 (n / 256 / 256 % 256))).setCell ⟨g, 2, none⟩ (.int .u8 (n / 256 / 256 / 256 % 256))).setCell ⟨g, 1, none⟩ (.int .u8 (n / 256 / 256 / 256 / 256 % 256))).setCell ⟨g, 0, none⟩ (.int .u8 (n / 256 / 256 / 256 / 256 / 256 % 256))
def put4 (w : World) (g : Nat) (n : Int) : World :=
  (((w.setCell ⟨g, 9, none⟩ (.int .u8 (n % 256))).setCell ⟨g, 8, none⟩ (.int .u8 (n / 256 % 256))).setCell ⟨g, 7, none⟩ (.int .u8 (n / 256 / 256 % 256))).setCell ⟨g, 6, none⟩ (.int .u8 (n / 256 / 256 / 256 % 256))
theorem put6_below {B g : Nat} {w0 w : World} (h : Below B w0 w) (hg : B ≤ g) (n : Int) : Below B w0 (put6 w g n) := by
  unfold put6
  exact (((((h.setCell hg _).setCell hg _).setCell hg _).setCell hg _).setCell hg _).setCell hg _
theorem put4_below {B g : Nat} {w0 w : World} (h : Below B w0 w) (hg : B ≤ g) (n : Int) : Below B w0 (put4 w g n) := by
  unfold put4
  exact (((h.setCell hg _).setCell hg _).setCell hg _).setCell hg _
theorem put6_aside {w : World} {g k : Nat} {t : TypeId} {cs : Array Value} (h : Holds w k t cs) (hk : g ≠ k) (n : Int) : Holds (put6 w g n) k t cs := by
  unfold put6
  exact (((((h.aside hk _).aside hk _).aside hk _).aside hk _).aside hk _).aside hk _
theorem put4_aside {w : World} {g k : Nat} {t : TypeId} {cs : Array Value} (h : Holds w k t cs) (hk : g ≠ k) (n : Int) : Holds (put4 w g n) k t cs := by
  unfold put4
  exact (((h.aside hk _).aside hk _).aside hk _).aside hk _
theorem put6_holds {w : World} {g : Nat} {t : TypeId} {x0 x1 x2 x3 x4 x5 x6 x7 x8 x9 : Value} (h : Holds w g t #[x0, x1, x2, x3, x4, x5, x6, x7, x8, x9]) (n : Int) :
    Holds (put6 w g n) g t (((beL 6 n).map (Value.int .u8)).toArray ++ #[x6, x7, x8, x9]) := by
  unfold put6
  have := (((((h.put 5 (.int .u8 (n % 256))).put 4 (.int .u8 (n / 256 % 256))).put 3 (.int .u8 (n / 256 / 256 % 256))).put 2 (.int .u8 (n / 256 / 256 / 256 % 256))).put 1 (.int .u8 (n / 256 / 256 / 256 / 256 % 256))).put 0 (.int .u8 (n / 256 / 256 / 256 / 256 / 256 % 256))
  simpa [beL] using this
theorem put4_holds {w : World} {g : Nat} {t : TypeId} {y0 y1 y2 y3 y4 y5 x6 x7 x8 x9 : Value} (h : Holds w g t #[y0, y1, y2, y3, y4, y5, x6, x7, x8, x9]) (n : Int) :
    Holds (put4 w g n) g t (#[y0, y1, y2, y3, y4, y5] ++ ((beL 4 n).map (Value.int .u8)).toArray) := by
  unfold put4
  have := (((h.put 9 (.int .u8 (n % 256))).put 8 (.int .u8 (n / 256 % 256))).put 7 (.int .u8 (n / 256 / 256 % 256))).put 6 (.int .u8 (n / 256 / 256 / 256 % 256))
  simpa [beL] using this

set_option maxHeartbeats 400000 in
theorem write6_any (g : Nat) (n : Int) (w : World) (t : TypeId) (x0 x1 x2 x3 x4 x5 x6 x7 x8 x9 : Value) (hg : Holds w g t #[x0, x1, x2, x3, x4, x5, x6, x7, x8, x9]) :
    Calls Try.prog 34 #[.slice (some ⟨g, 0, none⟩) 6 10, .int .i64 n] w fun e w' => e = .returned (.tuple #[]) ∧ put6 w g n = w' := by
  have f0 := hg.open_ 0
  have f1 := hg.open_ 1
  have f2 := hg.open_ 2
  have f3 := hg.open_ 3
  have f4 := hg.open_ 4
  have f5 := hg.open_ 5
  have c0 := hg.reads (i := 0) rfl
  have c1 := hg.reads (i := 1) rfl
  have c2 := hg.reads (i := 2) rfl
  have c3 := hg.reads (i := 3) rfl
  have c4 := hg.reads (i := 4) rfl
  have c5 := hg.reads (i := 5) rfl
  clear hg
  go_enter Try.func34, Try.ntmps34
  go_wp2
  refine wp_loop_rounds 7 ?_
  rw [rounds_succ]
  go_wp2
  rw [rounds_succ]
  go_wp2
  rw [rounds_succ]
  go_wp2
  rw [rounds_succ]
  go_wp2
  rw [rounds_succ]
  go_wp2
  rw [rounds_succ]
  go_wp2
  rw [rounds_succ]
  go_wp2
  go_end0
  exact ⟨rfl, rfl⟩

set_option maxHeartbeats 400000 in
theorem write4_any (g : Nat) (n : Int) (w : World) (t : TypeId) (x0 x1 x2 x3 x4 x5 x6 x7 x8 x9 : Value) (hg : Holds w g t #[x0, x1, x2, x3, x4, x5, x6, x7, x8, x9]) :
    Calls Try.prog 34 #[.slice (some ⟨g, 6, none⟩) 4 4, .int .i64 n] w fun e w' => e = .returned (.tuple #[]) ∧ put4 w g n = w' := by
  have f6 := hg.open_ 6
  have f7 := hg.open_ 7
  have f8 := hg.open_ 8
  have f9 := hg.open_ 9
  have c6 := hg.reads (i := 6) rfl
  have c7 := hg.reads (i := 7) rfl
  have c8 := hg.reads (i := 8) rfl
  have c9 := hg.reads (i := 9) rfl
  clear hg
  go_enter Try.func34, Try.ntmps34
  go_wp2
  refine wp_loop_rounds 5 ?_
  rw [rounds_succ]
  go_wp2
  rw [rounds_succ]
  go_wp2
  rw [rounds_succ]
  go_wp2
  rw [rounds_succ]
  go_wp2
  rw [rounds_succ]
  go_wp2
  go_end0
  exact ⟨rfl, rfl⟩

/-- bytes as cells -/
def byteCells (zs : List Int) : Array Value := (zs.map (Value.int .u8)).toArray

set_option maxHeartbeats 1000000 in
theorem put_no (s n : Int) (w : World) (hR : rightB s n = false) :
    Calls Try.prog 20 #[.agg #[.int .i64 s, .int .i64 n]] w fun e w' => e = .returned (.tuple #[.slice none 0 0, .int .i64 20]) ∧ Below w.heap.size w w' := by
  have HR := Lib.hid hR
  clear hR
  go_enter Try.func20, Try.ntmps20
  go_wp2_with fail
  refine (right_any _ _ _).mono ?_
  rintro e w1 ⟨rfl, hb1⟩
  rw [HR.out]
  go_wp2
  go_ret2
  exact ⟨rfl, bstep (bnew _ _) hb1⟩

/-- what Put leaves: a new row of ten bytes -/
def PutYes (t : TypeId) (zs : List Int) (w : World) (e : Ending) (w' : World) : Prop :=
  ∃ g, w.heap.size ≤ g ∧ Holds w' g t (byteCells zs) ∧ Below w.heap.size w w' ∧ e = .returned (.tuple #[.slice (some ⟨g, 0, none⟩) zs.length zs.length, .int .i64 0])

theorem put_done {w w2 : World} {g : Nat} {t : TypeId} {s n : Int} {z6 z7 z8 z9 : Value} (h : Holds w2 g t (((beL 6 s).map (Value.int .u8)).toArray ++ #[z6, z7, z8, z9])) :
    Holds (put4 w2 g n) g t (byteCells (beL 6 s ++ beL 4 n)) := by
  have h2 := put4_holds (w := w2) (g := g) (t := t) (y0 := .int .u8 (s / 256 / 256 / 256 / 256 / 256 % 256)) (y1 := .int .u8 (s / 256 / 256 / 256 / 256 % 256)) (y2 := .int .u8 (s / 256 / 256 / 256 % 256)) (y3 := .int .u8 (s / 256 / 256 % 256)) (y4 := .int .u8 (s / 256 % 256)) (y5 := .int .u8 (s % 256)) (x6 := z6) (x7 := z7) (x8 := z8) (x9 := z9) (by simpa [beL] using h) n
  simpa [beL, byteCells] using h2

set_option maxHeartbeats 400000 in
theorem put_yes (s n : Int) (w : World) (hR : rightB s n = true) :
    Calls Try.prog 20 #[.agg #[.int .i64 s, .int .i64 n]] w (PutYes 58 (beL 6 s ++ beL 4 n) w) := by
  have HR := Lib.hid hR
  clear hR
  go_enter Try.func20, Try.ntmps20
  go_wp2_with fail
  refine (right_any _ _ _).mono ?_
  rintro e w1 ⟨rfl, hb1⟩
  rw [HR.out]
  have k0 := (Holds.fresh w 24 #[.int .i64 s, .int .i64 n] rfl).kept hb1 (by simp)
  have hlt := k0.inside
  have K0 := Lib.hid k0
  clear k0
  have HB1 := Lib.hid (bstep (bnew _ _) hb1)
  clear hb1
  go_wp2
  have KW := Lib.hid ((K0.out).laid (.cells #[.int .u8 0, .int .u8 0, .int .u8 0, .int .u8 0, .int .u8 0, .int .u8 0, .int .u8 0, .int .u8 0, .int .u8 0, .int .u8 0] 58))
  have KG := Lib.hid (Holds.fresh w1 58 #[.int .u8 0, .int .u8 0, .int .u8 0, .int .u8 0, .int .u8 0, .int .u8 0, .int .u8 0, .int .u8 0, .int .u8 0, .int .u8 0] rfl)
  have HB2 := Lib.hid (bstep HB1.out (bnew w1 (.cells #[.int .u8 0, .int .u8 0, .int .u8 0, .int .u8 0, .int .u8 0, .int .u8 0, .int .u8 0, .int .u8 0, .int .u8 0, .int .u8 0] 58)))
  obtain ⟨g, hg⟩ : ∃ g, w1.heap.size = g := ⟨_, rfl⟩
  generalize w1.alloc _ = W at KW KG HB2 ⊢
  rw [hg] at KG hlt ⊢
  clear HB1 K0 hg
  have c0 := (KW.out).reads (i := 0) rfl
  have KGd := Lib.hid (KG.out).drew
  have KW2 := Lib.hid (put6_aside (KW.out).drew (show g ≠ w.heap.size by omega) s)
  have KC : Hid ((put6 W.drew g s).cell? ⟨w.heap.size, 0, none⟩ = some (.int .i64 s)) := (KW2.out).reads (i := 0) rfl
  have KG2 := Lib.hid (put6_holds (KG.out).drew s)
  have HB3 := Lib.hid (put6_below (bdrew HB2.out) (show w.heap.size ≤ g by omega) s)
  clear KW KG HB2
  go_region_held3 (fun w' => w'.cell? ⟨w.heap.size, 0, none⟩ = some (.int .i64 s)) (first | (with_reducible exact KC.out) | go_keep)
    (first | (go_at_call 34; refine (write6_any g s W.drew 58 _ _ _ _ _ _ _ _ _ _ KGd.out).mono ?_; rintro e w' ⟨rfl, rfl⟩))
  clear c0 KGd
  clear KC
  generalize put6 W.drew g s = W2 at KW2 KG2 HB3 ⊢
  have c1 := (KW2.out).reads (i := 1) rfl
  have KC : Hid ((put4 W2.drew g n).cell? ⟨w.heap.size, 1, none⟩ = some (.int .i64 n)) := (put4_aside (KW2.out).drew (show g ≠ w.heap.size by omega) n).reads (i := 1) rfl
  have KGd : Hid (Holds W2.drew g 58 #[.int .u8 (s / 256 / 256 / 256 / 256 / 256 % 256), .int .u8 (s / 256 / 256 / 256 / 256 % 256), .int .u8 (s / 256 / 256 / 256 % 256), .int .u8 (s / 256 / 256 % 256), .int .u8 (s / 256 % 256), .int .u8 (s % 256), .int .u8 0, .int .u8 0, .int .u8 0, .int .u8 0]) := by
    have h := (KG2.out).drew
    rw [Hid]
    simpa [beL] using h
  have KG3 := Lib.hid (put_done (n := n) (w := w) (KG2.out).drew)
  have HB4 := Lib.hid (put4_below (bdrew HB3.out) (show w.heap.size ≤ g by omega) n)
  clear KG2 HB3
  go_wp2
  go_region_held3 (fun w' => w'.cell? ⟨w.heap.size, 1, none⟩ = some (.int .i64 n)) (first | (with_reducible exact KC.out) | go_keep)
    (first | (go_at_call 34; refine (write4_any g n W2.drew 58 _ _ _ _ _ _ _ _ _ _ KGd.out).mono ?_; rintro e w' ⟨rfl, rfl⟩))
  clear KC c1 KGd KW2
  generalize put4 W2.drew g n = W3 at KG3 HB4 ⊢
  go_wp2
  go_ret2
  exact ⟨g, by omega, KG3.out, HB4.out, by simp [beL_length]⟩

end Go.Proofs.Ytaeefaembfgfhaa
