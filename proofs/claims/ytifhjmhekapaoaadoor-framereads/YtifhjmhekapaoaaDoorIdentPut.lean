/- The walks over ident.Put and ident.Get. -/
import Derived.Test.YtifhjmhekapaoaaDoorIdentRead
import Derived.BigRegion
namespace Go.Proofs.YtifhjmhekapaoaaDoor
set_option maxRecDepth 100000
open Go.RowKit
set_option linter.unusedVariables false

/-- a port's bytes -/
def ptL (p : Pt) : List Int := p.c.l ++ beL 2 p.n
theorem ptL_length (p : Pt) : (ptL p).length = 10 := by simp [ptL, Ck.len, beL_length]
theorem ptL_lit (p : Pt) : ptL p = [p.c.b0, p.c.b1, p.c.b2, p.c.b3, p.c.b4, p.c.b5, p.c.b6, p.c.b7, p.n / 256 % 256, p.n % 256] := rfl
theorem ptL_byte (p : Pt) (h : p.c.ok) : ∀ z ∈ ptL p, isByte z := by
  intro z hz
  rcases List.mem_append.1 hz with hz | hz
  · exact h z hz
  · exact beL_byte _ _ z hz
/-- whether a number has room in two bytes -/
def fitB (n : Int) : Bool := decide (0 ≤ n) && decide (n ≤ 65535)
theorem fitB_iff {n : Int} : fitB n = true ↔ 0 ≤ n ∧ n ≤ 65535 := by unfold fitB; simp
theorem fitB_not {n : Int} : fitB n = false ↔ n < 0 ∨ 65535 < n := by unfold fitB; simp; omega

set_option maxHeartbeats 400000 in
theorem idput_no (p : Pt) (w : World) (hf : fitB p.n = false) :
    Calls Tryd.prog 33 #[.agg #[.int .u8 p.c.b0, .int .u8 p.c.b1, .int .u8 p.c.b2, .int .u8 p.c.b3, .int .u8 p.c.b4, .int .u8 p.c.b5, .int .u8 p.c.b6, .int .u8 p.c.b7, .int .i64 p.n]] w fun e w' => e = .returned (.tuple #[.slice none 0 0, .bool false]) ∧ Below w.heap.size w w' := by
  by_cases h : p.n < 0
  · have h1 : decide (p.n < 0) = true := by simpa using h
    clear hf
    go_enter Tryd.func33, Tryd.ntmps33
    go_wp2
    go_ret2
    exact ⟨rfl, bnew _ _⟩
  · have h1 : decide (p.n < 0) = false := by simpa using h
    have h2 : decide (65535 < p.n) = true := by rw [fitB_not] at hf; simp; omega
    clear hf
    go_enter Tryd.func33, Tryd.ntmps33
    go_wp2
    go_ret2
    exact ⟨rfl, bnew _ _⟩

/-- what Put leaves: a new row of bytes -/
def RowYes (zs : List Int) (w : World) (e : Ending) (w' : World) : Prop :=
  ∃ g, w.heap.size ≤ g ∧ Holds w' g 5 (byteCells zs) ∧ Below w.heap.size w w' ∧ e = .returned (.tuple #[.slice (some ⟨g, 0, none⟩) 10 10, .bool true])

def put8 (w : World) (g : Nat) (c : Ck) : World := ((((((((w.setCell ⟨g, 0, none⟩ (.int .u8 c.b0)).setCell ⟨g, 1, none⟩ (.int .u8 c.b1)).setCell ⟨g, 2, none⟩ (.int .u8 c.b2)).setCell ⟨g, 3, none⟩ (.int .u8 c.b3)).setCell ⟨g, 4, none⟩ (.int .u8 c.b4)).setCell ⟨g, 5, none⟩ (.int .u8 c.b5)).setCell ⟨g, 6, none⟩ (.int .u8 c.b6)).setCell ⟨g, 7, none⟩ (.int .u8 c.b7))
theorem put8_below {B g : Nat} {w0 w : World} (h : Below B w0 w) (hg : B ≤ g) (c : Ck) : Below B w0 (put8 w g c) := by
  unfold put8
  exact ((((((((h.setCell hg _).setCell hg _).setCell hg _).setCell hg _).setCell hg _).setCell hg _).setCell hg _).setCell hg _)
theorem put8_aside {w : World} {g k : Nat} {t : TypeId} {cs : Array Value} (h : Holds w k t cs) (hk : g ≠ k) (c : Ck) : Holds (put8 w g c) k t cs := by
  unfold put8
  exact ((((((((h.aside hk _).aside hk _).aside hk _).aside hk _).aside hk _).aside hk _).aside hk _).aside hk _)
theorem put8_holds {w : World} {g : Nat} {t : TypeId} {x0 x1 x2 x3 x4 x5 x6 x7 x8 x9 : Value} (h : Holds w g t #[x0, x1, x2, x3, x4, x5, x6, x7, x8, x9]) (c : Ck) :
    Holds (put8 w g c) g t #[.int .u8 c.b0, .int .u8 c.b1, .int .u8 c.b2, .int .u8 c.b3, .int .u8 c.b4, .int .u8 c.b5, .int .u8 c.b6, .int .u8 c.b7, x8, x9] := by
  unfold put8
  simpa using ((((((((h.put 0 (.int .u8 c.b0)).put 1 (.int .u8 c.b1)).put 2 (.int .u8 c.b2)).put 3 (.int .u8 c.b3)).put 4 (.int .u8 c.b4)).put 5 (.int .u8 c.b5)).put 6 (.int .u8 c.b6)).put 7 (.int .u8 c.b7))

set_option maxHeartbeats 1000000 in
theorem idput_yes (p : Pt) (w : World) (hf : fitB p.n = true) :
    Calls Tryd.prog 33 #[.agg #[.int .u8 p.c.b0, .int .u8 p.c.b1, .int .u8 p.c.b2, .int .u8 p.c.b3, .int .u8 p.c.b4, .int .u8 p.c.b5, .int .u8 p.c.b6, .int .u8 p.c.b7, .int .i64 p.n]] w (RowYes (ptL p) w) := by
  obtain ⟨n0, n1⟩ := fitB_iff.1 hf
  clear hf
  have hmk := make_10
  have h1 : decide (p.n < 0) = false := by simp; omega
  have h2 : decide (65535 < p.n) = false := by simp; omega
  have K1 := Lib.hid ((Holds.fresh w 26 #[.int .u8 p.c.b0, .int .u8 p.c.b1, .int .u8 p.c.b2, .int .u8 p.c.b3, .int .u8 p.c.b4, .int .u8 p.c.b5, .int .u8 p.c.b6, .int .u8 p.c.b7, .int .i64 p.n] rfl).laid (.cells #[.int .u8 0, .int .u8 0, .int .u8 0, .int .u8 0, .int .u8 0, .int .u8 0, .int .u8 0, .int .u8 0, .int .u8 0, .int .u8 0] 5))
  have K4 := Lib.hid (Holds.fresh (w.alloc (.cells #[.int .u8 p.c.b0, .int .u8 p.c.b1, .int .u8 p.c.b2, .int .u8 p.c.b3, .int .u8 p.c.b4, .int .u8 p.c.b5, .int .u8 p.c.b6, .int .u8 p.c.b7, .int .i64 p.n] 26)) 5 #[.int .u8 0, .int .u8 0, .int .u8 0, .int .u8 0, .int .u8 0, .int .u8 0, .int .u8 0, .int .u8 0, .int .u8 0, .int .u8 0] (g := w.heap.size + 1) (by simp))
  have HB := Lib.hid (bstep (bnew w (.cells #[.int .u8 p.c.b0, .int .u8 p.c.b1, .int .u8 p.c.b2, .int .u8 p.c.b3, .int .u8 p.c.b4, .int .u8 p.c.b5, .int .u8 p.c.b6, .int .u8 p.c.b7, .int .i64 p.n] 26)) (bnew _ (.cells #[.int .u8 0, .int .u8 0, .int .u8 0, .int .u8 0, .int .u8 0, .int .u8 0, .int .u8 0, .int .u8 0, .int .u8 0, .int .u8 0] 5)))
  go_enter Tryd.func33, Tryd.ntmps33
  go_wp2
  clear hmk h1 h2
  generalize (w.alloc (.cells #[.int .u8 p.c.b0, .int .u8 p.c.b1, .int .u8 p.c.b2, .int .u8 p.c.b3, .int .u8 p.c.b4, .int .u8 p.c.b5, .int .u8 p.c.b6, .int .u8 p.c.b7, .int .i64 p.n] 26)).alloc (.cells #[.int .u8 0, .int .u8 0, .int .u8 0, .int .u8 0, .int .u8 0, .int .u8 0, .int .u8 0, .int .u8 0, .int .u8 0, .int .u8 0] 5) = W at *
  have c0 := (K1.out).reads (i := 0) rfl
  have d0 := (K4.out).reads (i := 0) rfl
  have f0 := (K4.out).open_ 0
  have c1 := (K1.out).reads (i := 1) rfl
  have d1 := (K4.out).reads (i := 1) rfl
  have f1 := (K4.out).open_ 1
  have c2 := (K1.out).reads (i := 2) rfl
  have d2 := (K4.out).reads (i := 2) rfl
  have f2 := (K4.out).open_ 2
  have c3 := (K1.out).reads (i := 3) rfl
  have d3 := (K4.out).reads (i := 3) rfl
  have f3 := (K4.out).open_ 3
  have c4 := (K1.out).reads (i := 4) rfl
  have d4 := (K4.out).reads (i := 4) rfl
  have f4 := (K4.out).open_ 4
  have c5 := (K1.out).reads (i := 5) rfl
  have d5 := (K4.out).reads (i := 5) rfl
  have f5 := (K4.out).open_ 5
  have c6 := (K1.out).reads (i := 6) rfl
  have d6 := (K4.out).reads (i := 6) rfl
  have f6 := (K4.out).open_ 6
  have c7 := (K1.out).reads (i := 7) rfl
  have d7 := (K4.out).reads (i := 7) rfl
  have f7 := (K4.out).open_ 7
  refine wp_loop_rounds 9 ?_
  rw [rounds_succ]
  go_wp2
  rw [rounds_succ]
  go_wp2
  rw [rounds_succ]
  go_wp2
  rw [rounds_succ]
  go_wp2
  rw [rounds_succ]
  go_wp2
  rw [rounds_succ]
  go_wp2
  rw [rounds_succ]
  go_wp2
  rw [rounds_succ]
  go_wp2
  rw [rounds_succ]
  go_wp2
  replace K1 := Lib.hid (put8_aside K1.out (show w.heap.size + 1 ≠ w.heap.size by omega) p.c)
  replace K4 := Lib.hid (put8_holds K4.out p.c)
  replace HB := Lib.hid (put8_below HB.out (show w.heap.size ≤ w.heap.size + 1 by omega) p.c)
  clear c0 d0 f0 c1 d1 f1 c2 d2 f2 c3 d3 f3 c4 d4 f4 c5 d5 f5 c6 d6 f6 c7 d7 f7
  change Code.wp _ _ _ _ (put8 W (w.heap.size + 1) p.c)
  generalize put8 W (w.heap.size + 1) p.c = V at *
  have c8 := (K1.out).reads (i := 8) rfl
  have d8 := (K4.out).reads (i := 8) rfl
  have d9 := (K4.out).reads (i := 9) rfl
  have f8 := (K4.out).open_ 8
  have f9 := (K4.out).open_ 9
  obtain ⟨n, hn⟩ : ∃ n, p.n = n := ⟨_, rfl⟩
  have HN := Lib.hid hn
  rw [hn] at c8 n0 n1
  clear hn
  go_region
  all_goals
    go_wp2
    go_ret2
    refine ⟨w.heap.size + 1, by omega, ?_, ?_, rfl⟩
    · have h := (((K4.out).put 8 (.int .u8 (n / 256))).put 9 (.int .u8 (n % 256))).drew
      have e : n / 256 % 256 = n / 256 := by omega
      rw [ptL_lit, HN.out, e]
      simpa [byteCells] using h
    · exact bdrew (((HB.out).setCell (by simp) _).setCell (by simp) _)

theorem hold_part9 {v : World} {g : Nat} {t : TypeId} {p : Nat → Int} {x : Value} {k : Nat} (hk : k < 8) (h : Holds v g t #[.int .u8 (part8 p k).b0, .int .u8 (part8 p k).b1, .int .u8 (part8 p k).b2, .int .u8 (part8 p k).b3, .int .u8 (part8 p k).b4, .int .u8 (part8 p k).b5, .int .u8 (part8 p k).b6, .int .u8 (part8 p k).b7, x]) : Holds (v.setCell ⟨g, k, none⟩ (.int .u8 (p k))) g t #[.int .u8 (part8 p (k + 1)).b0, .int .u8 (part8 p (k + 1)).b1, .int .u8 (part8 p (k + 1)).b2, .int .u8 (part8 p (k + 1)).b3, .int .u8 (part8 p (k + 1)).b4, .int .u8 (part8 p (k + 1)).b5, .int .u8 (part8 p (k + 1)).b6, .int .u8 (part8 p (k + 1)).b7, x] := by
  match k, hk with
  | 0, _ => simpa [part8] using h.put 0 (.int .u8 (p 0))
  | 1, _ => simpa [part8] using h.put 1 (.int .u8 (p 1))
  | 2, _ => simpa [part8] using h.put 2 (.int .u8 (p 2))
  | 3, _ => simpa [part8] using h.put 3 (.int .u8 (p 3))
  | 4, _ => simpa [part8] using h.put 4 (.int .u8 (p 4))
  | 5, _ => simpa [part8] using h.put 5 (.int .u8 (p 5))
  | 6, _ => simpa [part8] using h.put 6 (.int .u8 (p 6))
  | 7, _ => simpa [part8] using h.put 7 (.int .u8 (p 7))

theorem cell_part9 {v : World} {g : Nat} {t : TypeId} {c : Ck} {x : Value} {k : Nat} (hk : k < 8) (h : Holds v g t #[.int .u8 c.b0, .int .u8 c.b1, .int .u8 c.b2, .int .u8 c.b3, .int .u8 c.b4, .int .u8 c.b5, .int .u8 c.b6, .int .u8 c.b7, x]) : v.cell? ⟨g, k, none⟩ = some (.int .u8 (c.l.getD k 0)) := by
  refine h.reads ?_
  match k, hk with
  | 0, _ => rfl
  | 1, _ => rfl
  | 2, _ => rfl
  | 3, _ => rfl
  | 4, _ => rfl
  | 5, _ => rfl
  | 6, _ => rfl
  | 7, _ => rfl

/-- the port of ten bytes -/
def getC (zs : List Int) : Ck := part8 (fun i => zs.getD i 0) 8
def getP (zs : List Int) : Pt := ⟨getC zs, zs.getD 8 0 * 256 + zs.getD 9 0⟩
/-- how a port and a bool are told -/
def ptR (p : Pt) (B : Bool) : Ending := .returned (.tuple #[.agg #[.int .u8 p.c.b0, .int .u8 p.c.b1, .int .u8 p.c.b2, .int .u8 p.c.b3, .int .u8 p.c.b4, .int .u8 p.c.b5, .int .u8 p.c.b6, .int .u8 p.c.b7, .int .i64 p.n], .bool B])
def zeroP : Pt := ⟨zeroC, 0⟩

set_option maxHeartbeats 400000 in
theorem idget_short (A : Option Addr) (L C : Nat) (w : World) (hL : L ≠ 10) (hm : L ≤ maxLen) :
    Calls Tryd.prog 22 #[.slice A L C] w fun e w' => e = ptR zeroP false ∧ Below w.heap.size w w' := by
  unfold maxLen at hm
  have hL' : ((L : Int) != 10) = true := by simp; omega
  go_enter Tryd.func22, Tryd.ntmps22
  go_wp2
  refine bodyPost_ret (v := .tuple #[.agg #[.int .u8 0, .int .u8 0, .int .u8 0, .int .u8 0, .int .u8 0, .int .u8 0, .int .u8 0, .int .u8 0, .int .i64 0], .bool false]) (by simp [results, Tryd.results22, go_sem]) rfl ⟨rfl, ?_⟩
  repeat' (first
    | (with_reducible exact Below.refl _ _)
    | (with_reducible refine Below.setCell ?_ (by first | exact Nat.le_refl _ | (simp; done) | (simp; omega)) _)
    | (with_reducible refine bstep ?_ (bnew _ _))
    | (with_reducible refine bdrew ?_))

set_option maxHeartbeats 1000000 in
theorem idget_ten (a : Addr) (C : Nat) (zs : List Int) (w : World) (hl : zs.length = 10) (hb : ∀ z ∈ zs, isByte z) (hc : BytesAt w a zs) :
    Calls Tryd.prog 22 #[.slice (some a) 10 C] w fun e w' => e = ptR (getP zs) true ∧ Below w.heap.size w w' := by
  have HL := Lib.hid hl
  have HC := Lib.hid hc
  have hab : a.block < w.heap.size := by
    have := hc 0 (by omega)
    have := World.block_lt_of_cell? w _ this
    simpa [Addr.add] using this
  have b8 := getD_byte hb 8
  have b9 := getD_byte hb 9
  have HAT : Hid (∀ v k, Below w.heap.size w v → k < 10 → v.cell? (a.add k) = some (.int .u8 (zs.getD k 0))) := by
    intro v k hv hk
    exact hc.keep hv (fun _ _ => hab) k (by omega)
  obtain ⟨m, HM⟩ : ∃ m, Hid (zs.getD 8 0 * 256 + zs.getD 9 0 = m) := ⟨_, Lib.hid rfl⟩
  have KR := Lib.hid (Holds.fresh w 26 #[.int .u8 0, .int .u8 0, .int .u8 0, .int .u8 0, .int .u8 0, .int .u8 0, .int .u8 0, .int .u8 0, .int .i64 0] rfl)
  have HB := Lib.hid (bnew w (.cells #[.int .u8 0, .int .u8 0, .int .u8 0, .int .u8 0, .int .u8 0, .int .u8 0, .int .u8 0, .int .u8 0, .int .i64 0] 26))
  obtain ⟨y8, hy8⟩ : ∃ y, zs.getD 8 0 = y := ⟨_, rfl⟩
  obtain ⟨y9, hy9⟩ : ∃ y, zs.getD 9 0 = y := ⟨_, rfl⟩
  rw [hy8] at b8 HM
  rw [hy9] at b9 HM
  have ho := i64_or_join y8 y9 b8.1 (by have := b8.2; omega) b9.1 b9.2
  rw [HM.out] at ho
  have HY8 := Lib.hid hy8
  have HY9 := Lib.hid hy9
  obtain ⟨b80, b81⟩ := b8
  obtain ⟨b90, b91⟩ := b9
  clear hl hb hc hy8 hy9
  go_enter Tryd.func22, Tryd.ntmps22
  go_wp2
  have hlt := (KR.out).inside
  have hab2 : a.block < (w.alloc (.cells #[.int .u8 0, .int .u8 0, .int .u8 0, .int .u8 0, .int .u8 0, .int .u8 0, .int .u8 0, .int .u8 0, .int .i64 0] 26)).heap.size := by simp; omega
  generalize w.alloc (.cells #[.int .u8 0, .int .u8 0, .int .u8 0, .int .u8 0, .int .u8 0, .int .u8 0, .int .u8 0, .int .u8 0, .int .i64 0] 26) = W at *
  have e8 := HAT.out W 8 HB.out (by omega)
  have e9 := HAT.out W 9 HB.out (by omega)
  have g8 := HAT.out (W.alloc (.cells #[.int .u8 0, .int .u8 0, .int .u8 0, .int .u8 0, .int .u8 0, .int .u8 0, .int .u8 0, .int .u8 0, .int .i64 0] 26)) 8 (bstep HB.out (bnew _ _)) (by omega)
  have g9 := HAT.out (W.alloc (.cells #[.int .u8 0, .int .u8 0, .int .u8 0, .int .u8 0, .int .u8 0, .int .u8 0, .int .u8 0, .int .u8 0, .int .i64 0] 26)) 9 (bstep HB.out (bnew _ _)) (by omega)
  rw [HY8.out] at e8 g8
  rw [HY9.out] at e9 g9
  change W.cell? ⟨a.block, a.off + 8, none⟩ = _ at e8
  change W.cell? ⟨a.block, a.off + 9, none⟩ = _ at e9
  change (W.alloc (.cells #[.int .u8 0, .int .u8 0, .int .u8 0, .int .u8 0, .int .u8 0, .int .u8 0, .int .u8 0, .int .u8 0, .int .i64 0] 26)).cell? ⟨a.block, a.off + 8, none⟩ = _ at g8
  change (W.alloc (.cells #[.int .u8 0, .int .u8 0, .int .u8 0, .int .u8 0, .int .u8 0, .int .u8 0, .int .u8 0, .int .u8 0, .int .i64 0] 26)).cell? ⟨a.block, a.off + 9, none⟩ = _ at g9
  go_region
  all_goals
    have K4 := Lib.hid (show Holds (W.alloc (.cells #[.int .u8 0, .int .u8 0, .int .u8 0, .int .u8 0, .int .u8 0, .int .u8 0, .int .u8 0, .int .u8 0, .int .i64 m] 26)).drew W.heap.size 26 #[.int .u8 (part8 (fun i => zs.getD i 0) 0).b0, .int .u8 (part8 (fun i => zs.getD i 0) 0).b1, .int .u8 (part8 (fun i => zs.getD i 0) 0).b2, .int .u8 (part8 (fun i => zs.getD i 0) 0).b3, .int .u8 (part8 (fun i => zs.getD i 0) 0).b4, .int .u8 (part8 (fun i => zs.getD i 0) 0).b5, .int .u8 (part8 (fun i => zs.getD i 0) 0).b6, .int .u8 (part8 (fun i => zs.getD i 0) 0).b7, .int .i64 m] from (Holds.fresh W 26 #[.int .u8 0, .int .u8 0, .int .u8 0, .int .u8 0, .int .u8 0, .int .u8 0, .int .u8 0, .int .u8 0, .int .i64 m] rfl).drew)
    replace KR := Lib.hid (((KR.out).laid (.cells #[.int .u8 0, .int .u8 0, .int .u8 0, .int .u8 0, .int .u8 0, .int .u8 0, .int .u8 0, .int .u8 0, .int .i64 m] 26)).drew)
    replace HB := Lib.hid (bdrew (bstep HB.out (bnew W (.cells #[.int .u8 0, .int .u8 0, .int .u8 0, .int .u8 0, .int .u8 0, .int .u8 0, .int .u8 0, .int .u8 0, .int .i64 m] 26))))
    have hg : w.heap.size < W.heap.size := hlt
    clear e8 e9 g8 g9 ho hab2
    generalize (W.alloc (.cells #[.int .u8 0, .int .u8 0, .int .u8 0, .int .u8 0, .int .u8 0, .int .u8 0, .int .u8 0, .int .u8 0, .int .i64 m] 26)).drew = V at *
    obtain ⟨g, hgg⟩ : ∃ g, W.heap.size = g := ⟨_, rfl⟩
    rw [hgg] at K4 hg ⊢
    clear hgg hlt
    go_wp2
    go_loopw [21] (fun i v => ∃ k : Nat, k ≤ 8 ∧ i = .int .i64 k ∧ Hid (Holds v w.heap.size 26 #[.int .u8 0, .int .u8 0, .int .u8 0, .int .u8 0, .int .u8 0, .int .u8 0, .int .u8 0, .int .u8 0, .int .i64 0]) ∧ Hid (Holds v g 26 #[.int .u8 (part8 (fun i => zs.getD i 0) k).b0, .int .u8 (part8 (fun i => zs.getD i 0) k).b1, .int .u8 (part8 (fun i => zs.getD i 0) k).b2, .int .u8 (part8 (fun i => zs.getD i 0) k).b3, .int .u8 (part8 (fun i => zs.getD i 0) k).b4, .int .u8 (part8 (fun i => zs.getD i 0) k).b5, .int .u8 (part8 (fun i => zs.getD i 0) k).b6, .int .u8 (part8 (fun i => zs.getD i 0) k).b7, .int .i64 m]) ∧ Hid (Below w.heap.size w v)) (fun i _ => 8 - (intOf i).toNat)
    case atStart => exact ⟨0, by omega, rfl, KR, K4, HB⟩
    case round =>
      clear KR K4 HB
      obtain ⟨k, hk, rfl, KR, K4, HB⟩ := hrel
      by_cases hlt : k < 8
      · have c1 := HAT.out _ k HB.out (by omega)
        obtain ⟨z, HZ⟩ : ∃ z, Hid (zs.getD k 0 = z) := ⟨_, Lib.hid rfl⟩
        rw [HZ.out] at c1
        have c2 := cell_part9 hlt K4.out
        obtain ⟨y, hy⟩ : ∃ y, (part8 (fun i => zs.getD i 0) k).l.getD k 0 = y := ⟨_, rfl⟩
        rw [hy] at c2
        clear hy
        have c3 := (K4.out).open_ k
        go_wp2
        go_roundw
        case rel =>
          refine ⟨k + 1, by omega, by go_num, ?_, ?_, ?_⟩
          · exact (KR.out).aside (by simp; omega) _
          · have h := hold_part9 hlt K4.out
            rw [HZ.out] at h
            exact h
          · exact (HB.out).setCell (by simp; omega) _
        case measure => simp [intOf]; omega
      · obtain rfl : k = 8 := by omega
        obtain ⟨c, HCk⟩ : ∃ c, Hid (part8 (fun i => zs.getD i 0) 8 = c) := ⟨_, Lib.hid rfl⟩
        have HR : Hid (ptR (getP zs) true = .returned (.tuple #[.agg #[.int .u8 c.b0, .int .u8 c.b1, .int .u8 c.b2, .int .u8 c.b3, .int .u8 c.b4, .int .u8 c.b5, .int .u8 c.b6, .int .u8 c.b7, .int .i64 m], .bool true])) := by
          rw [Hid, ← HCk.out, ← HM.out, ← HY8.out, ← HY9.out]; rfl
        rw [HCk.out] at K4
        have k0 := (KR.out).reads (i := 0) rfl
        have k1 := (KR.out).reads (i := 1) rfl
        have k2 := (KR.out).reads (i := 2) rfl
        have k3 := (KR.out).reads (i := 3) rfl
        have k4 := (KR.out).reads (i := 4) rfl
        have k5 := (KR.out).reads (i := 5) rfl
        have k6 := (KR.out).reads (i := 6) rfl
        have k7 := (KR.out).reads (i := 7) rfl
        have k8 := (KR.out).reads (i := 8) rfl
        have f0 := (KR.out).open_ 0
        have f1 := (KR.out).open_ 1
        have f2 := (KR.out).open_ 2
        have f3 := (KR.out).open_ 3
        have f4 := (KR.out).open_ 4
        have f5 := (KR.out).open_ 5
        have f6 := (KR.out).open_ 6
        have f7 := (KR.out).open_ 7
        have f8 := (KR.out).open_ 8
        have c0 := (K4.out).reads (i := 0) rfl
        have c1 := (K4.out).reads (i := 1) rfl
        have c2 := (K4.out).reads (i := 2) rfl
        have c3 := (K4.out).reads (i := 3) rfl
        have c4 := (K4.out).reads (i := 4) rfl
        have c5 := (K4.out).reads (i := 5) rfl
        have c6 := (K4.out).reads (i := 6) rfl
        have c7 := (K4.out).reads (i := 7) rfl
        have c8 := (K4.out).reads (i := 8) rfl
        go_wp2
        refine bodyPost_ret (v := .tuple #[.agg #[.int .u8 c.b0, .int .u8 c.b1, .int .u8 c.b2, .int .u8 c.b3, .int .u8 c.b4, .int .u8 c.b5, .int .u8 c.b6, .int .u8 c.b7, .int .i64 m], .bool true]) (by simp [results, Tryd.results22, go_sem, k0, k1, k2, k3, k4, k5, k6, k7, k8]) rfl ⟨HR.out.symm, ?_⟩
        repeat' (first
          | (with_reducible exact Below.refl _ _)
          | (with_reducible exact HB.out)
          | (with_reducible refine Below.setCell ?_ (by first | exact Nat.le_refl _ | (simp; done) | (simp; omega)) _)
          | (with_reducible refine bstep ?_ (bnew _ _))
          | (with_reducible refine bdrew ?_))

end Go.Proofs.YtifhjmhekapaoaaDoor
