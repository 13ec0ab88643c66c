/- The walk over the law IdentBytes. -/
import Derived.Test.YtbiglmpibdlhmaaIdentAlive
namespace Go.Proofs.Ytbiglmpibdlhmaa
open Go.RowKit
set_option linter.unusedVariables false

/-- cells that are read as bytes -/
def CellsAt (w : World) (g : Nat) (zs : List Int) : Prop := ∀ i, i < zs.length → w.cell? ⟨g, i, none⟩ = some (.int .u8 (zs.getD i 0))
theorem CellsAt.keptB {w v : World} {g : Nat} {zs : List Int} (h : CellsAt w g zs) (hb : Below w.heap.size w v) : CellsAt v g zs := fun i hi => keepc hb (h i hi)
theorem CellsAt.laid {w : World} {g : Nat} {zs : List Int} (h : CellsAt w g zs) (o : Obj) : CellsAt (w.alloc o) g zs := h.keptB (bnew w o)
theorem idget_nil (w : World) : Calls Try.prog 22 #[.slice none 0 0] w fun e w' => e = .returned (.tuple #[.agg #[.int .u8 0, .int .u8 0, .int .u8 0, .int .u8 0, .int .u8 0, .int .u8 0, .int .u8 0, .int .u8 0, .int .i64 0], .bool false]) ∧ Below w.heap.size w w' := idget_short none 0 0 w (by omega) (Nat.zero_le _)
/-- what was written is read as it was -/
theorem get_put {p : Pt} (h : fitB p.n = true) : getP (ptL p) = p := by
  have hn := fitB_iff.1 h
  have e : p.n / 256 % 256 * 256 + p.n % 256 = p.n := by omega
  have : getP (ptL p) = ⟨p.c, p.n / 256 % 256 * 256 + p.n % 256⟩ := rfl
  rw [this, e]
/-- both readers of bytes tell the same -/
def Alike4 (A : Option Addr) (L C : Nat) (w : World) (q : Pt) (B : Bool) : Prop :=
  (∀ v, Below w.heap.size w v → Calls Try.prog 22 #[.slice A L C] v fun e w' => e = .returned (.tuple #[.agg #[.int .u8 q.c.b0, .int .u8 q.c.b1, .int .u8 q.c.b2, .int .u8 q.c.b3, .int .u8 q.c.b4, .int .u8 q.c.b5, .int .u8 q.c.b6, .int .u8 q.c.b7, .int .i64 q.n], .bool B]) ∧ Below v.heap.size v w') ∧
  (∀ v, Below w.heap.size w v → Calls Try.prog 23 #[.slice A L C] v fun e w' => e = .returned (.tuple #[.agg #[.int .u8 q.c.b0, .int .u8 q.c.b1, .int .u8 q.c.b2, .int .u8 q.c.b3, .int .u8 q.c.b4, .int .u8 q.c.b5, .int .u8 q.c.b6, .int .u8 q.c.b7, .int .i64 q.n], .bool B]) ∧ Below v.heap.size v w')
theorem alike4_any (A : Option Addr) (L C : Nat) (zs : List Int) (w : World) (h : sliceOk .u8 w A L C zs) : ∃ q B, Alike4 A L C w q B := by
  by_cases hL : L = 10
  · subst hL
    rcases h with ⟨_, h0, _⟩ | ⟨a, rfl, h1, h2, h3, h4, h5⟩
    · omega
    have hl : (zs.take 10).length = 10 := by rw [List.length_take]; omega
    have hb : ∀ z ∈ zs.take 10, isByte z := fun z hz => byte_wf (h5 z (List.mem_of_mem_take hz))
    have hc : BytesAt w a (zs.take 10) := by
      intro i hi
      rw [h4 i (by omega)]
      rw [hl] at hi
      simp only [List.getD, List.getElem?_take, if_pos hi]
    have hlt : a.block < w.heap.size := by
      have := World.block_lt_of_cell? w _ (hc 0 (by omega))
      simpa [Addr.add] using this
    exact ⟨getP (zs.take 10), true, fun v hv => idget_ten a C _ v hl hb (hc.keep hv (fun _ _ => hlt)), fun v hv => ridget_ten a C _ v hl hb (hc.keep hv (fun _ _ => hlt))⟩
  · have hm : L ≤ maxLen := by
      rcases h with ⟨_, h0, _⟩ | ⟨a, rfl, h1, h2, h3, h4, h5⟩
      · rw [h0]; exact Nat.zero_le _
      · exact Nat.le_trans h1 h2
    exact ⟨zeroP, false, fun v _ => idget_short A L C v hL hm, fun v _ => ridget_short A L C v hL hm⟩

set_option maxRecDepth 100000 in
set_option maxHeartbeats 4000000 in
theorem bytes4_walk (p : Pt) (A : Option Addr) (L C : Nat) (zs : List Int) (hp : p.c.ok) (w : World) (hs : sliceOk .u8 w A L C zs) :
    Calls Try.prog 5 #[.agg #[.int .u8 p.c.b0, .int .u8 p.c.b1, .int .u8 p.c.b2, .int .u8 p.c.b3, .int .u8 p.c.b4, .int .u8 p.c.b5, .int .u8 p.c.b6, .int .u8 p.c.b7, .int .i64 p.n], .slice A L C] w fun e w' => e = .returned (.bool true) ∧ Below w.heap.size w w' := by
  obtain ⟨q, B, g1, g2⟩ := alike4_any A L C zs w hs
  have G1 := Lib.hid g1
  have G2 := Lib.hid g2
  have HQ := Lib.hid (neq_port q q)
  have HQ2 := Lib.hid (eql_port p p)
  rw [eqP_self] at HQ HQ2
  clear g1 g2 hs
  cases hF : fitB p.n
  · have HF := Lib.hid hF
    have hnil := conv_nil
    clear hF hp
    have K2 := Lib.hid (Holds.fresh w 25 #[.int .u8 p.c.b0, .int .u8 p.c.b1, .int .u8 p.c.b2, .int .u8 p.c.b3, .int .u8 p.c.b4, .int .u8 p.c.b5, .int .u8 p.c.b6, .int .u8 p.c.b7, .int .i64 p.n] (g := w.heap.size) (by simp))
    have HB := Lib.hid (bnew w (.cells #[.int .u8 p.c.b0, .int .u8 p.c.b1, .int .u8 p.c.b2, .int .u8 p.c.b3, .int .u8 p.c.b4, .int .u8 p.c.b5, .int .u8 p.c.b6, .int .u8 p.c.b7, .int .i64 p.n] 25))
    go_enter Try.func5, Try.ntmps5
    go_wp2_with fail
    generalize (w.alloc (.cells #[.int .u8 p.c.b0, .int .u8 p.c.b1, .int .u8 p.c.b2, .int .u8 p.c.b3, .int .u8 p.c.b4, .int .u8 p.c.b5, .int .u8 p.c.b6, .int .u8 p.c.b7, .int .i64 p.n] 25)) = W0 at *
    have x1_0 := (K2.out).reads (i := 0) rfl
    have x1_1 := (K2.out).reads (i := 1) rfl
    have x1_2 := (K2.out).reads (i := 2) rfl
    have x1_3 := (K2.out).reads (i := 3) rfl
    have x1_4 := (K2.out).reads (i := 4) rfl
    have x1_5 := (K2.out).reads (i := 5) rfl
    have x1_6 := (K2.out).reads (i := 6) rfl
    have x1_7 := (K2.out).reads (i := 7) rfl
    have x1_8 := (K2.out).reads (i := 8) rfl
    refine (idput_no p _ HF.out).mono ?_
    rintro e w2 ⟨rfl, hw2⟩
    clear x1_0 x1_1 x1_2 x1_3 x1_4 x1_5 x1_6 x1_7 x1_8
    replace K2 := Lib.hid ((K2.out).keptB hw2)
    replace HB := Lib.hid (bstep HB.out hw2)
    clear hw2
    have x3_0 := (K2.out).reads (i := 0) rfl
    have x3_1 := (K2.out).reads (i := 1) rfl
    have x3_2 := (K2.out).reads (i := 2) rfl
    have x3_3 := (K2.out).reads (i := 3) rfl
    have x3_4 := (K2.out).reads (i := 4) rfl
    have x3_5 := (K2.out).reads (i := 5) rfl
    have x3_6 := (K2.out).reads (i := 6) rfl
    have x3_7 := (K2.out).reads (i := 7) rfl
    have x3_8 := (K2.out).reads (i := 8) rfl
    go_wp2_with fail
    refine (ridput_no p _ HF.out).mono ?_
    rintro e w4 ⟨rfl, hw4⟩
    clear x3_0 x3_1 x3_2 x3_3 x3_4 x3_5 x3_6 x3_7 x3_8
    replace K2 := Lib.hid ((K2.out).keptB hw4)
    replace HB := Lib.hid (bstep HB.out hw4)
    clear hw4
    go_wp2_with fail
    refine (G1.out _ HB.out).mono ?_
    rintro e w5 ⟨rfl, hw5⟩
    replace K2 := Lib.hid ((K2.out).keptB hw5)
    replace HB := Lib.hid (bstep HB.out hw5)
    clear hw5
    replace K2 := Lib.hid ((K2.out).laid (.cells #[.int .u8 q.c.b0, .int .u8 q.c.b1, .int .u8 q.c.b2, .int .u8 q.c.b3, .int .u8 q.c.b4, .int .u8 q.c.b5, .int .u8 q.c.b6, .int .u8 q.c.b7, .int .i64 q.n] 25))
    have K9 := Lib.hid (Holds.fresh w5 25 #[.int .u8 q.c.b0, .int .u8 q.c.b1, .int .u8 q.c.b2, .int .u8 q.c.b3, .int .u8 q.c.b4, .int .u8 q.c.b5, .int .u8 q.c.b6, .int .u8 q.c.b7, .int .i64 q.n] (g := (w5).heap.size) rfl)
    replace HB := Lib.hid (bstep HB.out (bnew _ (.cells #[.int .u8 q.c.b0, .int .u8 q.c.b1, .int .u8 q.c.b2, .int .u8 q.c.b3, .int .u8 q.c.b4, .int .u8 q.c.b5, .int .u8 q.c.b6, .int .u8 q.c.b7, .int .i64 q.n] 25)))
    go_wp2_with fail
    refine (G2.out _ HB.out).mono ?_
    rintro e w6 ⟨rfl, hw6⟩
    replace K2 := Lib.hid ((K2.out).keptB hw6)
    replace K9 := Lib.hid ((K9.out).keptB hw6)
    replace HB := Lib.hid (bstep HB.out hw6)
    clear hw6
    replace K2 := Lib.hid ((K2.out).laid (.cells #[.int .u8 q.c.b0, .int .u8 q.c.b1, .int .u8 q.c.b2, .int .u8 q.c.b3, .int .u8 q.c.b4, .int .u8 q.c.b5, .int .u8 q.c.b6, .int .u8 q.c.b7, .int .i64 q.n] 25))
    replace K9 := Lib.hid ((K9.out).laid (.cells #[.int .u8 q.c.b0, .int .u8 q.c.b1, .int .u8 q.c.b2, .int .u8 q.c.b3, .int .u8 q.c.b4, .int .u8 q.c.b5, .int .u8 q.c.b6, .int .u8 q.c.b7, .int .i64 q.n] 25))
    have K11 := Lib.hid (Holds.fresh w6 25 #[.int .u8 q.c.b0, .int .u8 q.c.b1, .int .u8 q.c.b2, .int .u8 q.c.b3, .int .u8 q.c.b4, .int .u8 q.c.b5, .int .u8 q.c.b6, .int .u8 q.c.b7, .int .i64 q.n] (g := (w6).heap.size) rfl)
    replace HB := Lib.hid (bstep HB.out (bnew _ (.cells #[.int .u8 q.c.b0, .int .u8 q.c.b1, .int .u8 q.c.b2, .int .u8 q.c.b3, .int .u8 q.c.b4, .int .u8 q.c.b5, .int .u8 q.c.b6, .int .u8 q.c.b7, .int .i64 q.n] 25)))
    have hq := HQ.out
    have x7_0 := (K9.out).reads (i := 0) rfl
    have x7_1 := (K9.out).reads (i := 1) rfl
    have x7_2 := (K9.out).reads (i := 2) rfl
    have x7_3 := (K9.out).reads (i := 3) rfl
    have x7_4 := (K9.out).reads (i := 4) rfl
    have x7_5 := (K9.out).reads (i := 5) rfl
    have x7_6 := (K9.out).reads (i := 6) rfl
    have x7_7 := (K9.out).reads (i := 7) rfl
    have x7_8 := (K9.out).reads (i := 8) rfl
    have x8_0 := (K11.out).reads (i := 0) rfl
    have x8_1 := (K11.out).reads (i := 1) rfl
    have x8_2 := (K11.out).reads (i := 2) rfl
    have x8_3 := (K11.out).reads (i := 3) rfl
    have x8_4 := (K11.out).reads (i := 4) rfl
    have x8_5 := (K11.out).reads (i := 5) rfl
    have x8_6 := (K11.out).reads (i := 6) rfl
    have x8_7 := (K11.out).reads (i := 7) rfl
    have x8_8 := (K11.out).reads (i := 8) rfl
    cases B
    all_goals
      go_wp2_with fail
      refine (idget_nil _).mono ?_
      rintro e w9 ⟨rfl, hw9⟩
      clear x7_0 x7_1 x7_2 x7_3 x7_4 x7_5 x7_6 x7_7 x7_8 x8_0 x8_1 x8_2 x8_3 x8_4 x8_5 x8_6 x8_7 x8_8
      replace K2 := Lib.hid ((K2.out).keptB hw9)
      replace K9 := Lib.hid ((K9.out).keptB hw9)
      replace K11 := Lib.hid ((K11.out).keptB hw9)
      replace HB := Lib.hid (bstep HB.out hw9)
      clear hw9
      replace K2 := Lib.hid ((K2.out).laid (.cells #[.int .u8 0, .int .u8 0, .int .u8 0, .int .u8 0, .int .u8 0, .int .u8 0, .int .u8 0, .int .u8 0, .int .i64 0] 25))
      replace K9 := Lib.hid ((K9.out).laid (.cells #[.int .u8 0, .int .u8 0, .int .u8 0, .int .u8 0, .int .u8 0, .int .u8 0, .int .u8 0, .int .u8 0, .int .i64 0] 25))
      replace K11 := Lib.hid ((K11.out).laid (.cells #[.int .u8 0, .int .u8 0, .int .u8 0, .int .u8 0, .int .u8 0, .int .u8 0, .int .u8 0, .int .u8 0, .int .i64 0] 25))
      have K13 := Lib.hid (Holds.fresh w9 25 #[.int .u8 0, .int .u8 0, .int .u8 0, .int .u8 0, .int .u8 0, .int .u8 0, .int .u8 0, .int .u8 0, .int .i64 0] (g := (w9).heap.size) rfl)
      replace HB := Lib.hid (bstep HB.out (bnew _ (.cells #[.int .u8 0, .int .u8 0, .int .u8 0, .int .u8 0, .int .u8 0, .int .u8 0, .int .u8 0, .int .u8 0, .int .i64 0] 25)))
      go_wp2_with fail
      refine (alive4_any _).mono ?_
      rintro e w10 ⟨rfl, hw10⟩
      replace K2 := Lib.hid ((K2.out).keptB hw10)
      replace K9 := Lib.hid ((K9.out).keptB hw10)
      replace K11 := Lib.hid ((K11.out).keptB hw10)
      replace K13 := Lib.hid ((K13.out).keptB hw10)
      replace HB := Lib.hid (bstep HB.out hw10)
      clear hw10
      go_wp2
      go_ret
      exact ⟨rfl, HB.out⟩
  · have HF := Lib.hid hF
    have HP := Lib.hid (ptL_byte p hp)
    have HG : Hid (getP (ptL p) = p) := get_put hF
    clear hF hp
    obtain ⟨S, HS⟩ : ∃ S, Hid (strOfNums (ptL p) = S) := ⟨_, Lib.hid rfl⟩
    have K2 := Lib.hid (Holds.fresh w 25 #[.int .u8 p.c.b0, .int .u8 p.c.b1, .int .u8 p.c.b2, .int .u8 p.c.b3, .int .u8 p.c.b4, .int .u8 p.c.b5, .int .u8 p.c.b6, .int .u8 p.c.b7, .int .i64 p.n] (g := w.heap.size) (by simp))
    have HB := Lib.hid (bnew w (.cells #[.int .u8 p.c.b0, .int .u8 p.c.b1, .int .u8 p.c.b2, .int .u8 p.c.b3, .int .u8 p.c.b4, .int .u8 p.c.b5, .int .u8 p.c.b6, .int .u8 p.c.b7, .int .i64 p.n] 25))
    go_enter Try.func5, Try.ntmps5
    go_wp2_with fail
    generalize (w.alloc (.cells #[.int .u8 p.c.b0, .int .u8 p.c.b1, .int .u8 p.c.b2, .int .u8 p.c.b3, .int .u8 p.c.b4, .int .u8 p.c.b5, .int .u8 p.c.b6, .int .u8 p.c.b7, .int .i64 p.n] 25)) = W0 at *
    have x1_0 := (K2.out).reads (i := 0) rfl
    have x1_1 := (K2.out).reads (i := 1) rfl
    have x1_2 := (K2.out).reads (i := 2) rfl
    have x1_3 := (K2.out).reads (i := 3) rfl
    have x1_4 := (K2.out).reads (i := 4) rfl
    have x1_5 := (K2.out).reads (i := 5) rfl
    have x1_6 := (K2.out).reads (i := 6) rfl
    have x1_7 := (K2.out).reads (i := 7) rfl
    have x1_8 := (K2.out).reads (i := 8) rfl
    refine (idput_yes p _ HF.out).mono ?_
    rintro e w1 ⟨g, hg, hh, hb1, rfl⟩
    clear x1_0 x1_1 x1_2 x1_3 x1_4 x1_5 x1_6 x1_7 x1_8
    replace K2 := Lib.hid ((K2.out).keptB hb1)
    replace HB := Lib.hid (bstep HB.out hb1)
    have KG := Lib.hid hh
    clear hb1 hg hh
    have x2_0 := (K2.out).reads (i := 0) rfl
    have x2_1 := (K2.out).reads (i := 1) rfl
    have x2_2 := (K2.out).reads (i := 2) rfl
    have x2_3 := (K2.out).reads (i := 3) rfl
    have x2_4 := (K2.out).reads (i := 4) rfl
    have x2_5 := (K2.out).reads (i := 5) rfl
    have x2_6 := (K2.out).reads (i := 6) rfl
    have x2_7 := (K2.out).reads (i := 7) rfl
    have x2_8 := (K2.out).reads (i := 8) rfl
    go_wp2_with fail
    refine (ridput_yes p _ HF.out).mono ?_
    rintro e w2 ⟨g', cap, hg, hg', hh, hb2, rfl⟩
    clear x2_0 x2_1 x2_2 x2_3 x2_4 x2_5 x2_6 x2_7 x2_8
    replace K2 := Lib.hid ((K2.out).keptB hb2)
    replace KG := Lib.hid ((KG.out).keptB hb2)
    replace HB := Lib.hid (bstep HB.out hb2)
    have KH := Lib.hid (show CellsAt w2 g' (ptL p) from hh)
    clear hb2 hg hg' hh
    go_wp2_with fail
    refine (G1.out _ HB.out).mono ?_
    rintro e w3 ⟨rfl, hw3⟩
    replace K2 := Lib.hid ((K2.out).keptB hw3)
    replace KG := Lib.hid ((KG.out).keptB hw3)
    replace KH := Lib.hid ((KH.out).keptB hw3)
    replace HB := Lib.hid (bstep HB.out hw3)
    clear hw3
    replace K2 := Lib.hid ((K2.out).laid (.cells #[.int .u8 q.c.b0, .int .u8 q.c.b1, .int .u8 q.c.b2, .int .u8 q.c.b3, .int .u8 q.c.b4, .int .u8 q.c.b5, .int .u8 q.c.b6, .int .u8 q.c.b7, .int .i64 q.n] 25))
    replace KG := Lib.hid ((KG.out).laid (.cells #[.int .u8 q.c.b0, .int .u8 q.c.b1, .int .u8 q.c.b2, .int .u8 q.c.b3, .int .u8 q.c.b4, .int .u8 q.c.b5, .int .u8 q.c.b6, .int .u8 q.c.b7, .int .i64 q.n] 25))
    replace KH := Lib.hid ((KH.out).laid (.cells #[.int .u8 q.c.b0, .int .u8 q.c.b1, .int .u8 q.c.b2, .int .u8 q.c.b3, .int .u8 q.c.b4, .int .u8 q.c.b5, .int .u8 q.c.b6, .int .u8 q.c.b7, .int .i64 q.n] 25))
    have K9 := Lib.hid (Holds.fresh w3 25 #[.int .u8 q.c.b0, .int .u8 q.c.b1, .int .u8 q.c.b2, .int .u8 q.c.b3, .int .u8 q.c.b4, .int .u8 q.c.b5, .int .u8 q.c.b6, .int .u8 q.c.b7, .int .i64 q.n] (g := (w3).heap.size) rfl)
    replace HB := Lib.hid (bstep HB.out (bnew _ (.cells #[.int .u8 q.c.b0, .int .u8 q.c.b1, .int .u8 q.c.b2, .int .u8 q.c.b3, .int .u8 q.c.b4, .int .u8 q.c.b5, .int .u8 q.c.b6, .int .u8 q.c.b7, .int .i64 q.n] 25)))
    go_wp2_with fail
    refine (G2.out _ HB.out).mono ?_
    rintro e w4 ⟨rfl, hw4⟩
    replace K2 := Lib.hid ((K2.out).keptB hw4)
    replace KG := Lib.hid ((KG.out).keptB hw4)
    replace KH := Lib.hid ((KH.out).keptB hw4)
    replace K9 := Lib.hid ((K9.out).keptB hw4)
    replace HB := Lib.hid (bstep HB.out hw4)
    clear hw4
    replace K2 := Lib.hid ((K2.out).laid (.cells #[.int .u8 q.c.b0, .int .u8 q.c.b1, .int .u8 q.c.b2, .int .u8 q.c.b3, .int .u8 q.c.b4, .int .u8 q.c.b5, .int .u8 q.c.b6, .int .u8 q.c.b7, .int .i64 q.n] 25))
    replace KG := Lib.hid ((KG.out).laid (.cells #[.int .u8 q.c.b0, .int .u8 q.c.b1, .int .u8 q.c.b2, .int .u8 q.c.b3, .int .u8 q.c.b4, .int .u8 q.c.b5, .int .u8 q.c.b6, .int .u8 q.c.b7, .int .i64 q.n] 25))
    replace KH := Lib.hid ((KH.out).laid (.cells #[.int .u8 q.c.b0, .int .u8 q.c.b1, .int .u8 q.c.b2, .int .u8 q.c.b3, .int .u8 q.c.b4, .int .u8 q.c.b5, .int .u8 q.c.b6, .int .u8 q.c.b7, .int .i64 q.n] 25))
    replace K9 := Lib.hid ((K9.out).laid (.cells #[.int .u8 q.c.b0, .int .u8 q.c.b1, .int .u8 q.c.b2, .int .u8 q.c.b3, .int .u8 q.c.b4, .int .u8 q.c.b5, .int .u8 q.c.b6, .int .u8 q.c.b7, .int .i64 q.n] 25))
    have K11 := Lib.hid (Holds.fresh w4 25 #[.int .u8 q.c.b0, .int .u8 q.c.b1, .int .u8 q.c.b2, .int .u8 q.c.b3, .int .u8 q.c.b4, .int .u8 q.c.b5, .int .u8 q.c.b6, .int .u8 q.c.b7, .int .i64 q.n] (g := (w4).heap.size) rfl)
    replace HB := Lib.hid (bstep HB.out (bnew _ (.cells #[.int .u8 q.c.b0, .int .u8 q.c.b1, .int .u8 q.c.b2, .int .u8 q.c.b3, .int .u8 q.c.b4, .int .u8 q.c.b5, .int .u8 q.c.b6, .int .u8 q.c.b7, .int .i64 q.n] 25)))
    have hq := HQ.out
    have x5_0 := (K9.out).reads (i := 0) rfl
    have x5_1 := (K9.out).reads (i := 1) rfl
    have x5_2 := (K9.out).reads (i := 2) rfl
    have x5_3 := (K9.out).reads (i := 3) rfl
    have x5_4 := (K9.out).reads (i := 4) rfl
    have x5_5 := (K9.out).reads (i := 5) rfl
    have x5_6 := (K9.out).reads (i := 6) rfl
    have x5_7 := (K9.out).reads (i := 7) rfl
    have x5_8 := (K9.out).reads (i := 8) rfl
    have x6_0 := (K11.out).reads (i := 0) rfl
    have x6_1 := (K11.out).reads (i := 1) rfl
    have x6_2 := (K11.out).reads (i := 2) rfl
    have x6_3 := (K11.out).reads (i := 3) rfl
    have x6_4 := (K11.out).reads (i := 4) rfl
    have x6_5 := (K11.out).reads (i := 5) rfl
    have x6_6 := (K11.out).reads (i := 6) rfl
    have x6_7 := (K11.out).reads (i := 7) rfl
    have x6_8 := (K11.out).reads (i := 8) rfl
    have v1 := conv_row g 10 (ptL p) _ (ptL_length p) (row_cells KG.out)
    have v2 := conv_row g' cap (ptL p) _ (ptL_length p) KH.out
    rw [HS.out] at v1 v2
    cases B
    all_goals
      go_wp2_with fail
      clear v1 v2
      clear x5_0 x5_1 x5_2 x5_3 x5_4 x5_5 x5_6 x5_7 x5_8 x6_0 x6_1 x6_2 x6_3 x6_4 x6_5 x6_6 x6_7 x6_8
      refine (idget_ten ⟨g, 0, none⟩ 10 (ptL p) _ (ptL_length p) HP.out (fun i hi => by have := row_cells KG.out i hi; rw [Addr.add_lit, Nat.zero_add]; exact this)).mono ?_
      rintro e w7 ⟨rfl, hw7⟩
      rw [HG.out]
      unfold ptR
      replace K2 := Lib.hid ((K2.out).keptB hw7)
      replace K9 := Lib.hid ((K9.out).keptB hw7)
      replace K11 := Lib.hid ((K11.out).keptB hw7)
      replace HB := Lib.hid (bstep HB.out hw7)
      clear hw7 KG KH
      replace K2 := Lib.hid ((K2.out).laid (.cells #[.int .u8 p.c.b0, .int .u8 p.c.b1, .int .u8 p.c.b2, .int .u8 p.c.b3, .int .u8 p.c.b4, .int .u8 p.c.b5, .int .u8 p.c.b6, .int .u8 p.c.b7, .int .i64 p.n] 25))
      replace K9 := Lib.hid ((K9.out).laid (.cells #[.int .u8 p.c.b0, .int .u8 p.c.b1, .int .u8 p.c.b2, .int .u8 p.c.b3, .int .u8 p.c.b4, .int .u8 p.c.b5, .int .u8 p.c.b6, .int .u8 p.c.b7, .int .i64 p.n] 25))
      replace K11 := Lib.hid ((K11.out).laid (.cells #[.int .u8 p.c.b0, .int .u8 p.c.b1, .int .u8 p.c.b2, .int .u8 p.c.b3, .int .u8 p.c.b4, .int .u8 p.c.b5, .int .u8 p.c.b6, .int .u8 p.c.b7, .int .i64 p.n] 25))
      have K13 := Lib.hid (Holds.fresh w7 25 #[.int .u8 p.c.b0, .int .u8 p.c.b1, .int .u8 p.c.b2, .int .u8 p.c.b3, .int .u8 p.c.b4, .int .u8 p.c.b5, .int .u8 p.c.b6, .int .u8 p.c.b7, .int .i64 p.n] (g := (w7).heap.size) rfl)
      replace HB := Lib.hid (bstep HB.out (bnew _ (.cells #[.int .u8 p.c.b0, .int .u8 p.c.b1, .int .u8 p.c.b2, .int .u8 p.c.b3, .int .u8 p.c.b4, .int .u8 p.c.b5, .int .u8 p.c.b6, .int .u8 p.c.b7, .int .i64 p.n] 25)))
      have hq2 := HQ2.out
      go_wp2_with fail
      refine (alive4_any _).mono ?_
      rintro e w8 ⟨rfl, hw8⟩
      replace K2 := Lib.hid ((K2.out).keptB hw8)
      replace K9 := Lib.hid ((K9.out).keptB hw8)
      replace K11 := Lib.hid ((K11.out).keptB hw8)
      replace K13 := Lib.hid ((K13.out).keptB hw8)
      replace HB := Lib.hid (bstep HB.out hw8)
      clear hw8
      have x9_0 := (K13.out).reads (i := 0) rfl
      have x9_1 := (K13.out).reads (i := 1) rfl
      have x9_2 := (K13.out).reads (i := 2) rfl
      have x9_3 := (K13.out).reads (i := 3) rfl
      have x9_4 := (K13.out).reads (i := 4) rfl
      have x9_5 := (K13.out).reads (i := 5) rfl
      have x9_6 := (K13.out).reads (i := 6) rfl
      have x9_7 := (K13.out).reads (i := 7) rfl
      have x9_8 := (K13.out).reads (i := 8) rfl
      have x10_0 := (K2.out).reads (i := 0) rfl
      have x10_1 := (K2.out).reads (i := 1) rfl
      have x10_2 := (K2.out).reads (i := 2) rfl
      have x10_3 := (K2.out).reads (i := 3) rfl
      have x10_4 := (K2.out).reads (i := 4) rfl
      have x10_5 := (K2.out).reads (i := 5) rfl
      have x10_6 := (K2.out).reads (i := 6) rfl
      have x10_7 := (K2.out).reads (i := 7) rfl
      have x10_8 := (K2.out).reads (i := 8) rfl
      go_wp2
      go_ret
      exact ⟨rfl, HB.out⟩

end Go.Proofs.Ytbiglmpibdlhmaa
