/- The walk over the law HeadReads. -/
import Derived.Test.YtifhjmhekapaoaaDoorHeadWords2
import Derived.Test.YtifhjmhekapaoaaDoorHeadRefDecode
namespace Go.Proofs.YtifhjmhekapaoaaDoor
set_option maxRecDepth 100000
open Go.RowKit
set_option linter.unusedVariables false

theorem both_slice (A : Option Addr) (L C : Nat) (zs : List Int) (w : World) (hs : sliceOk .u8 w A L C zs) :
    ∃ (n : Int) (G : Hd), (∀ v, Below w.heap.size w v → Lens v → Calls Tryd.prog 6 #[.slice A L C] v fun e w' => e = .returned (.tuple #[.agg #[.int .i64 G.t, .int .i64 G.d, .int .i64 G.f, .int .i64 G.c, .int .u8 G.p.c.b0, .int .u8 G.p.c.b1, .int .u8 G.p.c.b2, .int .u8 G.p.c.b3, .int .u8 G.p.c.b4, .int .u8 G.p.c.b5, .int .u8 G.p.c.b6, .int .u8 G.p.c.b7, .int .i64 G.p.n, .int .i64 G.s, .int .i64 G.l], .int .i64 n]) ∧ Below v.heap.size v w') ∧
      (∀ v, Below w.heap.size w v → Calls Tryd.prog 7 #[.slice A L C] v fun e w' => e = .returned (.tuple #[.agg #[.int .i64 G.t, .int .i64 G.d, .int .i64 G.f, .int .i64 G.c, .int .u8 G.p.c.b0, .int .u8 G.p.c.b1, .int .u8 G.p.c.b2, .int .u8 G.p.c.b3, .int .u8 G.p.c.b4, .int .u8 G.p.c.b5, .int .u8 G.p.c.b6, .int .u8 G.p.c.b7, .int .i64 G.p.n, .int .i64 G.s, .int .i64 G.l], .int .i64 n]) ∧ Below v.heap.size v w') := by
  by_cases hL : L < 34
  · exact ⟨50, zeroH, fun v _ _ => decode_short A L C v hL, fun v _ => rdecode_short A L C v hL⟩
  rcases hs with ⟨_, h0, _⟩ | ⟨a, rfl, h1, h2, h3, h4, h5⟩
  · omega
  have hz : BytesAt w a (zs.take L) := by
    intro i hi
    rw [List.length_take] at hi
    rw [h4 i (by omega)]
    simp only [List.getD, List.getElem?_take, if_pos (show i < L by omega)]
  have hb : ∀ z ∈ zs.take L, isByte z := fun z hz => byte_wf (h5 z (List.mem_of_mem_take hz))
  have hl : (zs.take L).length = L := by rw [List.length_take]; omega
  obtain ⟨ys, hys⟩ : ∃ ys, zs.take L = ys := ⟨_, rfl⟩
  rw [hys] at hz hb hl
  exact ⟨faultN L ys, decH L ys, fun v hv hlv => decode_any a L C ys v hl (by omega) h1 h2 hb (fun i hi => keepc hv (hz i hi)) hlv,
    fun v hv => rdecode_any a L C ys v hl (by omega) h1 h2 hb (fun i hi => keepc hv (hz i hi))⟩
set_option maxRecDepth 100000 in
set_option maxHeartbeats 4000000 in
theorem reads5_walk (A : Option Addr) (L C : Nat) (zs : List Int) (w : World) (hs : sliceOk .u8 w A L C zs) (hl : Lens w) :
    Calls Tryd.prog 3 #[.slice A L C] w fun e w' => e = .returned (.bool true) ∧ Below w.heap.size w w' := by
  obtain ⟨n, G, g1, g2⟩ := both_slice A L C zs w hs
  have D1 := Lib.hid g1
  have D2 := Lib.hid g2
  have HL := Lib.hid hl
  have HB := Lib.hid (Below.refl w.heap.size w)
  have heq := eql_rhead G G
  rw [eqH_self] at heq
  clear g1 g2 hs hl
  go_enter Tryd.func3, Tryd.ntmps3
  go_wp2_with fail
  refine (D1.out _ HB.out HL.out).mono ?_
  rintro e w1 ⟨rfl, hw1⟩
  replace HL := Lib.hid ((HL.out).keptB hw1)
  replace HB := Lib.hid (bstep HB.out hw1)
  clear hw1
  replace HL := Lib.hid ((HL.out).laid (.cells #[.int .i64 G.t, .int .i64 G.d, .int .i64 G.f, .int .i64 G.c, .int .u8 G.p.c.b0, .int .u8 G.p.c.b1, .int .u8 G.p.c.b2, .int .u8 G.p.c.b3, .int .u8 G.p.c.b4, .int .u8 G.p.c.b5, .int .u8 G.p.c.b6, .int .u8 G.p.c.b7, .int .i64 G.p.n, .int .i64 G.s, .int .i64 G.l] 28))
  have KA := Lib.hid (Holds.fresh w1 28 #[.int .i64 G.t, .int .i64 G.d, .int .i64 G.f, .int .i64 G.c, .int .u8 G.p.c.b0, .int .u8 G.p.c.b1, .int .u8 G.p.c.b2, .int .u8 G.p.c.b3, .int .u8 G.p.c.b4, .int .u8 G.p.c.b5, .int .u8 G.p.c.b6, .int .u8 G.p.c.b7, .int .i64 G.p.n, .int .i64 G.s, .int .i64 G.l] (g := (w1).heap.size) rfl)
  replace HB := Lib.hid (bstep HB.out (bnew _ (.cells #[.int .i64 G.t, .int .i64 G.d, .int .i64 G.f, .int .i64 G.c, .int .u8 G.p.c.b0, .int .u8 G.p.c.b1, .int .u8 G.p.c.b2, .int .u8 G.p.c.b3, .int .u8 G.p.c.b4, .int .u8 G.p.c.b5, .int .u8 G.p.c.b6, .int .u8 G.p.c.b7, .int .i64 G.p.n, .int .i64 G.s, .int .i64 G.l] 28)))
  go_wp2_with fail
  refine (D2.out _ HB.out).mono ?_
  rintro e w2 ⟨rfl, hw2⟩
  replace HL := Lib.hid ((HL.out).keptB hw2)
  replace KA := Lib.hid ((KA.out).keptB hw2)
  replace HB := Lib.hid (bstep HB.out hw2)
  clear hw2
  replace HL := Lib.hid ((HL.out).laid (.cells #[.int .i64 G.t, .int .i64 G.d, .int .i64 G.f, .int .i64 G.c, .int .u8 G.p.c.b0, .int .u8 G.p.c.b1, .int .u8 G.p.c.b2, .int .u8 G.p.c.b3, .int .u8 G.p.c.b4, .int .u8 G.p.c.b5, .int .u8 G.p.c.b6, .int .u8 G.p.c.b7, .int .i64 G.p.n, .int .i64 G.s, .int .i64 G.l] 32))
  replace KA := Lib.hid ((KA.out).laid (.cells #[.int .i64 G.t, .int .i64 G.d, .int .i64 G.f, .int .i64 G.c, .int .u8 G.p.c.b0, .int .u8 G.p.c.b1, .int .u8 G.p.c.b2, .int .u8 G.p.c.b3, .int .u8 G.p.c.b4, .int .u8 G.p.c.b5, .int .u8 G.p.c.b6, .int .u8 G.p.c.b7, .int .i64 G.p.n, .int .i64 G.s, .int .i64 G.l] 32))
  have KB := Lib.hid (Holds.fresh w2 32 #[.int .i64 G.t, .int .i64 G.d, .int .i64 G.f, .int .i64 G.c, .int .u8 G.p.c.b0, .int .u8 G.p.c.b1, .int .u8 G.p.c.b2, .int .u8 G.p.c.b3, .int .u8 G.p.c.b4, .int .u8 G.p.c.b5, .int .u8 G.p.c.b6, .int .u8 G.p.c.b7, .int .i64 G.p.n, .int .i64 G.s, .int .i64 G.l] (g := (w2).heap.size) rfl)
  replace HB := Lib.hid (bstep HB.out (bnew _ (.cells #[.int .i64 G.t, .int .i64 G.d, .int .i64 G.f, .int .i64 G.c, .int .u8 G.p.c.b0, .int .u8 G.p.c.b1, .int .u8 G.p.c.b2, .int .u8 G.p.c.b3, .int .u8 G.p.c.b4, .int .u8 G.p.c.b5, .int .u8 G.p.c.b6, .int .u8 G.p.c.b7, .int .i64 G.p.n, .int .i64 G.s, .int .i64 G.l] 32)))
  go_wp2_with fail
  refine (alive5_any _ HL.out).mono ?_
  rintro e w3 ⟨rfl, hw3⟩
  replace HL := Lib.hid ((HL.out).keptB hw3)
  replace KA := Lib.hid ((KA.out).keptB hw3)
  replace KB := Lib.hid ((KB.out).keptB hw3)
  replace HB := Lib.hid (bstep HB.out hw3)
  clear hw3
  have x4_0 := (KA.out).reads (i := 0) rfl
  have x4_1 := (KA.out).reads (i := 1) rfl
  have x4_2 := (KA.out).reads (i := 2) rfl
  have x4_3 := (KA.out).reads (i := 3) rfl
  have x4_4 := (KA.out).reads (i := 4) rfl
  have x4_5 := (KA.out).reads (i := 5) rfl
  have x4_6 := (KA.out).reads (i := 6) rfl
  have x4_7 := (KA.out).reads (i := 7) rfl
  have x4_8 := (KA.out).reads (i := 8) rfl
  have x4_9 := (KA.out).reads (i := 9) rfl
  have x4_10 := (KA.out).reads (i := 10) rfl
  have x4_11 := (KA.out).reads (i := 11) rfl
  have x4_12 := (KA.out).reads (i := 12) rfl
  have x4_13 := (KA.out).reads (i := 13) rfl
  have x4_14 := (KA.out).reads (i := 14) rfl
  have x5_0 := (KB.out).reads (i := 0) rfl
  have x5_1 := (KB.out).reads (i := 1) rfl
  have x5_2 := (KB.out).reads (i := 2) rfl
  have x5_3 := (KB.out).reads (i := 3) rfl
  have x5_4 := (KB.out).reads (i := 4) rfl
  have x5_5 := (KB.out).reads (i := 5) rfl
  have x5_6 := (KB.out).reads (i := 6) rfl
  have x5_7 := (KB.out).reads (i := 7) rfl
  have x5_8 := (KB.out).reads (i := 8) rfl
  have x5_9 := (KB.out).reads (i := 9) rfl
  have x5_10 := (KB.out).reads (i := 10) rfl
  have x5_11 := (KB.out).reads (i := 11) rfl
  have x5_12 := (KB.out).reads (i := 12) rfl
  have x5_13 := (KB.out).reads (i := 13) rfl
  have x5_14 := (KB.out).reads (i := 14) rfl
  go_wp2
  go_ret
  exact ⟨rfl, HB.out⟩

end Go.Proofs.YtifhjmhekapaoaaDoor
