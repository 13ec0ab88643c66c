/- The walk over the laws' own alive() of layer 5: it is true. -/
import Derived.Test.YtifhjmhekapaoaaDoorHeadEq
import Derived.Test.YtifhjmhekapaoaaDoorHeadAppend
import Derived.Test.YtifhjmhekapaoaaDoorByHand
import Derived.Test.YtifhjmhekapaoaaDoorKeep2
namespace Go.Proofs.YtifhjmhekapaoaaDoor
set_option maxRecDepth 100000
open Go.RowKit
set_option linter.unusedVariables false

def aH : Hd := (⟨0, 3, 512, -5, ⟨zeroC, 1⟩, 258, -3⟩ : Hd)
theorem aH_right : aH.right = true := by decide
theorem aH_ok : aH.p.c.ok := by unfold Ck.ok Ck.l isByte aH zeroC; decide
theorem aH_enc (w : World) (hl : Lens w) : Calls Tryd.prog 29 #[.agg #[.int .i64 0, .int .i64 3, .int .i64 512, .int .i64 (-5), .int .u8 0, .int .u8 0, .int .u8 0, .int .u8 0, .int .u8 0, .int .u8 0, .int .u8 0, .int .u8 0, .int .i64 1, .int .i64 258, .int .i64 (-3)]] w fun e w' => ∃ g, w.heap.size ≤ g ∧ e = .returned (.tuple #[.slice (some ⟨g, 0, none⟩) 34 34, .bool true]) ∧ Holds w' g 5 (byteCells (encL aH)) ∧ Below w.heap.size w w' := encode_yes aH w hl aH_right
theorem aH_dec (w : World) (g C : Nat) (hC : 44 ≤ C) (hM : C ≤ maxLen) (hl : Lens w) (hc : BytesAt w ⟨g, 0, none⟩ (encL aH ++ List.replicate 10 0)) :
    Calls Tryd.prog 6 #[.slice (some ⟨g, 0, none⟩) 44 C] w fun e w' => e = .returned (.tuple #[.agg #[.int .i64 0, .int .i64 3, .int .i64 512, .int .i64 (-5), .int .u8 0, .int .u8 0, .int .u8 0, .int .u8 0, .int .u8 0, .int .u8 0, .int .u8 0, .int .u8 0, .int .i64 1, .int .i64 258, .int .i64 (-3)], .int .i64 0]) ∧ Below w.heap.size w w' := by
  have hlen : (encL aH ++ List.replicate 10 0).length = 44 := by rw [List.length_append, encL_length, List.length_replicate]
  have h := decode_any ⟨g, 0, none⟩ 44 C (encL aH ++ List.replicate 10 0) w hlen (by omega) hC hM (app_byte (encL_byte aH_right aH_ok) (rep_byte 10)) hc hl
  have hd := dec_enc aH (List.replicate 10 0) 44 (by omega) aH_right (by decide) (by decide) (by rfl)
  rw [show ((44 : Nat) : Int) = 44 from rfl, hd.1, hd.2] at h
  exact h
theorem aH_eq (w : World) : (binOp .eql 28 (.agg #[.int .i64 0, .int .i64 3, .int .i64 512, .int .i64 (-5), .int .u8 0, .int .u8 0, .int .u8 0, .int .u8 0, .int .u8 0, .int .u8 0, .int .u8 0, .int .u8 0, .int .i64 1, .int .i64 258, .int .i64 (-3)]) (.agg #[.int .i64 0, .int .i64 3, .int .i64 512, .int .i64 (-5), .int .u8 0, .int .u8 0, .int .u8 0, .int .u8 0, .int .u8 0, .int .u8 0, .int .u8 0, .int .u8 0, .int .i64 1, .int .i64 258, .int .i64 (-3)])).run Tryd.prog w = .ok (.bool true) w := by
  have h := eql_head aH aH w
  rw [eqH_self] at h
  exact h
theorem next_last (w : World) : Calls Tryd.prog 30 #[.int .i64 65535] w fun e w' => e = .returned (.int .i64 0) ∧ Below w.heap.size w w' :=
  (next_any 65535 w).mono fun _ _ ⟨he, hw⟩ => ⟨he.trans (by rfl), hw ▸ Below.refl _ _⟩
theorem behind_first (w : World) : Calls Tryd.prog 31 #[.int .i64 0, .int .i64 65535] w fun e w' => e = .returned (.bool true) ∧ Below w.heap.size w w' :=
  (behind_any 0 65535 w).mono fun _ _ ⟨he, hw⟩ => ⟨he.trans (by rfl), hw ▸ Below.refl _ _⟩
theorem behind_five (w : World) : Calls Tryd.prog 31 #[.int .i64 5, .int .i64 5] w fun e w' => e = .returned (.bool false) ∧ Below w.heap.size w w' :=
  (behind_any 5 5 w).mono fun _ _ ⟨he, hw⟩ => ⟨he.trans (by rfl), hw ▸ Below.refl _ _⟩
set_option maxRecDepth 100000 in
set_option maxHeartbeats 4000000 in
theorem alive5_any  (w : World) (hl : Lens w) :
    Calls Tryd.prog 8 #[] w fun e w' => e = .returned (.bool true) ∧ Below w.heap.size w w' := by
  have HL := Lib.hid hl
  have HB := Lib.hid (Below.refl w.heap.size w)
  clear hl
  have heq := aH_eq
  go_enter Tryd.func8, Tryd.ntmps8
  go_wp2_with fail
  replace HL := Lib.hid ((HL.out).laid (.cells #[.int .i64 0, .int .i64 3, .int .i64 512, .int .i64 (-5), .int .u8 0, .int .u8 0, .int .u8 0, .int .u8 0, .int .u8 0, .int .u8 0, .int .u8 0, .int .u8 0, .int .i64 1, .int .i64 258, .int .i64 (-3)] 28))
  have KA := Lib.hid (Holds.fresh w 28 #[.int .i64 0, .int .i64 3, .int .i64 512, .int .i64 (-5), .int .u8 0, .int .u8 0, .int .u8 0, .int .u8 0, .int .u8 0, .int .u8 0, .int .u8 0, .int .u8 0, .int .i64 1, .int .i64 258, .int .i64 (-3)] (g := (w).heap.size) rfl)
  replace HB := Lib.hid (bstep HB.out (bnew _ (.cells #[.int .i64 0, .int .i64 3, .int .i64 512, .int .i64 (-5), .int .u8 0, .int .u8 0, .int .u8 0, .int .u8 0, .int .u8 0, .int .u8 0, .int .u8 0, .int .u8 0, .int .i64 1, .int .i64 258, .int .i64 (-3)] 28)))
  have x1_0 := (KA.out).reads (i := 0) rfl
  have x1_1 := (KA.out).reads (i := 1) rfl
  have x1_2 := (KA.out).reads (i := 2) rfl
  have x1_3 := (KA.out).reads (i := 3) rfl
  have x1_4 := (KA.out).reads (i := 4) rfl
  have x1_5 := (KA.out).reads (i := 5) rfl
  have x1_6 := (KA.out).reads (i := 6) rfl
  have x1_7 := (KA.out).reads (i := 7) rfl
  have x1_8 := (KA.out).reads (i := 8) rfl
  have x1_9 := (KA.out).reads (i := 9) rfl
  have x1_10 := (KA.out).reads (i := 10) rfl
  have x1_11 := (KA.out).reads (i := 11) rfl
  have x1_12 := (KA.out).reads (i := 12) rfl
  have x1_13 := (KA.out).reads (i := 13) rfl
  have x1_14 := (KA.out).reads (i := 14) rfl
  refine (aH_enc _ HL.out).mono ?_
  rintro e w2 ⟨g1, -, rfl, n_KG, hw2⟩
  clear x1_0 x1_1 x1_2 x1_3 x1_4 x1_5 x1_6 x1_7 x1_8 x1_9 x1_10 x1_11 x1_12 x1_13 x1_14
  replace HL := Lib.hid ((HL.out).keptB hw2)
  replace KA := Lib.hid ((KA.out).keptB hw2)
  replace HB := Lib.hid (bstep HB.out hw2)
  have KG := Lib.hid (show Holds w2 g1 5 (byteCells (encL aH)) from n_KG)
  clear n_KG
  clear hw2
  go_wp2_with (at_builtin; refine wpList_append_zeros rfl _ _ rfl g1 34 (encL aH) (encL_length aH) (by omega) KG.out 10 (by omega) (by omega) rfl rfl ?_; intro cap w8 hcap1 hcap2 hrow hb8)
  replace HL := Lib.hid ((HL.out).keptB hb8)
  replace KA := Lib.hid ((KA.out).keptB hb8)
  replace KG := Lib.hid ((KG.out).keptB hb8)
  replace HB := Lib.hid (bstep HB.out hb8)
  have HR := Lib.hid (row_bytes hrow)
  clear hrow hb8 KG
  have hsp : encL aH ++ List.replicate (cap - 34) 0 = (encL aH ++ List.replicate 10 0) ++ List.replicate (cap - 44) 0 := by
    rw [List.append_assoc, List.replicate_append_replicate]
    congr 2
    omega
  rw [hsp] at HR
  clear hsp
  have HR2 := Lib.hid (HR.out).front
  clear HR
  go_wp2_with fail
  refine (aH_dec _ _ cap hcap1 hcap2 HL.out HR2.out).mono ?_
  rintro e w3 ⟨rfl, hw3⟩
  replace HL := Lib.hid ((HL.out).keptB hw3)
  replace KA := Lib.hid ((KA.out).keptB hw3)
  replace HB := Lib.hid (bstep HB.out hw3)
  clear hw3
  clear HR2
  replace HL := Lib.hid ((HL.out).laid (.cells #[.int .i64 0, .int .i64 3, .int .i64 512, .int .i64 (-5), .int .u8 0, .int .u8 0, .int .u8 0, .int .u8 0, .int .u8 0, .int .u8 0, .int .u8 0, .int .u8 0, .int .i64 1, .int .i64 258, .int .i64 (-3)] 28))
  replace KA := Lib.hid ((KA.out).laid (.cells #[.int .i64 0, .int .i64 3, .int .i64 512, .int .i64 (-5), .int .u8 0, .int .u8 0, .int .u8 0, .int .u8 0, .int .u8 0, .int .u8 0, .int .u8 0, .int .u8 0, .int .i64 1, .int .i64 258, .int .i64 (-3)] 28))
  have KB := Lib.hid (Holds.fresh w3 28 #[.int .i64 0, .int .i64 3, .int .i64 512, .int .i64 (-5), .int .u8 0, .int .u8 0, .int .u8 0, .int .u8 0, .int .u8 0, .int .u8 0, .int .u8 0, .int .u8 0, .int .i64 1, .int .i64 258, .int .i64 (-3)] (g := (w3).heap.size) rfl)
  replace HB := Lib.hid (bstep HB.out (bnew _ (.cells #[.int .i64 0, .int .i64 3, .int .i64 512, .int .i64 (-5), .int .u8 0, .int .u8 0, .int .u8 0, .int .u8 0, .int .u8 0, .int .u8 0, .int .u8 0, .int .u8 0, .int .i64 1, .int .i64 258, .int .i64 (-3)] 28)))
  have x4_0 := (KA.out).reads (i := 0) rfl
  have x4_1 := (KA.out).reads (i := 1) rfl
  have x4_2 := (KA.out).reads (i := 2) rfl
  have x4_3 := (KA.out).reads (i := 3) rfl
  have x4_4 := (KA.out).reads (i := 4) rfl
  have x4_5 := (KA.out).reads (i := 5) rfl
  have x4_6 := (KA.out).reads (i := 6) rfl
  have x4_7 := (KA.out).reads (i := 7) rfl
  have x4_8 := (KA.out).reads (i := 8) rfl
  have x4_9 := (KA.out).reads (i := 9) rfl
  have x4_10 := (KA.out).reads (i := 10) rfl
  have x4_11 := (KA.out).reads (i := 11) rfl
  have x4_12 := (KA.out).reads (i := 12) rfl
  have x4_13 := (KA.out).reads (i := 13) rfl
  have x4_14 := (KA.out).reads (i := 14) rfl
  have x5_0 := (KB.out).reads (i := 0) rfl
  have x5_1 := (KB.out).reads (i := 1) rfl
  have x5_2 := (KB.out).reads (i := 2) rfl
  have x5_3 := (KB.out).reads (i := 3) rfl
  have x5_4 := (KB.out).reads (i := 4) rfl
  have x5_5 := (KB.out).reads (i := 5) rfl
  have x5_6 := (KB.out).reads (i := 6) rfl
  have x5_7 := (KB.out).reads (i := 7) rfl
  have x5_8 := (KB.out).reads (i := 8) rfl
  have x5_9 := (KB.out).reads (i := 9) rfl
  have x5_10 := (KB.out).reads (i := 10) rfl
  have x5_11 := (KB.out).reads (i := 11) rfl
  have x5_12 := (KB.out).reads (i := 12) rfl
  have x5_13 := (KB.out).reads (i := 13) rfl
  have x5_14 := (KB.out).reads (i := 14) rfl
  go_wp2_with fail
  refine (next_last _).mono ?_
  rintro e w6 ⟨rfl, hw6⟩
  clear x4_0 x4_1 x4_2 x4_3 x4_4 x4_5 x4_6 x4_7 x4_8 x4_9 x4_10 x4_11 x4_12 x4_13 x4_14 x5_0 x5_1 x5_2 x5_3 x5_4 x5_5 x5_6 x5_7 x5_8 x5_9 x5_10 x5_11 x5_12 x5_13 x5_14
  replace HL := Lib.hid ((HL.out).keptB hw6)
  replace KA := Lib.hid ((KA.out).keptB hw6)
  replace KB := Lib.hid ((KB.out).keptB hw6)
  replace HB := Lib.hid (bstep HB.out hw6)
  clear hw6
  go_wp2_with fail
  refine (behind_first _).mono ?_
  rintro e w7 ⟨rfl, hw7⟩
  replace HL := Lib.hid ((HL.out).keptB hw7)
  replace KA := Lib.hid ((KA.out).keptB hw7)
  replace KB := Lib.hid ((KB.out).keptB hw7)
  replace HB := Lib.hid (bstep HB.out hw7)
  clear hw7
  go_wp2_with fail
  refine (behind_five _).mono ?_
  rintro e w8 ⟨rfl, hw8⟩
  replace HL := Lib.hid ((HL.out).keptB hw8)
  replace KA := Lib.hid ((KA.out).keptB hw8)
  replace KB := Lib.hid ((KB.out).keptB hw8)
  replace HB := Lib.hid (bstep HB.out hw8)
  clear hw8
  go_wp2
  go_ret
  exact ⟨rfl, HB.out⟩

end Go.Proofs.YtifhjmhekapaoaaDoor
