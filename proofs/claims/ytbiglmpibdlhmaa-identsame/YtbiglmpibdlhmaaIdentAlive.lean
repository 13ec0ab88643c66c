/- The walk over the laws' own alive() of layer 4: it is true. -/
import Derived.Test.YtbiglmpibdlhmaaIdentPutRef
import Derived.Test.YtbiglmpibdlhmaaIdentReadRef
namespace Go.Proofs.Ytbiglmpibdlhmaa
open Go.RowKit
set_option linter.unusedVariables false

theorem of_0 (w : World) : Calls Try.prog 24 #[.agg #[.int .u8 0, .int .u8 27, .int .u8 25, .int .u8 170, .int .u8 187, .int .u8 204]] w fun e w' => e = .returned (.agg #[.int .u8 0, .int .u8 27, .int .u8 25, .int .u8 255, .int .u8 254, .int .u8 170, .int .u8 187, .int .u8 204]) ∧ Below w.heap.size w w' := ofc_any 0 27 25 170 187 204 w
theorem read_0 (w : World) : Calls Try.prog 16 #[.string { data := #[48, 48, 49, 98, 49, 57, 102, 102, 102, 101, 97, 97, 98, 98, 99, 99] }] w fun e w' => e = .returned (.tuple #[.agg #[.int .u8 0, .int .u8 27, .int .u8 25, .int .u8 255, .int .u8 254, .int .u8 170, .int .u8 187, .int .u8 204], .bool true]) ∧ Below w.heap.size w w' :=
  (idread_16 _ w rfl).mono fun _ _ ⟨he, hb⟩ => ⟨he.trans rfl, hb⟩
theorem text_0 (w : World) : Calls Try.prog 18 #[.agg #[.int .u8 0, .int .u8 27, .int .u8 25, .int .u8 255, .int .u8 254, .int .u8 170, .int .u8 187, .int .u8 204]] w fun e w' => e = .returned (.string { data := #[48, 48, 49, 98, 49, 57, 102, 102, 102, 101, 97, 97, 98, 98, 99, 99] }) ∧ Below w.heap.size w w' :=
  (text_any ⟨0, 27, 25, 255, 254, 170, 187, 204⟩ (by unfold Ck.ok Ck.l isByte; decide) w).mono fun _ _ ⟨he, hb⟩ => ⟨he.trans rfl, hb⟩
theorem compare_0 (w : World) : Calls Try.prog 10 #[.agg #[.int .u8 0, .int .u8 0, .int .u8 0, .int .u8 0, .int .u8 0, .int .u8 0, .int .u8 0, .int .u8 0], .agg #[.int .u8 0, .int .u8 27, .int .u8 25, .int .u8 255, .int .u8 254, .int .u8 170, .int .u8 187, .int .u8 204]] w fun e w' => e = .returned (.int .i64 (-1)) ∧ Below w.heap.size w w' :=
  (compare_any zeroC ⟨0, 27, 25, 255, 254, 170, 187, 204⟩ w).mono fun _ _ ⟨he, hb⟩ => ⟨he.trans rfl, hb⟩
theorem zero_0 (w : World) : Calls Try.prog 15 #[.agg #[.int .u8 0, .int .u8 0, .int .u8 0, .int .u8 0, .int .u8 0, .int .u8 0, .int .u8 0, .int .u8 0]] w fun e w' => e = .returned (.bool true) ∧ Below w.heap.size w w' :=
  (zero_any zeroC w).mono fun _ _ ⟨he, hb⟩ => ⟨he.trans rfl, hb⟩
theorem eql_0 (w : World) : (binOp .eql 23 (.agg #[.int .u8 0, .int .u8 27, .int .u8 25, .int .u8 255, .int .u8 254, .int .u8 170, .int .u8 187, .int .u8 204]) (.agg #[.int .u8 0, .int .u8 27, .int .u8 25, .int .u8 255, .int .u8 254, .int .u8 170, .int .u8 187, .int .u8 204])).run Try.prog w = .ok (.bool true) w := eql_clock ⟨0, 27, 25, 255, 254, 170, 187, 204⟩ ⟨0, 27, 25, 255, 254, 170, 187, 204⟩ w

set_option maxHeartbeats 1000000 in
theorem alive4_any (w : World) : Calls Try.prog 14 #[] w fun e w' => e = .returned (.bool true) ∧ Below w.heap.size w w' := by
  have heq := eql_0
  go_enter Try.func14, Try.ntmps14
  go_wp2_with fail
  refine (of_0 _).mono ?_
  rintro e w1 ⟨rfl, hb1⟩
  have K1 := Lib.hid (Holds.fresh w1 23 #[.int .u8 0, .int .u8 27, .int .u8 25, .int .u8 255, .int .u8 254, .int .u8 170, .int .u8 187, .int .u8 204] rfl)
  have HB := Lib.hid (bstep hb1 (bnew w1 (.cells #[.int .u8 0, .int .u8 27, .int .u8 25, .int .u8 255, .int .u8 254, .int .u8 170, .int .u8 187, .int .u8 204] 23)))
  clear hb1
  go_wp2_with fail
  refine (read_0 _).mono ?_
  rintro e w2 ⟨rfl, hb2⟩
  replace K1 := Lib.hid (((K1.out).kept hb2 (K1.out).inside).laid (.cells #[.int .u8 0, .int .u8 27, .int .u8 25, .int .u8 255, .int .u8 254, .int .u8 170, .int .u8 187, .int .u8 204] 23))
  have K2 := Lib.hid (Holds.fresh w2 23 #[.int .u8 0, .int .u8 27, .int .u8 25, .int .u8 255, .int .u8 254, .int .u8 170, .int .u8 187, .int .u8 204] rfl)
  replace HB := Lib.hid (bstep (bstep HB.out hb2) (bnew w2 (.cells #[.int .u8 0, .int .u8 27, .int .u8 25, .int .u8 255, .int .u8 254, .int .u8 170, .int .u8 187, .int .u8 204] 23)))
  clear hb2
  have c0 := (K1.out).reads (i := 0) rfl
  have c1 := (K1.out).reads (i := 1) rfl
  have c2 := (K1.out).reads (i := 2) rfl
  have c3 := (K1.out).reads (i := 3) rfl
  have c4 := (K1.out).reads (i := 4) rfl
  have c5 := (K1.out).reads (i := 5) rfl
  have c6 := (K1.out).reads (i := 6) rfl
  have c7 := (K1.out).reads (i := 7) rfl
  go_wp2_with fail
  refine (text_0 _).mono ?_
  rintro e w3 ⟨rfl, hb3⟩
  replace K1 := Lib.hid ((K1.out).kept hb3 (K1.out).inside)
  replace K2 := Lib.hid ((K2.out).kept hb3 (K2.out).inside)
  replace HB := Lib.hid (bstep HB.out hb3)
  clear hb3 c0 c1 c2 c3 c4 c5 c6 c7
  have c0 := (K1.out).reads (i := 0) rfl
  have c1 := (K1.out).reads (i := 1) rfl
  have c2 := (K1.out).reads (i := 2) rfl
  have c3 := (K1.out).reads (i := 3) rfl
  have c4 := (K1.out).reads (i := 4) rfl
  have c5 := (K1.out).reads (i := 5) rfl
  have c6 := (K1.out).reads (i := 6) rfl
  have c7 := (K1.out).reads (i := 7) rfl
  have d0 := (K2.out).reads (i := 0) rfl
  have d1 := (K2.out).reads (i := 1) rfl
  have d2 := (K2.out).reads (i := 2) rfl
  have d3 := (K2.out).reads (i := 3) rfl
  have d4 := (K2.out).reads (i := 4) rfl
  have d5 := (K2.out).reads (i := 5) rfl
  have d6 := (K2.out).reads (i := 6) rfl
  have d7 := (K2.out).reads (i := 7) rfl
  go_wp2_with fail
  refine (compare_0 _).mono ?_
  rintro e w4 ⟨rfl, hb4⟩
  replace HB := Lib.hid (bstep HB.out hb4)
  clear hb4 c0 c1 c2 c3 c4 c5 c6 c7 d0 d1 d2 d3 d4 d5 d6 d7
  go_wp2_with fail
  refine (zero_0 _).mono ?_
  rintro e w5 ⟨rfl, hb5⟩
  go_wp2
  go_ret
  exact ⟨rfl, bstep HB.out hb5⟩

end Go.Proofs.Ytbiglmpibdlhmaa
