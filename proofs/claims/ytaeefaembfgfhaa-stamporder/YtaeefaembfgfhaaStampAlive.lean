/- The walk over the laws' own alive() of layer 2: it is true. -/
import Derived.Test.YtaeefaembfgfhaaStampGet
namespace Go.Proofs.Ytaeefaembfgfhaa
open Go.RowKit

theorem of_1 (w : World) : Calls Try.prog 11 #[.int .i64 1000000001] w fun e w' => e = .returned (.tuple #[.agg #[.int .i64 1, .int .i64 1], .bool true]) ∧ Below w.heap.size w w' :=
  (of_any 1000000001 w).mono fun _ _ ⟨he, hb⟩ => ⟨he.trans (ret_ssb (by decide) (by decide) (by decide)), hb⟩
theorem nanos_1 (w : World) : Calls Try.prog 13 #[.agg #[.int .i64 2, .int .i64 5]] w fun e w' => e = .returned (.tuple #[.int .i64 2000000005, .bool true]) ∧ Below w.heap.size w w' :=
  (nanos_any 2 5 w).mono fun _ _ ⟨he, hb⟩ => ⟨he.trans (ret_ib (by decide) (by decide)), hb⟩
def PutOne (w : World) (e : Ending) (w' : World) : Prop := ∃ g, w.heap.size ≤ g ∧ w'.cell? ⟨g, 5, none⟩ = some (.int .u8 1) ∧ Below w.heap.size w w' ∧ e = .returned (.tuple #[.slice (some ⟨g, 0, none⟩) 10 10, .int .i64 0])
theorem put_1 (w : World) : Calls Try.prog 20 #[.agg #[.int .i64 1, .int .i64 1]] w (PutOne w) :=
  (put_yes 1 1 w (by decide)).mono fun _ _ ⟨g, hg, hh, hb, he⟩ => ⟨g, hg, hh.reads (i := 5) rfl, hb, he⟩

set_option maxHeartbeats 1000000 in
theorem alive2_any (w : World) : Calls Try.prog 15 #[] w fun e w' => e = .returned (.bool true) ∧ Below w.heap.size w w' := by
  have heq := eql_stamp
  have hs : sameB 1 1 1 1 = true := by decide
  go_enter Try.func15, Try.ntmps15
  go_wp2_with fail
  refine (of_1 _).mono ?_
  rintro e w1 ⟨rfl, hb1⟩
  go_wp2_with fail
  refine (nanos_1 _).mono ?_
  rintro e w2 ⟨rfl, hb2⟩
  have k0 := (Holds.fresh w1 24 #[.int .i64 1, .int .i64 1] rfl).kept hb2 (by simp)
  have c0 := k0.reads (i := 0) rfl
  have c1 := k0.reads (i := 1) rfl
  have K0 := Lib.hid k0
  have HB := Lib.hid (bstep (bstep hb1 (bnew _ _)) hb2)
  clear k0 hb1 hb2
  go_wp2_with fail
  refine (put_1 _).mono ?_
  rintro e w3 ⟨g, hg, hc, hb3, rfl⟩
  have k1 := (K0.out).kept hb3 (K0.out).inside
  have d0 := k1.reads (i := 0) rfl
  have d1 := k1.reads (i := 1) rfl
  have HB3 := Lib.hid (bstep HB.out hb3)
  clear k1 c0 c1 hb3 hg
  go_wp2_with fail
  refine (down_any _ _).mono ?_
  rintro e w4 ⟨rfl, rfl⟩
  go_wp2_with fail
  refine (up_any _ _ (by omega) (by omega)).mono ?_
  rintro e w5 ⟨rfl, rfl⟩
  go_wp2
  go_ret
  exact ⟨rfl, HB3.out⟩

end Go.Proofs.Ytaeefaembfgfhaa
