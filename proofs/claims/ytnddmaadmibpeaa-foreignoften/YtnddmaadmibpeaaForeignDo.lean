/- The walks over the laws' own far and does. -/
import Derived.Test.YtnddmaadmibpeaaForeignHear
import Derived.Test.YtnddmaadmibpeaaForeignQual
import Derived.Deep.DeepCutAuto
namespace Go.Proofs.Ytnddmaadmibpeaa
set_option maxRecDepth 100000
open Go.RowKit
set_option linter.unusedVariables false
set_option linter.unusedSimpArgs false

/-- a call's cells -/
def opC (kd now : Int) (s : Rs) : Array Value := #[.int .i64 kd, .int .i64 now, .int .i64 s.p1, .int .i64 s.p2, .int .i64 s.q1, .int .i64 s.q2, .int .i64 s.q3, .int .u8 s.gr.b0, .int .u8 s.gr.b1, .int .u8 s.gr.b2, .int .u8 s.gr.b3, .int .u8 s.gr.b4, .int .u8 s.gr.b5, .int .u8 s.gr.b6, .int .u8 s.gr.b7, .int .i64 s.st, .int .u8 s.sn.c.b0, .int .u8 s.sn.c.b1, .int .u8 s.sn.c.b2, .int .u8 s.sn.c.b3, .int .u8 s.sn.c.b4, .int .u8 s.sn.c.b5, .int .u8 s.sn.c.b6, .int .u8 s.sn.c.b7, .int .i64 s.sn.n, .int .u8 s.rc.c.b0, .int .u8 s.rc.c.b1, .int .u8 s.rc.c.b2, .int .u8 s.rc.c.b3, .int .u8 s.rc.c.b4, .int .u8 s.rc.c.b5, .int .u8 s.rc.c.b6, .int .u8 s.rc.c.b7, .int .i64 s.rc.n]
def farB (now : Int) : Bool := decide (now < -4611686018427387904) || decide (4611686018427387904 < now)
/-- what a call makes of a table, and what it tells -/
def doE (own : Ck) (win : Int) (L : List Fe) (kd now : Int) (s : Rs) : Int × List Fe :=
  if kd = 0 then hearE own win L s now else if kd = 1 then (if hasE L s.sn = true then 1 else 0, delE L s.sn) else if kd = 2 then (0, []) else (0, L)
theorem only_touch8 {B g : Nat} {a w v : World} (h : Below B a w) (t : Touch g w v) : Only [g] B a v :=
  ⟨t.os.trans h.os, t.tape.trans h.tape, t.output.trans h.output, by rw [t.size]; exact h.size, fun k hk hn => (t.block k (by simpa using hn)).trans (h.block k hk)⟩
set_option maxHeartbeats 4000000 in
theorem far8_any (now : Int) (w : World) :
    Calls Try.prog 12 #[.int .i64 now] w fun e w' => e = .returned (.bool (farB now)) ∧ w = w' := by
  by_cases h0 : now < -4611686018427387904
  · have HX : Hid (farB now = true) := by unfold farB; rw [Hid, decide_eq_true h0]; rfl
    have d0 : decide (now < -4611686018427387904) = true := decide_eq_true h0
    clear h0
    go_enter Try.func12, Try.ntmps12
    go_wp2
    go_ret
    exact ⟨ret_bool8 HX.out.symm, rfl⟩
  · by_cases h1 : 4611686018427387904 < now
    · have HX : Hid (farB now = true) := by unfold farB; rw [Hid, decide_eq_true h1]; simp
      have d0 : decide (now < -4611686018427387904) = false := decide_eq_false h0
      have d1 : decide (4611686018427387904 < now) = true := decide_eq_true h1
      clear h0 h1
      go_enter Try.func12, Try.ntmps12
      go_wp2
      go_ret
      exact ⟨ret_bool8 HX.out.symm, rfl⟩
    · have HX : Hid (farB now = false) := by unfold farB; rw [Hid, decide_eq_false h0, decide_eq_false h1]; rfl
      have d0 : decide (now < -4611686018427387904) = false := decide_eq_false h0
      have d1 : decide (4611686018427387904 < now) = false := decide_eq_false h1
      clear h0 h1
      go_enter Try.func12, Try.ntmps12
      go_wp2
      go_ret
      exact ⟨ret_bool8 HX.out.symm, rfl⟩
set_option maxHeartbeats 4000000 in
theorem does8_any (p m : Nat) (own : Ck) (win : Int) (L : List Fe) (kd now : Int) (s : Rs) (w : World) (hL : TabOk L) (h : TabAt w p m own win L) (ok : ptOk s.sn) (h2 : 0 ≤ win) (h3 : win ≤ 4398046511104) :
    Calls Try.prog 10 #[.pointer (some ⟨p, 0, none⟩), .agg (opC kd now s)] w fun e w' => e = .returned (.int .i64 (doE own win L kd now s).1) ∧ TabAt w' p m own win (doE own win L kd now s).2 ∧ Only [m] w.heap.size w w' := by
  have HB := Lib.hid (Below.refl w.heap.size w)
  have TB := Lib.hid h
  have HOK := Lib.hid ok
  have HL := Lib.hid hL
  clear h ok hL
  by_cases h0 : kd = 0
  · have HX : Hid (doE own win L kd now s = hearE own win L s now) := if_pos h0
    have d0 : (kd == 0) = true := by simp [h0]
    clear h0
    go_enter Try.func10, Try.ntmps10
    go_upto_region 1 with ((refine big_box rfl 39 _ rfl (opC kd now s) rfl (by kernel_rfl) ?_; intro gK3 wK3 hlK3 nK3 hbK3; have K3 := Lib.hid nK3; have LK3 := Lib.hid (Nat.le_trans (HB.out).size hlK3); have OTBK3 := Lib.hid ((TB.out).off hlK3); replace TB := Lib.hid ((TB.out).keptB hbK3); replace HB := Lib.hid (bstep HB.out hbK3); clear hlK3 nK3 hbK3))
    have x0 := (K3.out).reads (i := 0) (x := .int .i64 kd) rfl
    have x1 := (K3.out).reads (i := 1) (x := .int .i64 now) rfl
    have LZ := Lib.hid (HB.out).size
    go_wp2_with ((refine big_load rfl 37 _ rfl gK3 2 rfl K3.out [.int .i64 s.p1, .int .i64 s.p2, .int .i64 s.q1, .int .i64 s.q2, .int .i64 s.q3, .int .u8 s.gr.b0, .int .u8 s.gr.b1, .int .u8 s.gr.b2, .int .u8 s.gr.b3, .int .u8 s.gr.b4, .int .u8 s.gr.b5, .int .u8 s.gr.b6, .int .u8 s.gr.b7, .int .i64 s.st, .int .u8 s.sn.c.b0, .int .u8 s.sn.c.b1, .int .u8 s.sn.c.b2, .int .u8 s.sn.c.b3, .int .u8 s.sn.c.b4, .int .u8 s.sn.c.b5, .int .u8 s.sn.c.b6, .int .u8 s.sn.c.b7, .int .i64 s.sn.n, .int .u8 s.rc.c.b0, .int .u8 s.rc.c.b1, .int .u8 s.rc.c.b2, .int .u8 s.rc.c.b3, .int .u8 s.rc.c.b4, .int .u8 s.rc.c.b5, .int .u8 s.rc.c.b6, .int .u8 s.rc.c.b7, .int .i64 s.rc.n] rfl Try.underlying37 rfl (by kernel_rfl) ?_))
    clear x0 x1
    refine (hear8_any p m own win L s now _ HL.out TB.out HOK.out h2 h3).mono ?_
    rintro e c1 ⟨rfl, ht, ho⟩
    have HO := Lib.hid (Only.then_ HB.out ho LZ.out)
    have TB2 := Lib.hid ht
    clear ht ho TB HB K3
    go_wp2
    go_ret
    rw [HX.out]
    exact ⟨rfl, TB2.out, HO.out⟩
  · by_cases h1 : kd = 1
    · have HX : Hid (doE own win L kd now s = (if hasE L s.sn = true then 1 else 0, delE L s.sn)) := by unfold doE; rw [Hid, if_neg h0, if_pos h1]
      have d0 : (kd == 0) = false := by simpa using h0
      have d1 : (kd == 1) = true := by simp [h1]
      clear h0 h1
      go_enter Try.func10, Try.ntmps10
      go_upto_region 1 with ((refine big_box rfl 39 _ rfl (opC kd now s) rfl (by kernel_rfl) ?_; intro gK3 wK3 hlK3 nK3 hbK3; have K3 := Lib.hid nK3; have LK3 := Lib.hid (Nat.le_trans (HB.out).size hlK3); have OTBK3 := Lib.hid ((TB.out).off hlK3); replace TB := Lib.hid ((TB.out).keptB hbK3); replace HB := Lib.hid (bstep HB.out hbK3); clear hlK3 nK3 hbK3))
      have x0 := (K3.out).reads (i := 0) (x := .int .i64 kd) rfl
      have x1 := (K3.out).reads (i := 1) (x := .int .i64 now) rfl
      have LZ := Lib.hid (HB.out).size
      go_wp2_with ((refine big_load rfl 35 _ rfl gK3 16 rfl K3.out [.int .u8 s.sn.c.b0, .int .u8 s.sn.c.b1, .int .u8 s.sn.c.b2, .int .u8 s.sn.c.b3, .int .u8 s.sn.c.b4, .int .u8 s.sn.c.b5, .int .u8 s.sn.c.b6, .int .u8 s.sn.c.b7, .int .i64 s.sn.n] rfl Try.underlying35 rfl (by kernel_rfl) ?_))
      clear x0 x1
      refine (drop8_any p m own win L s.sn _ TB.out HOK.out).mono ?_
      rintro e c1 ⟨rfl, ht, ho⟩
      have HO := Lib.hid (Only.then_ HB.out ho LZ.out)
      have TB2 := Lib.hid ht
      clear ht ho TB HB K3
      cases hh : hasE L s.sn
      · rw [if_neg (by simp [hh])] at HX
        clear hh
        go_wp2
        go_ret
        rw [HX.out]
        exact ⟨rfl, TB2.out, HO.out⟩
      · rw [if_pos hh] at HX
        clear hh
        go_wp2
        go_ret
        rw [HX.out]
        exact ⟨rfl, TB2.out, HO.out⟩
    · by_cases hk : kd = 2
      · have HX : Hid (doE own win L kd now s = (0, [])) := by unfold doE; rw [Hid, if_neg h0, if_neg h1, if_pos hk]
        have d0 : (kd == 0) = false := by simpa using h0
        have d1 : (kd == 1) = false := by simpa using h1
        have d2 : (kd == 2) = true := by simp [hk]
        clear h0 h1 hk
        go_enter Try.func10, Try.ntmps10
        go_upto_region 1 with ((refine big_box rfl 39 _ rfl (opC kd now s) rfl (by kernel_rfl) ?_; intro gK3 wK3 hlK3 nK3 hbK3; have K3 := Lib.hid nK3; have LK3 := Lib.hid (Nat.le_trans (HB.out).size hlK3); have OTBK3 := Lib.hid ((TB.out).off hlK3); replace TB := Lib.hid ((TB.out).keptB hbK3); replace HB := Lib.hid (bstep HB.out hbK3); clear hlK3 nK3 hbK3))
        have x0 := (K3.out).reads (i := 0) (x := .int .i64 kd) rfl
        have x1 := (K3.out).reads (i := 1) (x := .int .i64 now) rfl
        have LZ := Lib.hid (HB.out).size
        go_wp2_with fail
        clear x0 x1
        refine (clear8_any p m own win L _ TB.out).mono ?_
        rintro e c1 ⟨rfl, ht, ho⟩
        have HO := Lib.hid (only_touch8 HB.out ho)
        have TB2 := Lib.hid ht
        clear ht ho TB HB K3
        go_wp2
        go_ret
        rw [HX.out]
        exact ⟨rfl, TB2.out, HO.out⟩
      · have HX : Hid (doE own win L kd now s = (0, L)) := by unfold doE; rw [Hid, if_neg h0, if_neg h1, if_neg hk]
        have d0 : (kd == 0) = false := by simpa using h0
        have d1 : (kd == 1) = false := by simpa using h1
        have d2 : (kd == 2) = false := by simpa using hk
        clear h0 h1 hk
        go_enter Try.func10, Try.ntmps10
        go_upto_region 1 with ((refine big_box rfl 39 _ rfl (opC kd now s) rfl (by kernel_rfl) ?_; intro gK3 wK3 hlK3 nK3 hbK3; have K3 := Lib.hid nK3; have LK3 := Lib.hid (Nat.le_trans (HB.out).size hlK3); have OTBK3 := Lib.hid ((TB.out).off hlK3); replace TB := Lib.hid ((TB.out).keptB hbK3); replace HB := Lib.hid (bstep HB.out hbK3); clear hlK3 nK3 hbK3))
        have x0 := (K3.out).reads (i := 0) (x := .int .i64 kd) rfl
        have x1 := (K3.out).reads (i := 1) (x := .int .i64 now) rfl
        have LZ := Lib.hid (HB.out).size
        go_wp2
        go_ret
        rw [HX.out]
        exact ⟨rfl, TB.out, only_of HB.out⟩

end Go.Proofs.Ytnddmaadmibpeaa
