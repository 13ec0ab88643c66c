/- The walks over span's closures, between, every, Within. -/
import Derived.Test.YtblbjljfcoeeeaaSpanPlain
import Derived.Shelf.Abstract
namespace Go.Proofs.Ytblbjljfcoeeeaa
set_option maxRecDepth 100000
open Go.RowKit
set_option linter.unusedVariables false

/-- whoever calls f with c in a world that came of w gets x and B, and nothing that was there is changed -/
def Makes (w : World) (f : FuncId) (c : Array Value) (B : Bool) (x : Int) : Prop :=
  Enters Try.prog f ∧ ∀ v, Below w.heap.size w v → Calls Try.prog f c v fun e v' => e = .returned (.tuple #[.int .i64 x, .bool B]) ∧ Below v.heap.size v v'
theorem Makes.kept {w v : World} {f : FuncId} {c : Array Value} {B : Bool} {x : Int} (h : Makes w f c B x) (hb : Below w.heap.size w v) : Makes v f c B x :=
  ⟨h.1, fun u hu => h.2 u (bstep hb hu)⟩
/-- a value that is a bound: it makes x, or says that there is none -/
def IsBound (w : World) (b : Value) (B : Bool) (x : Int) : Prop := ∃ f c, b = .func (.func f) #[] c ∧ Makes w f c B x
theorem IsBound.kept {w v : World} {b : Value} {B : Bool} {x : Int} (h : IsBound w b B x) (hb : Below w.heap.size w v) : IsBound v b B x := by
  obtain ⟨f, c, h1, h2⟩ := h
  exact ⟨f, c, h1, h2.kept hb⟩

set_option maxHeartbeats 400000 in
theorem sumc_any (a b : Int) (g h : Nat) (w : World) (ka : w.cell? ⟨g, 0, none⟩ = some (.int .i64 a)) (kb : w.cell? ⟨h, 0, none⟩ = some (.int .i64 b)) :
    Calls Try.prog 63 #[.pointer (some ⟨g, 0, none⟩), .pointer (some ⟨h, 0, none⟩)] w fun e w' => e = .returned (.tuple #[.int .i64 (told (addB a b) (a + b)), .bool (addB a b)]) ∧ Below w.heap.size w w' := by
  go_enter Try.func63, Try.ntmps63
  go_wp2_with fail
  refine (add_any _ _ _).mono ?_
  rintro e w1 ⟨rfl, hb1⟩
  go_wp2
  go_ret2
  exact ⟨rfl, hb1⟩

set_option maxHeartbeats 400000 in
theorem sumb_any (a b : Int) (w : World) :
    Calls Try.prog 47 #[.int .i64 a, .int .i64 b] w fun e w' => ∃ f c, e = .returned (.func (.func f) #[] c) ∧ Makes w' f c (addB a b) (told (addB a b) (a + b)) ∧ Below w.heap.size w w' := by
  go_enter Try.func47, Try.ntmps47
  go_wp2
  go_ret
  refine ⟨_, _, rfl, ⟨enters_of Try.func63 (by kernel_rfl) rfl, fun v hv => sumc_any a b _ _ v ?_ ?_⟩, bstep (bnew _ _) (bnew _ _)⟩
  · exact keepc hv (by simp)
  · exact keepc hv (by simp)

set_option maxHeartbeats 400000 in
theorem lessc_any (a b : Int) (g h : Nat) (w : World) (ka : w.cell? ⟨g, 0, none⟩ = some (.int .i64 a)) (kb : w.cell? ⟨h, 0, none⟩ = some (.int .i64 b)) :
    Calls Try.prog 74 #[.pointer (some ⟨g, 0, none⟩), .pointer (some ⟨h, 0, none⟩)] w fun e w' => e = .returned (.tuple #[.int .i64 (told (subB a b) (a - b)), .bool (subB a b)]) ∧ Below w.heap.size w w' := by
  go_enter Try.func74, Try.ntmps74
  go_wp2_with fail
  refine (sub_any _ _ _).mono ?_
  rintro e w1 ⟨rfl, hb1⟩
  go_wp2
  go_ret2
  exact ⟨rfl, hb1⟩

set_option maxHeartbeats 400000 in
theorem lessb_any (a b : Int) (w : World) :
    Calls Try.prog 68 #[.int .i64 a, .int .i64 b] w fun e w' => ∃ f c, e = .returned (.func (.func f) #[] c) ∧ Makes w' f c (subB a b) (told (subB a b) (a - b)) ∧ Below w.heap.size w w' := by
  go_enter Try.func68, Try.ntmps68
  go_wp2
  go_ret
  refine ⟨_, _, rfl, ⟨enters_of Try.func74 (by kernel_rfl) rfl, fun v hv => lessc_any a b _ _ v ?_ ?_⟩, bstep (bnew _ _) (bnew _ _)⟩
  · exact keepc hv (by simp)
  · exact keepc hv (by simp)

set_option maxHeartbeats 1000000 in
theorem between0_any (B1 B2 : Bool) (x y : Int) (f1 f2 : FuncId) (c1 c2 : Array Value) (w : World) (m1 : Makes w f1 c1 B1 x) (m2 : Makes w f2 c2 B2 y) :
    Calls Try.prog 46 #[.func (.func f1) #[] c1, .func (.func f2) #[] c2, .slice none 0 0] w fun e w' => e = .returned (.agg #[.int .i64 (betS (true) B1 B2 x y).lo, .int .i64 (betS (true) B1 B2 x y).hi, .bool (betS (true) B1 B2 x y).k]) ∧ Below w.heap.size w w' := by
  have en1 : ∀ (args : Array Value) (w : World), (callFunc f1 args).run Try.prog w = .ok (.enter f1 args) w := m1.1
  have en2 : ∀ (args : Array Value) (w : World), (callFunc f2 args).run Try.prog w = .ok (.enter f2 args) w := m2.1
  have M1 := Lib.hid m1
  have M2 := Lib.hid m2
  clear m1 m2
  obtain ⟨X, HX⟩ : ∃ X, Hid (ofS x y = X) := ⟨_, Lib.hid rfl⟩
  cases B1
  · have H := Lib.hid (show betS (true) false B2 x y = unS by cases B2 <;> rfl)
    go_enter Try.func46, Try.ntmps46
    go_wp2
    refine wp_loop_rounds 1 ?_
    rw [rounds_succ]
    have K := Lib.hid (Holds.fresh w 38 #[.int .i64 0, .int .i64 0, .bool false] rfl)
    have HB := Lib.hid (bnew w (.cells #[.int .i64 0, .int .i64 0, .bool false] 38))
    go_wp2_with fail
    refine (M1.out.2 _ HB.out).mono ?_
    rintro e v1 ⟨rfl, hv1⟩
    replace HB := Lib.hid (bstep HB.out hv1)
    replace K := Lib.hid ((K.out).kept hv1 (K.out).inside)
    clear hv1
    go_wp2_with fail
    refine (unknown_any _).mono ?_
    rintro e v3 ⟨rfl, hv3⟩
    replace HB := Lib.hid (bstep HB.out hv3)
    replace K := Lib.hid ((K.out).kept hv3 (K.out).inside)
    clear hv3
    have k0 := (K.out).reads (i := 0) rfl; have k1 := (K.out).reads (i := 1) rfl; have k2 := (K.out).reads (i := 2) rfl
    have f0 := (K.out).open_ 0; have f1 := (K.out).open_ 1; have f2 := (K.out).open_ 2
    go_wp2
    refine bodyPost_ret (v := .agg #[.int .i64 0, .int .i64 0, .bool false]) (by simp [results, Try.results46, go_sem, k0, k1, k2]) rfl ⟨?_, ?_⟩
    · exact (by rw [H.out]; rfl)
    · exact (((HB.out).setCell (by simp) _).setCell (by simp) _).setCell (by simp) _
  · cases B2
    · have H := Lib.hid (show betS (true) true false x y = unS by rfl)
      go_enter Try.func46, Try.ntmps46
      go_wp2
      refine wp_loop_rounds 1 ?_
      rw [rounds_succ]
      have K := Lib.hid (Holds.fresh w 38 #[.int .i64 0, .int .i64 0, .bool false] rfl)
      have HB := Lib.hid (bnew w (.cells #[.int .i64 0, .int .i64 0, .bool false] 38))
      go_wp2_with fail
      refine (M1.out.2 _ HB.out).mono ?_
      rintro e v1 ⟨rfl, hv1⟩
      replace HB := Lib.hid (bstep HB.out hv1)
      replace K := Lib.hid ((K.out).kept hv1 (K.out).inside)
      clear hv1
      go_wp2_with fail
      refine (M2.out.2 _ HB.out).mono ?_
      rintro e v2 ⟨rfl, hv2⟩
      replace HB := Lib.hid (bstep HB.out hv2)
      replace K := Lib.hid ((K.out).kept hv2 (K.out).inside)
      clear hv2
      go_wp2_with fail
      refine (unknown_any _).mono ?_
      rintro e v3 ⟨rfl, hv3⟩
      replace HB := Lib.hid (bstep HB.out hv3)
      replace K := Lib.hid ((K.out).kept hv3 (K.out).inside)
      clear hv3
      have k0 := (K.out).reads (i := 0) rfl; have k1 := (K.out).reads (i := 1) rfl; have k2 := (K.out).reads (i := 2) rfl
      have f0 := (K.out).open_ 0; have f1 := (K.out).open_ 1; have f2 := (K.out).open_ 2
      go_wp2
      refine bodyPost_ret (v := .agg #[.int .i64 0, .int .i64 0, .bool false]) (by simp [results, Try.results46, go_sem, k0, k1, k2]) rfl ⟨?_, ?_⟩
      · exact (by rw [H.out]; rfl)
      · exact (((HB.out).setCell (by simp) _).setCell (by simp) _).setCell (by simp) _
    · have H := Lib.hid (show betS (true) true true x y = X by exact HX.out)
      go_enter Try.func46, Try.ntmps46
      go_wp2
      refine wp_loop_rounds 1 ?_
      rw [rounds_succ]
      have K := Lib.hid (Holds.fresh w 38 #[.int .i64 0, .int .i64 0, .bool false] rfl)
      have HB := Lib.hid (bnew w (.cells #[.int .i64 0, .int .i64 0, .bool false] 38))
      go_wp2_with fail
      refine (M1.out.2 _ HB.out).mono ?_
      rintro e v1 ⟨rfl, hv1⟩
      replace HB := Lib.hid (bstep HB.out hv1)
      replace K := Lib.hid ((K.out).kept hv1 (K.out).inside)
      clear hv1
      go_wp2_with fail
      refine (M2.out.2 _ HB.out).mono ?_
      rintro e v2 ⟨rfl, hv2⟩
      replace HB := Lib.hid (bstep HB.out hv2)
      replace K := Lib.hid ((K.out).kept hv2 (K.out).inside)
      clear hv2
      go_wp2_with fail
      refine (of3_any _ _ _).mono ?_
      rintro e v3 ⟨rfl, hv3⟩
      rw [HX.out]
      replace HB := Lib.hid (bstep HB.out hv3)
      replace K := Lib.hid ((K.out).kept hv3 (K.out).inside)
      clear hv3
      have k0 := (K.out).reads (i := 0) rfl; have k1 := (K.out).reads (i := 1) rfl; have k2 := (K.out).reads (i := 2) rfl
      have f0 := (K.out).open_ 0; have f1 := (K.out).open_ 1; have f2 := (K.out).open_ 2
      go_wp2
      refine bodyPost_ret (v := .agg #[.int .i64 (X).lo, .int .i64 (X).hi, .bool (X).k]) (by simp [results, Try.results46, go_sem, k0, k1, k2]) rfl ⟨?_, ?_⟩
      · exact ret_sp H.out.symm
      · exact (((HB.out).setCell (by simp) _).setCell (by simp) _).setCell (by simp) _

set_option maxHeartbeats 1000000 in
theorem between1_any (s : Sp) (g : Nat) (B1 B2 : Bool) (x y : Int) (f1 f2 : FuncId) (c1 c2 : Array Value) (w : World) (kg : Holds w g 27 #[.func (.func 44) #[.agg #[.int .i64 (s).lo, .int .i64 (s).hi, .bool (s).k]] #[]]) (m1 : Makes w f1 c1 B1 x) (m2 : Makes w f2 c2 B2 y) :
    Calls Try.prog 46 #[.func (.func f1) #[] c1, .func (.func f2) #[] c2, .slice (some ⟨g, 0, none⟩) 1 1] w fun e w' => e = .returned (.agg #[.int .i64 (betS (bndB s) B1 B2 x y).lo, .int .i64 (betS (bndB s) B1 B2 x y).hi, .bool (betS (bndB s) B1 B2 x y).k]) ∧ Below w.heap.size w w' := by
  have en1 : ∀ (args : Array Value) (w : World), (callFunc f1 args).run Try.prog w = .ok (.enter f1 args) w := m1.1
  have en2 : ∀ (args : Array Value) (w : World), (callFunc f2 args).run Try.prog w = .ok (.enter f2 args) w := m2.1
  have M1 := Lib.hid m1
  have M2 := Lib.hid m2
  have KG := Lib.hid kg
  have cg0 := ((KG.out).laid (.cells #[.int .i64 0, .int .i64 0, .bool false] 38)).reads (i := 0) rfl
  clear m1 m2 kg
  have C0 := Lib.hid (bounded_any s)
  obtain ⟨X, HX⟩ : ∃ X, Hid (ofS x y = X) := ⟨_, Lib.hid rfl⟩
  cases h0 : bndB s
  · rw [h0] at C0
    have H := Lib.hid (show betS (false) B1 B2 x y = unS by rfl)
    clear h0
    go_enter Try.func46, Try.ntmps46
    go_wp2
    refine wp_loop_rounds 2 ?_
    rw [rounds_succ]
    go_wp2_with fail
    refine (C0.out _).mono ?_
    rintro e u0 ⟨rfl, hu0⟩
    have K := Lib.hid ((Holds.fresh w 38 #[.int .i64 0, .int .i64 0, .bool false] rfl).kept hu0 (by simp))
    have HB := Lib.hid (bstep (bnew w (.cells #[.int .i64 0, .int .i64 0, .bool false] 38)) hu0)
    clear hu0
    go_wp2_with fail
    refine (unknown_any _).mono ?_
    rintro e v3 ⟨rfl, hv3⟩
    replace HB := Lib.hid (bstep HB.out hv3)
    replace K := Lib.hid ((K.out).kept hv3 (K.out).inside)
    clear hv3
    have k0 := (K.out).reads (i := 0) rfl; have k1 := (K.out).reads (i := 1) rfl; have k2 := (K.out).reads (i := 2) rfl
    have f0 := (K.out).open_ 0; have f1 := (K.out).open_ 1; have f2 := (K.out).open_ 2
    go_wp2
    refine bodyPost_ret (v := .agg #[.int .i64 0, .int .i64 0, .bool false]) (by simp [results, Try.results46, go_sem, k0, k1, k2]) rfl ⟨?_, ?_⟩
    · exact (by rw [H.out]; rfl)
    · exact (((HB.out).setCell (by simp) _).setCell (by simp) _).setCell (by simp) _
  · rw [h0] at C0
    cases B1
    · have H := Lib.hid (show betS (true) false B2 x y = unS by cases B2 <;> rfl)
      clear h0
      go_enter Try.func46, Try.ntmps46
      go_wp2
      refine wp_loop_rounds 2 ?_
      rw [rounds_succ]
      go_wp2_with fail
      refine (C0.out _).mono ?_
      rintro e u0 ⟨rfl, hu0⟩
      have K := Lib.hid ((Holds.fresh w 38 #[.int .i64 0, .int .i64 0, .bool false] rfl).kept hu0 (by simp))
      have HB := Lib.hid (bstep (bnew w (.cells #[.int .i64 0, .int .i64 0, .bool false] 38)) hu0)
      clear hu0
      go_wp2
      rw [rounds_succ]
      go_wp2_with fail
      refine (M1.out.2 _ HB.out).mono ?_
      rintro e v1 ⟨rfl, hv1⟩
      replace HB := Lib.hid (bstep HB.out hv1)
      replace K := Lib.hid ((K.out).kept hv1 (K.out).inside)
      clear hv1
      go_wp2_with fail
      refine (unknown_any _).mono ?_
      rintro e v3 ⟨rfl, hv3⟩
      replace HB := Lib.hid (bstep HB.out hv3)
      replace K := Lib.hid ((K.out).kept hv3 (K.out).inside)
      clear hv3
      have k0 := (K.out).reads (i := 0) rfl; have k1 := (K.out).reads (i := 1) rfl; have k2 := (K.out).reads (i := 2) rfl
      have f0 := (K.out).open_ 0; have f1 := (K.out).open_ 1; have f2 := (K.out).open_ 2
      go_wp2
      refine bodyPost_ret (v := .agg #[.int .i64 0, .int .i64 0, .bool false]) (by simp [results, Try.results46, go_sem, k0, k1, k2]) rfl ⟨?_, ?_⟩
      · exact (by rw [H.out]; rfl)
      · exact (((HB.out).setCell (by simp) _).setCell (by simp) _).setCell (by simp) _
    · cases B2
      · have H := Lib.hid (show betS (true) true false x y = unS by rfl)
        clear h0
        go_enter Try.func46, Try.ntmps46
        go_wp2
        refine wp_loop_rounds 2 ?_
        rw [rounds_succ]
        go_wp2_with fail
        refine (C0.out _).mono ?_
        rintro e u0 ⟨rfl, hu0⟩
        have K := Lib.hid ((Holds.fresh w 38 #[.int .i64 0, .int .i64 0, .bool false] rfl).kept hu0 (by simp))
        have HB := Lib.hid (bstep (bnew w (.cells #[.int .i64 0, .int .i64 0, .bool false] 38)) hu0)
        clear hu0
        go_wp2
        rw [rounds_succ]
        go_wp2_with fail
        refine (M1.out.2 _ HB.out).mono ?_
        rintro e v1 ⟨rfl, hv1⟩
        replace HB := Lib.hid (bstep HB.out hv1)
        replace K := Lib.hid ((K.out).kept hv1 (K.out).inside)
        clear hv1
        go_wp2_with fail
        refine (M2.out.2 _ HB.out).mono ?_
        rintro e v2 ⟨rfl, hv2⟩
        replace HB := Lib.hid (bstep HB.out hv2)
        replace K := Lib.hid ((K.out).kept hv2 (K.out).inside)
        clear hv2
        go_wp2_with fail
        refine (unknown_any _).mono ?_
        rintro e v3 ⟨rfl, hv3⟩
        replace HB := Lib.hid (bstep HB.out hv3)
        replace K := Lib.hid ((K.out).kept hv3 (K.out).inside)
        clear hv3
        have k0 := (K.out).reads (i := 0) rfl; have k1 := (K.out).reads (i := 1) rfl; have k2 := (K.out).reads (i := 2) rfl
        have f0 := (K.out).open_ 0; have f1 := (K.out).open_ 1; have f2 := (K.out).open_ 2
        go_wp2
        refine bodyPost_ret (v := .agg #[.int .i64 0, .int .i64 0, .bool false]) (by simp [results, Try.results46, go_sem, k0, k1, k2]) rfl ⟨?_, ?_⟩
        · exact (by rw [H.out]; rfl)
        · exact (((HB.out).setCell (by simp) _).setCell (by simp) _).setCell (by simp) _
      · have H := Lib.hid (show betS (true) true true x y = X by exact HX.out)
        clear h0
        go_enter Try.func46, Try.ntmps46
        go_wp2
        refine wp_loop_rounds 2 ?_
        rw [rounds_succ]
        go_wp2_with fail
        refine (C0.out _).mono ?_
        rintro e u0 ⟨rfl, hu0⟩
        have K := Lib.hid ((Holds.fresh w 38 #[.int .i64 0, .int .i64 0, .bool false] rfl).kept hu0 (by simp))
        have HB := Lib.hid (bstep (bnew w (.cells #[.int .i64 0, .int .i64 0, .bool false] 38)) hu0)
        clear hu0
        go_wp2
        rw [rounds_succ]
        go_wp2_with fail
        refine (M1.out.2 _ HB.out).mono ?_
        rintro e v1 ⟨rfl, hv1⟩
        replace HB := Lib.hid (bstep HB.out hv1)
        replace K := Lib.hid ((K.out).kept hv1 (K.out).inside)
        clear hv1
        go_wp2_with fail
        refine (M2.out.2 _ HB.out).mono ?_
        rintro e v2 ⟨rfl, hv2⟩
        replace HB := Lib.hid (bstep HB.out hv2)
        replace K := Lib.hid ((K.out).kept hv2 (K.out).inside)
        clear hv2
        go_wp2_with fail
        refine (of3_any _ _ _).mono ?_
        rintro e v3 ⟨rfl, hv3⟩
        rw [HX.out]
        replace HB := Lib.hid (bstep HB.out hv3)
        replace K := Lib.hid ((K.out).kept hv3 (K.out).inside)
        clear hv3
        have k0 := (K.out).reads (i := 0) rfl; have k1 := (K.out).reads (i := 1) rfl; have k2 := (K.out).reads (i := 2) rfl
        have f0 := (K.out).open_ 0; have f1 := (K.out).open_ 1; have f2 := (K.out).open_ 2
        go_wp2
        refine bodyPost_ret (v := .agg #[.int .i64 (X).lo, .int .i64 (X).hi, .bool (X).k]) (by simp [results, Try.results46, go_sem, k0, k1, k2]) rfl ⟨?_, ?_⟩
        · exact ret_sp H.out.symm
        · exact (((HB.out).setCell (by simp) _).setCell (by simp) _).setCell (by simp) _

set_option maxHeartbeats 1000000 in
theorem between2_any (s o : Sp) (g : Nat) (B1 B2 : Bool) (x y : Int) (f1 f2 : FuncId) (c1 c2 : Array Value) (w : World) (kg : Holds w g 27 #[.func (.func 44) #[.agg #[.int .i64 (s).lo, .int .i64 (s).hi, .bool (s).k]] #[], .func (.func 44) #[.agg #[.int .i64 (o).lo, .int .i64 (o).hi, .bool (o).k]] #[]]) (m1 : Makes w f1 c1 B1 x) (m2 : Makes w f2 c2 B2 y) :
    Calls Try.prog 46 #[.func (.func f1) #[] c1, .func (.func f2) #[] c2, .slice (some ⟨g, 0, none⟩) 2 2] w fun e w' => e = .returned (.agg #[.int .i64 (betS (bndB s && bndB o) B1 B2 x y).lo, .int .i64 (betS (bndB s && bndB o) B1 B2 x y).hi, .bool (betS (bndB s && bndB o) B1 B2 x y).k]) ∧ Below w.heap.size w w' := by
  have en1 : ∀ (args : Array Value) (w : World), (callFunc f1 args).run Try.prog w = .ok (.enter f1 args) w := m1.1
  have en2 : ∀ (args : Array Value) (w : World), (callFunc f2 args).run Try.prog w = .ok (.enter f2 args) w := m2.1
  have M1 := Lib.hid m1
  have M2 := Lib.hid m2
  have KG := Lib.hid kg
  have cg0 := ((KG.out).laid (.cells #[.int .i64 0, .int .i64 0, .bool false] 38)).reads (i := 0) rfl
  clear m1 m2 kg
  have C0 := Lib.hid (bounded_any s)
  have C1 := Lib.hid (bounded_any o)
  obtain ⟨X, HX⟩ : ∃ X, Hid (ofS x y = X) := ⟨_, Lib.hid rfl⟩
  cases h0 : bndB s
  · rw [h0] at C0
    have H := Lib.hid (show betS (false && bndB o) B1 B2 x y = unS by rfl)
    clear h0
    go_enter Try.func46, Try.ntmps46
    go_wp2
    refine wp_loop_rounds 3 ?_
    rw [rounds_succ]
    go_wp2_with fail
    refine (C0.out _).mono ?_
    rintro e u0 ⟨rfl, hu0⟩
    have K := Lib.hid ((Holds.fresh w 38 #[.int .i64 0, .int .i64 0, .bool false] rfl).kept hu0 (by simp))
    have HB := Lib.hid (bstep (bnew w (.cells #[.int .i64 0, .int .i64 0, .bool false] 38)) hu0)
    have c1 := ((KG.out).kept HB.out (KG.out).inside).reads (i := 1) rfl
    clear hu0
    go_wp2_with fail
    refine (unknown_any _).mono ?_
    rintro e v3 ⟨rfl, hv3⟩
    replace HB := Lib.hid (bstep HB.out hv3)
    replace K := Lib.hid ((K.out).kept hv3 (K.out).inside)
    clear hv3
    have k0 := (K.out).reads (i := 0) rfl; have k1 := (K.out).reads (i := 1) rfl; have k2 := (K.out).reads (i := 2) rfl
    have f0 := (K.out).open_ 0; have f1 := (K.out).open_ 1; have f2 := (K.out).open_ 2
    go_wp2
    refine bodyPost_ret (v := .agg #[.int .i64 0, .int .i64 0, .bool false]) (by simp [results, Try.results46, go_sem, k0, k1, k2]) rfl ⟨?_, ?_⟩
    · exact (by rw [H.out]; rfl)
    · exact (((HB.out).setCell (by simp) _).setCell (by simp) _).setCell (by simp) _
  · rw [h0] at C0
    cases h1 : bndB o
    · rw [h1] at C1
      have H := Lib.hid (show betS (true && false) B1 B2 x y = unS by rfl)
      clear h0 h1
      go_enter Try.func46, Try.ntmps46
      go_wp2
      refine wp_loop_rounds 3 ?_
      rw [rounds_succ]
      go_wp2_with fail
      refine (C0.out _).mono ?_
      rintro e u0 ⟨rfl, hu0⟩
      have K := Lib.hid ((Holds.fresh w 38 #[.int .i64 0, .int .i64 0, .bool false] rfl).kept hu0 (by simp))
      have HB := Lib.hid (bstep (bnew w (.cells #[.int .i64 0, .int .i64 0, .bool false] 38)) hu0)
      have c1 := ((KG.out).kept HB.out (KG.out).inside).reads (i := 1) rfl
      clear hu0
      go_wp2
      rw [rounds_succ]
      go_wp2_with fail
      refine (C1.out _).mono ?_
      rintro e u1 ⟨rfl, hu1⟩
      replace HB := Lib.hid (bstep HB.out hu1)
      replace K := Lib.hid ((K.out).kept hu1 (K.out).inside)
      clear hu1
      go_wp2_with fail
      refine (unknown_any _).mono ?_
      rintro e v3 ⟨rfl, hv3⟩
      replace HB := Lib.hid (bstep HB.out hv3)
      replace K := Lib.hid ((K.out).kept hv3 (K.out).inside)
      clear hv3
      have k0 := (K.out).reads (i := 0) rfl; have k1 := (K.out).reads (i := 1) rfl; have k2 := (K.out).reads (i := 2) rfl
      have f0 := (K.out).open_ 0; have f1 := (K.out).open_ 1; have f2 := (K.out).open_ 2
      go_wp2
      refine bodyPost_ret (v := .agg #[.int .i64 0, .int .i64 0, .bool false]) (by simp [results, Try.results46, go_sem, k0, k1, k2]) rfl ⟨?_, ?_⟩
      · exact (by rw [H.out]; rfl)
      · exact (((HB.out).setCell (by simp) _).setCell (by simp) _).setCell (by simp) _
    · rw [h1] at C1
      cases B1
      · have H := Lib.hid (show betS (true && true) false B2 x y = unS by cases B2 <;> rfl)
        clear h0 h1
        go_enter Try.func46, Try.ntmps46
        go_wp2
        refine wp_loop_rounds 3 ?_
        rw [rounds_succ]
        go_wp2_with fail
        refine (C0.out _).mono ?_
        rintro e u0 ⟨rfl, hu0⟩
        have K := Lib.hid ((Holds.fresh w 38 #[.int .i64 0, .int .i64 0, .bool false] rfl).kept hu0 (by simp))
        have HB := Lib.hid (bstep (bnew w (.cells #[.int .i64 0, .int .i64 0, .bool false] 38)) hu0)
        have c1 := ((KG.out).kept HB.out (KG.out).inside).reads (i := 1) rfl
        clear hu0
        go_wp2
        rw [rounds_succ]
        go_wp2_with fail
        refine (C1.out _).mono ?_
        rintro e u1 ⟨rfl, hu1⟩
        replace HB := Lib.hid (bstep HB.out hu1)
        replace K := Lib.hid ((K.out).kept hu1 (K.out).inside)
        clear hu1
        go_wp2
        rw [rounds_succ]
        go_wp2_with fail
        refine (M1.out.2 _ HB.out).mono ?_
        rintro e v1 ⟨rfl, hv1⟩
        replace HB := Lib.hid (bstep HB.out hv1)
        replace K := Lib.hid ((K.out).kept hv1 (K.out).inside)
        clear hv1
        go_wp2_with fail
        refine (unknown_any _).mono ?_
        rintro e v3 ⟨rfl, hv3⟩
        replace HB := Lib.hid (bstep HB.out hv3)
        replace K := Lib.hid ((K.out).kept hv3 (K.out).inside)
        clear hv3
        have k0 := (K.out).reads (i := 0) rfl; have k1 := (K.out).reads (i := 1) rfl; have k2 := (K.out).reads (i := 2) rfl
        have f0 := (K.out).open_ 0; have f1 := (K.out).open_ 1; have f2 := (K.out).open_ 2
        go_wp2
        refine bodyPost_ret (v := .agg #[.int .i64 0, .int .i64 0, .bool false]) (by simp [results, Try.results46, go_sem, k0, k1, k2]) rfl ⟨?_, ?_⟩
        · exact (by rw [H.out]; rfl)
        · exact (((HB.out).setCell (by simp) _).setCell (by simp) _).setCell (by simp) _
      · cases B2
        · have H := Lib.hid (show betS (true && true) true false x y = unS by rfl)
          clear h0 h1
          go_enter Try.func46, Try.ntmps46
          go_wp2
          refine wp_loop_rounds 3 ?_
          rw [rounds_succ]
          go_wp2_with fail
          refine (C0.out _).mono ?_
          rintro e u0 ⟨rfl, hu0⟩
          have K := Lib.hid ((Holds.fresh w 38 #[.int .i64 0, .int .i64 0, .bool false] rfl).kept hu0 (by simp))
          have HB := Lib.hid (bstep (bnew w (.cells #[.int .i64 0, .int .i64 0, .bool false] 38)) hu0)
          have c1 := ((KG.out).kept HB.out (KG.out).inside).reads (i := 1) rfl
          clear hu0
          go_wp2
          rw [rounds_succ]
          go_wp2_with fail
          refine (C1.out _).mono ?_
          rintro e u1 ⟨rfl, hu1⟩
          replace HB := Lib.hid (bstep HB.out hu1)
          replace K := Lib.hid ((K.out).kept hu1 (K.out).inside)
          clear hu1
          go_wp2
          rw [rounds_succ]
          go_wp2_with fail
          refine (M1.out.2 _ HB.out).mono ?_
          rintro e v1 ⟨rfl, hv1⟩
          replace HB := Lib.hid (bstep HB.out hv1)
          replace K := Lib.hid ((K.out).kept hv1 (K.out).inside)
          clear hv1
          go_wp2_with fail
          refine (M2.out.2 _ HB.out).mono ?_
          rintro e v2 ⟨rfl, hv2⟩
          replace HB := Lib.hid (bstep HB.out hv2)
          replace K := Lib.hid ((K.out).kept hv2 (K.out).inside)
          clear hv2
          go_wp2_with fail
          refine (unknown_any _).mono ?_
          rintro e v3 ⟨rfl, hv3⟩
          replace HB := Lib.hid (bstep HB.out hv3)
          replace K := Lib.hid ((K.out).kept hv3 (K.out).inside)
          clear hv3
          have k0 := (K.out).reads (i := 0) rfl; have k1 := (K.out).reads (i := 1) rfl; have k2 := (K.out).reads (i := 2) rfl
          have f0 := (K.out).open_ 0; have f1 := (K.out).open_ 1; have f2 := (K.out).open_ 2
          go_wp2
          refine bodyPost_ret (v := .agg #[.int .i64 0, .int .i64 0, .bool false]) (by simp [results, Try.results46, go_sem, k0, k1, k2]) rfl ⟨?_, ?_⟩
          · exact (by rw [H.out]; rfl)
          · exact (((HB.out).setCell (by simp) _).setCell (by simp) _).setCell (by simp) _
        · have H := Lib.hid (show betS (true && true) true true x y = X by exact HX.out)
          clear h0 h1
          go_enter Try.func46, Try.ntmps46
          go_wp2
          refine wp_loop_rounds 3 ?_
          rw [rounds_succ]
          go_wp2_with fail
          refine (C0.out _).mono ?_
          rintro e u0 ⟨rfl, hu0⟩
          have K := Lib.hid ((Holds.fresh w 38 #[.int .i64 0, .int .i64 0, .bool false] rfl).kept hu0 (by simp))
          have HB := Lib.hid (bstep (bnew w (.cells #[.int .i64 0, .int .i64 0, .bool false] 38)) hu0)
          have c1 := ((KG.out).kept HB.out (KG.out).inside).reads (i := 1) rfl
          clear hu0
          go_wp2
          rw [rounds_succ]
          go_wp2_with fail
          refine (C1.out _).mono ?_
          rintro e u1 ⟨rfl, hu1⟩
          replace HB := Lib.hid (bstep HB.out hu1)
          replace K := Lib.hid ((K.out).kept hu1 (K.out).inside)
          clear hu1
          go_wp2
          rw [rounds_succ]
          go_wp2_with fail
          refine (M1.out.2 _ HB.out).mono ?_
          rintro e v1 ⟨rfl, hv1⟩
          replace HB := Lib.hid (bstep HB.out hv1)
          replace K := Lib.hid ((K.out).kept hv1 (K.out).inside)
          clear hv1
          go_wp2_with fail
          refine (M2.out.2 _ HB.out).mono ?_
          rintro e v2 ⟨rfl, hv2⟩
          replace HB := Lib.hid (bstep HB.out hv2)
          replace K := Lib.hid ((K.out).kept hv2 (K.out).inside)
          clear hv2
          go_wp2_with fail
          refine (of3_any _ _ _).mono ?_
          rintro e v3 ⟨rfl, hv3⟩
          rw [HX.out]
          replace HB := Lib.hid (bstep HB.out hv3)
          replace K := Lib.hid ((K.out).kept hv3 (K.out).inside)
          clear hv3
          have k0 := (K.out).reads (i := 0) rfl; have k1 := (K.out).reads (i := 1) rfl; have k2 := (K.out).reads (i := 2) rfl
          have f0 := (K.out).open_ 0; have f1 := (K.out).open_ 1; have f2 := (K.out).open_ 2
          go_wp2
          refine bodyPost_ret (v := .agg #[.int .i64 (X).lo, .int .i64 (X).hi, .bool (X).k]) (by simp [results, Try.results46, go_sem, k0, k1, k2]) rfl ⟨?_, ?_⟩
          · exact ret_sp H.out.symm
          · exact (((HB.out).setCell (by simp) _).setCell (by simp) _).setCell (by simp) _

end Go.Proofs.Ytblbjljfcoeeeaa
