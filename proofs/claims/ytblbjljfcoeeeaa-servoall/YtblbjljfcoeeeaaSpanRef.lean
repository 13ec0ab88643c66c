/- The walks over the reference's functions of layer 3. -/
import Derived.Test.YtblbjljfcoeeeaaSpanMath
import Derived.Test.YtblbjljfcoeeeaaSpanPlain
import Derived.Test.YtblbjljfcoeeeaaRefAdd
namespace Go.Proofs.Ytblbjljfcoeeeaa
set_option maxRecDepth 100000
open Go.RowKit
set_option linter.unusedVariables false

theorem Holds.put3 {w : World} {g : Nat} {t : TypeId} {x y z : Value} (h : Holds w g t #[x, y, z]) (a b c : Value) :
    Holds (((w.setCell ⟨g, 0, none⟩ a).setCell ⟨g, 1, none⟩ b).setCell ⟨g, 2, none⟩ c) g t #[a, b, c] :=
  ((h.put 0 a).put 1 b).put 2 c
theorem Holds.aside3 {w : World} {k : Nat} {t : TypeId} {cs : Array Value} (h : Holds w k t cs) {g : Nat} (hg : g ≠ k) (a b c : Value) :
    Holds (((w.setCell ⟨g, 0, none⟩ a).setCell ⟨g, 1, none⟩ b).setCell ⟨g, 2, none⟩ c) k t cs :=
  ((h.aside hg a).aside hg b).aside hg c
theorem bput3 {B : Nat} {v w : World} (h : Below B v w) {g : Nat} (hg : B ≤ g) (a b c : Value) :
    Below B v (((w.setCell ⟨g, 0, none⟩ a).setCell ⟨g, 1, none⟩ b).setCell ⟨g, 2, none⟩ c) :=
  ((h.setCell hg a).setCell hg b).setCell hg c

set_option maxHeartbeats 400000 in
theorem rof3_any (a b : Int) (w : World) :
    Calls Try.prog 34 #[.int .i64 a, .int .i64 b] w fun e w' => e = .returned (.agg #[.int .i64 (ofS a b).lo, .int .i64 (ofS a b).hi, .bool (ofS a b).k]) ∧ Below w.heap.size w w' := by
  have C0 := Lib.hid (rsmall_any a)
  have C1 := Lib.hid (rsmall_any b)
  by_cases h : a ≤ b
  · have h' : ¬ (b < a) := by omega
    cases ha : smallB a
    · have H := Lib.hid (show ofS a b = unS by unfold ofS tldS bndB bdB; rw [ha]; rfl)
      rw [ha] at C0
      clear ha h
      go_enter Try.func34, Try.ntmps34
      go_wp2_with fail
      refine (C0.out _).mono ?_
      rintro e w1 ⟨rfl, rfl⟩
      go_wp2
      refine bodyPost_ret (v := .agg #[.int .i64 0, .int .i64 0, .bool false]) (by simp [results, Try.results34, go_sem]) rfl ⟨?_, ?_⟩
      · exact (by rw [H.out]; rfl)
      · exact bnew _ _
    · cases hb : smallB b
      · have H := Lib.hid (show ofS a b = unS by unfold ofS tldS bndB bdB; rw [ha, hb]; rfl)
        rw [ha] at C0
        rw [hb] at C1
        clear ha hb h
        go_enter Try.func34, Try.ntmps34
        go_wp2_with fail
        refine (C0.out _).mono ?_
        rintro e w1 ⟨rfl, rfl⟩
        go_wp2_with fail
        refine (C1.out _).mono ?_
        rintro e w1 ⟨rfl, rfl⟩
        go_wp2
        refine bodyPost_ret (v := .agg #[.int .i64 0, .int .i64 0, .bool false]) (by simp [results, Try.results34, go_sem]) rfl ⟨?_, ?_⟩
        · exact (by rw [H.out]; rfl)
        · exact bnew _ _
      · have H := Lib.hid (show ofS a b = ⟨a, b, true⟩ by unfold ofS tldS bndB bdB; simp [ha, hb, h])
        rw [ha] at C0
        rw [hb] at C1
        clear ha hb h
        go_enter Try.func34, Try.ntmps34
        go_wp2_with fail
        refine (C0.out _).mono ?_
        rintro e w1 ⟨rfl, rfl⟩
        go_wp2_with fail
        refine (C1.out _).mono ?_
        rintro e w1 ⟨rfl, rfl⟩
        go_wp2
        refine bodyPost_ret (v := .agg #[.int .i64 a, .int .i64 b, .bool true]) (by simp [results, Try.results34, go_sem]) rfl ⟨?_, ?_⟩
        · exact (by rw [H.out])
        · exact bnew _ _
  · have h' : b < a := by omega
    have H := Lib.hid (show ofS a b = unS by unfold ofS tldS bndB bdB; simp [h])
    clear h
    go_enter Try.func34, Try.ntmps34
    go_wp2
    refine bodyPost_ret (v := .agg #[.int .i64 0, .int .i64 0, .bool false]) (by simp [results, Try.results34, go_sem]) rfl ⟨?_, ?_⟩
    · exact (by rw [H.out]; rfl)
    · exact bnew _ _

set_option maxHeartbeats 400000 in
theorem rright3_any (s : Sp) (w : World) :
    Calls Try.prog 25 #[.agg #[.int .i64 (s).lo, .int .i64 (s).hi, .bool (s).k]] w fun e w' => e = .returned (.bool (rgtB s)) ∧ Below w.heap.size w w' := by
  cases hk : s.k
  · cases h0 : (s.lo == 0)
    · have H := Lib.hid (show rgtB s = false by unfold rgtB; rw [hk, h0]; rfl)
      clear hk
      go_enter Try.func25, Try.ntmps25
      go_wp2
      go_ret
      exact ⟨ret_bool H.out.symm, bnew _ _⟩
    · have H := Lib.hid (show rgtB s = (s.hi == 0) by unfold rgtB; rw [hk, h0]; rfl)
      clear hk
      go_enter Try.func25, Try.ntmps25
      go_wp2
      go_ret
      exact ⟨ret_bool H.out.symm, bnew _ _⟩
  · have C0 := Lib.hid (rsmall_any s.lo)
    have C1 := Lib.hid (rsmall_any s.hi)
    by_cases h : s.lo ≤ s.hi
    · cases ha : smallB s.lo
      · have H := Lib.hid (show rgtB s = false by unfold rgtB bdB; rw [hk, ha]; rfl)
        rw [ha] at C0
        clear hk ha
        go_enter Try.func25, Try.ntmps25
        go_wp2_with fail
        refine (C0.out _).mono ?_
        rintro e w1 ⟨rfl, rfl⟩
        go_wp2
        go_ret
        exact ⟨ret_bool H.out.symm, bnew _ _⟩
      · have H := Lib.hid (show rgtB s = smallB s.hi by unfold rgtB bdB; rw [hk, ha]; simp [h])
        rw [ha] at C0
        clear hk ha
        go_enter Try.func25, Try.ntmps25
        go_wp2_with fail
        refine (C0.out _).mono ?_
        rintro e w1 ⟨rfl, rfl⟩
        go_wp2_with fail
        refine (C1.out _).mono ?_
        rintro e w1 ⟨rfl, rfl⟩
        go_wp2
        go_ret
        exact ⟨ret_bool H.out.symm, bnew _ _⟩
    · have H := Lib.hid (show rgtB s = false by unfold rgtB bdB; rw [hk]; simp [h])
      have h' : decide (s.lo ≤ s.hi) = false := by simpa using h
      clear hk
      go_enter Try.func25, Try.ntmps25
      go_wp2
      go_ret
      exact ⟨ret_bool H.out.symm, bnew _ _⟩

theorem tldS_right {s : Sp} (h : rgtB s = true) : tldS s = s := by
  unfold tldS bndB
  unfold rgtB at h
  cases hk : s.k
  · rw [hk] at h
    simp at h
    exact Sp.ext' h.1.symm h.2.symm hk.symm
  · rw [hk] at h
    rw [show bdB s.lo s.hi = true from h]; rfl
theorem tldS_wrong {s : Sp} (h : rgtB s = false) : tldS s = unS := by
  unfold tldS bndB
  unfold rgtB at h
  cases hk : s.k
  · rfl
  · rw [hk] at h
    rw [show bdB s.lo s.hi = false from h]; rfl

set_option maxHeartbeats 400000 in
theorem rtold3_any (s : Sp) (w : World) :
    Calls Try.prog 56 #[.agg #[.int .i64 (s).lo, .int .i64 (s).hi, .bool (s).k]] w fun e w' => e = .returned (.agg #[.int .i64 (tldS s).lo, .int .i64 (tldS s).hi, .bool (tldS s).k]) ∧ Below w.heap.size w w' := by
  have C := Lib.hid (rright3_any s)
  have L := Lib.hid ((Holds.fresh w 29 #[.int .i64 s.lo, .int .i64 s.hi, .bool s.k] rfl).laid (.cells #[.int .i64 0, .int .i64 0, .bool false] 29))
  have K := Lib.hid (Holds.fresh (w.alloc (.cells #[.int .i64 s.lo, .int .i64 s.hi, .bool s.k] 29)) 29 #[.int .i64 0, .int .i64 0, .bool false] (g := w.heap.size + 1) (by simp))
  have HB := Lib.hid (bstep (bnew w (.cells #[.int .i64 s.lo, .int .i64 s.hi, .bool s.k] 29)) (bnew _ (.cells #[.int .i64 0, .int .i64 0, .bool false] 29)))
  cases hB : rgtB s
  · have H := Lib.hid (tldS_wrong hB)
    rw [hB] at C
    clear hB
    go_enter Try.func56, Try.ntmps56
    go_wp2_with fail
    refine (C.out _).mono ?_
    rintro e w1 ⟨rfl, hb1⟩
    replace K := Lib.hid ((K.out).kept hb1 (K.out).inside)
    replace HB := Lib.hid (bstep HB.out hb1)
    clear hb1
    have k0 := (K.out).reads (i := 0) rfl; have k1 := (K.out).reads (i := 1) rfl; have k2 := (K.out).reads (i := 2) rfl
    have f0 := (K.out).open_ 0; have f1 := (K.out).open_ 1; have f2 := (K.out).open_ 2
    go_wp2
    refine bodyPost_ret (v := .agg #[.int .i64 0, .int .i64 0, .bool false]) (by simp [results, Try.results56, go_sem, k0, k1, k2]) rfl ⟨?_, ?_⟩
    · exact (by rw [H.out]; rfl)
    · exact bput3 HB.out (by simp) _ _ _
  · have H := Lib.hid (tldS_right hB)
    rw [hB] at C
    clear hB
    go_enter Try.func56, Try.ntmps56
    go_wp2_with fail
    refine (C.out _).mono ?_
    rintro e w1 ⟨rfl, hb1⟩
    replace K := Lib.hid ((K.out).kept hb1 (K.out).inside); replace L := Lib.hid ((L.out).kept hb1 (L.out).inside)
    replace HB := Lib.hid (bstep HB.out hb1)
    clear hb1
    have l0 := (L.out).reads (i := 0) rfl; have l1 := (L.out).reads (i := 1) rfl; have l2 := (L.out).reads (i := 2) rfl
    have k0 := (K.out).reads (i := 0) rfl; have k1 := (K.out).reads (i := 1) rfl; have k2 := (K.out).reads (i := 2) rfl
    have f0 := (K.out).open_ 0; have f1 := (K.out).open_ 1; have f2 := (K.out).open_ 2
    go_wp2
    refine bodyPost_ret (v := .agg #[.int .i64 (s).lo, .int .i64 (s).hi, .bool (s).k]) (by simp [results, Try.results56, go_sem, k0, k1, k2]) rfl ⟨?_, ?_⟩
    · exact ret_sp H.out.symm
    · exact bput3 HB.out (by simp) _ _ _

theorem tldS_k {s : Sp} : (tldS s).k = bndB s := by
  unfold tldS
  cases h : bndB s
  · rfl
  · unfold bndB at h
    rw [Bool.and_eq_true] at h
    exact h.1
theorem tldS_lo {s : Sp} (h : bndB s = true) : (tldS s).lo = s.lo := by rw [tldS_of h]
theorem tldS_hi {s : Sp} (h : bndB s = true) : (tldS s).hi = s.hi := by rw [tldS_of h]
theorem hasS_told (s : Sp) (n : Int) : hasS s n = (!(tldS s).k || (decide ((tldS s).lo ≤ n) && decide (n ≤ (tldS s).hi))) := by
  unfold hasS
  rw [tldS_k]
  cases h : bndB s
  · rfl
  · rw [tldS_of h]

theorem addS_told (s o : Sp) : addS s o = betS ((tldS s).k && (tldS o).k) (addB (tldS s).lo (tldS o).lo) (addB (tldS s).hi (tldS o).hi) (told (addB (tldS s).lo (tldS o).lo) ((tldS s).lo + (tldS o).lo)) (told (addB (tldS s).hi (tldS o).hi) ((tldS s).hi + (tldS o).hi)) := by
  unfold addS
  rw [tldS_k, tldS_k]
  cases h : bndB s
  · rfl
  · cases h' : bndB o
    · rfl
    · rw [tldS_of h, tldS_of h']
theorem subS_told (s o : Sp) : subS s o = betS ((tldS s).k && (tldS o).k) (subB (tldS s).lo (tldS o).hi) (subB (tldS s).hi (tldS o).lo) (told (subB (tldS s).lo (tldS o).hi) ((tldS s).lo - (tldS o).hi)) (told (subB (tldS s).hi (tldS o).lo) ((tldS s).hi - (tldS o).lo)) := by
  unfold subS
  rw [tldS_k, tldS_k]
  cases h : bndB s
  · rfl
  · cases h' : bndB o
    · rfl
    · rw [tldS_of h, tldS_of h']
theorem widerS_told (s : Sp) (l h : Int) : widerS s l h = if l < 0 ∨ h < 0 then unS else betS (tldS s).k (subB (tldS s).lo l) (addB (tldS s).hi h) (told (subB (tldS s).lo l) ((tldS s).lo - l)) (told (addB (tldS s).hi h) ((tldS s).hi + h)) := by
  unfold widerS
  rw [tldS_k]
  cases e : bndB s
  · rfl
  · rw [tldS_of e]
theorem meetS_told (s o : Sp) : meetS s o = if (tldS s).k then (if (tldS o).k then ofS (maxI (tldS s).lo (tldS o).lo) (minI (tldS s).hi (tldS o).hi) else tldS s) else tldS o := by
  unfold meetS
  rw [tldS_k, tldS_k]
  cases h : bndB s
  · rfl
  · cases h' : bndB o
    · rw [tldS_of h]; rfl
    · rw [tldS_of h, tldS_of h']
theorem hullS_told (s o : Sp) : hullS s o = betS ((tldS s).k && (tldS o).k) true true (minI (tldS s).lo (tldS o).lo) (maxI (tldS s).hi (tldS o).hi) := by
  unfold hullS
  rw [tldS_k, tldS_k]
  cases h : bndB s
  · rfl
  · cases h' : bndB o
    · rfl
    · rw [tldS_of h, tldS_of h']
theorem withinS_told (s o : Sp) : withinS s o = if (tldS o).k then ((tldS s).k && (decide ((tldS o).lo ≤ (tldS s).lo) && decide ((tldS s).hi ≤ (tldS o).hi))) else true := by
  unfold withinS hasS
  rw [tldS_k, tldS_k]
  cases h : bndB s
  · cases h' : bndB o <;> rfl
  · cases h' : bndB o
    · rfl
    · rw [tldS_of h, tldS_of h']
      have := bdB_iff.1 (show bdB s.lo s.hi = true by unfold bndB at h; rw [Bool.and_eq_true] at h; exact h.2)
      have := bdB_iff.1 (show bdB o.lo o.hi = true by unfold bndB at h'; rw [Bool.and_eq_true] at h'; exact h'.2)
      rw [Bool.eq_iff_iff]
      simp
      omega
theorem widB_told (s : Sp) : widB s = ((tldS s).k && subB (tldS s).hi (tldS s).lo) ∧ told (widB s) (s.hi - s.lo) = told ((tldS s).k && subB (tldS s).hi (tldS s).lo) ((tldS s).hi - (tldS s).lo) := by
  unfold widB
  rw [tldS_k]
  cases h : bndB s
  · exact ⟨rfl, rfl⟩
  · rw [tldS_of h]; exact ⟨rfl, rfl⟩

end Go.Proofs.Ytblbjljfcoeeeaa
