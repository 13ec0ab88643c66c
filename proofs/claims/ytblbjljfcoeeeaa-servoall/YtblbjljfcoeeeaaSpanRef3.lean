/- The walks over the reference's Drift and Scale of layer 3. -/
import Derived.Test.YtblbjljfcoeeeaaSpanRef2
import Derived.Test.YtblbjljfcoeeeaaSpanSumMath
import Derived.Deep.LoopGhost
namespace Go.Proofs.Ytblbjljfcoeeeaa
set_option maxRecDepth 100000
open Go.RowKit
set_option linter.unusedVariables false

theorem round_yes {m p : Int} (h1 : floorB m p 1000000000 = true) (h2 : ceilB m p 1000000000 = true) :
    roundS m p = ⟨m * p / 1000000000, ceilN m p 1000000000, true⟩ ∧ bdB (m * p / 1000000000) (ceilN m p 1000000000) = true := by
  have hb : bdB (m * p / 1000000000) (ceilN m p 1000000000) = true := by
    unfold floorB at h1
    unfold ceilB at h2
    simp only [Bool.and_eq_true, smallB_iff] at h1 h2
    rw [bdB_iff]
    refine ⟨h1.2, h2.2, ?_⟩
    unfold ceilN
    generalize m * p = t
    omega
  refine ⟨?_, hb⟩
  unfold roundS betS
  rw [h1, h2]
  exact ofS_yes hb
theorem round_no {m p : Int} (h : floorB m p 1000000000 = false ∨ ceilB m p 1000000000 = false) : roundS m p = unS := by
  unfold roundS betS
  rcases h with h | h
  · rw [h]; rfl
  · rw [h]; cases floorB m p 1000000000 <;> rfl
theorem hull_yes {a b c d : Int} (h : bdB a b = true) (h' : bdB c d = true) :
    hullS ⟨a, b, true⟩ ⟨c, d, true⟩ = ⟨minI a c, maxI b d, true⟩ ∧ bdB (minI a c) (maxI b d) = true := by
  have hb : bdB (minI a c) (maxI b d) = true := by
    rw [bdB_iff] at h h' ⊢
    unfold minI maxI
    split <;> split <;> omega
  refine ⟨?_, hb⟩
  unfold hullS betS
  rw [bndB_mk, bndB_mk, h, h']
  exact ofS_yes hb
theorem hull_no {s o : Sp} (h : bndB s = false ∨ bndB o = false) : hullS s o = unS := by
  unfold hullS betS
  rcases h with h | h
  · rw [h]; rfl
  · rw [h]; cases bndB s <;> rfl

/-- the four pairs that Scale goes over: their numbers -/
def scM (a b : Int) : Nat → Int
  | 0 => a
  | 1 => a
  | 2 => b
  | _ => b
/-- and their parts -/
def scP (P R : Int) : Nat → Int
  | 0 => P
  | 1 => R
  | 2 => P
  | _ => R
/-- both are there -/
def sclB (a b P R : Int) (i : Nat) : Bool := floorB (scM a b i) (scP P R i) 1000000000 && ceilB (scM a b i) (scP P R i) 1000000000
/-- the least of the first k, rounded down -/
def scL (a b P R : Int) : Nat → Int
  | 0 => 4611686018427387904
  | k + 1 => minI (scL a b P R k) (scM a b k * scP P R k / 1000000000)
/-- the greatest of the first k, rounded up -/
def scH (a b P R : Int) : Nat → Int
  | 0 => -4611686018427387904
  | k + 1 => maxI (scH a b P R k) (ceilN (scM a b k) (scP P R k) 1000000000)

theorem scM_at (a b : Int) {k : Nat} (hk : k < 4) : (#[Value.int .i64 a, .int .i64 a, .int .i64 b, .int .i64 b])[k]? = some (.int .i64 (scM a b k)) := by
  have : k = 0 ∨ k = 1 ∨ k = 2 ∨ k = 3 := by omega
  rcases this with rfl | rfl | rfl | rfl <;> rfl
theorem scP_at (a b : Int) {k : Nat} (hk : k < 4) : (#[Value.int .i64 a, .int .i64 b, .int .i64 a, .int .i64 b])[k]? = some (.int .i64 (scP a b k)) := by
  have : k = 0 ∨ k = 1 ∨ k = 2 ∨ k = 3 := by omega
  rcases this with rfl | rfl | rfl | rfl <;> rfl
theorem scM_in {a b : Int} (h : In64 a ∧ In64 b) (k : Nat) : In64 (scM a b k) := by
  match k with
  | 0 => exact h.1
  | 1 => exact h.1
  | 2 => exact h.2
  | _ + 3 => exact h.2
theorem scale_no {s : Sp} {q a b : Int} (hs : tldS s = ⟨a, b, true⟩) (i : Nat) (hi : i < 4) (h : sclB a b (1000000000 - q) (1000000000 + q) i = false) : scaleS s q = unS := by
  have hk : bndB s = true := by rw [← tldS_k, hs]
  rw [tldS_of hk] at hs
  subst hs
  unfold scaleS
  rw [hk]
  cases hr : rateB q
  · rfl
  · show hullS (aroundS q a) (aroundS q b) = unS
    have h2 : floorB (scM a b i) (scP (1000000000 - q) (1000000000 + q) i) 1000000000 = false ∨ ceilB (scM a b i) (scP (1000000000 - q) (1000000000 + q) i) 1000000000 = false := by
      unfold sclB at h
      rw [Bool.and_eq_false_iff] at h
      exact h
    have h3 := round_no h2
    have : i = 0 ∨ i = 1 ∨ i = 2 ∨ i = 3 := by omega
    rcases this with rfl | rfl | rfl | rfl
    · refine hull_no (Or.inl ?_); rw [show aroundS q a = unS from hull_no (Or.inl (by rw [show roundS a (1000000000 - q) = unS from h3]; rfl))]; rfl
    · refine hull_no (Or.inl ?_); rw [show aroundS q a = unS from hull_no (Or.inr (by rw [show roundS a (1000000000 + q) = unS from h3]; rfl))]; rfl
    · refine hull_no (Or.inr ?_); rw [show aroundS q b = unS from hull_no (Or.inl (by rw [show roundS b (1000000000 - q) = unS from h3]; rfl))]; rfl
    · refine hull_no (Or.inr ?_); rw [show aroundS q b = unS from hull_no (Or.inr (by rw [show roundS b (1000000000 + q) = unS from h3]; rfl))]; rfl

theorem around_yes {q m : Int} (h1 : floorB m (1000000000 - q) 1000000000 = true) (h2 : ceilB m (1000000000 - q) 1000000000 = true) (h3 : floorB m (1000000000 + q) 1000000000 = true) (h4 : ceilB m (1000000000 + q) 1000000000 = true) :
    aroundS q m = ⟨minI (m * (1000000000 - q) / 1000000000) (m * (1000000000 + q) / 1000000000), maxI (ceilN m (1000000000 - q) 1000000000) (ceilN m (1000000000 + q) 1000000000), true⟩ ∧
    bdB (minI (m * (1000000000 - q) / 1000000000) (m * (1000000000 + q) / 1000000000)) (maxI (ceilN m (1000000000 - q) 1000000000) (ceilN m (1000000000 + q) 1000000000)) = true := by
  obtain ⟨e1, b1⟩ := round_yes h1 h2
  obtain ⟨e2, b2⟩ := round_yes h3 h4
  unfold aroundS
  rw [e1, e2]
  exact hull_yes b1 b2

theorem scale_yes {s : Sp} {q a b : Int} (hs : tldS s = ⟨a, b, true⟩) (hr : rateB q = true) (h : ∀ i, i < 4 → sclB a b (1000000000 - q) (1000000000 + q) i = true) :
    scaleS s q = ofS (scL a b (1000000000 - q) (1000000000 + q) 4) (scH a b (1000000000 - q) (1000000000 + q) 4) := by
  have hk : bndB s = true := by rw [← tldS_k, hs]
  rw [tldS_of hk] at hs
  subst hs
  unfold scaleS
  rw [hk, hr]
  show hullS (aroundS q a) (aroundS q b) = _
  have g : ∀ i, i < 4 → floorB (scM a b i) (scP (1000000000 - q) (1000000000 + q) i) 1000000000 = true ∧ ceilB (scM a b i) (scP (1000000000 - q) (1000000000 + q) i) 1000000000 = true := by
    intro i hi
    have := h i hi
    unfold sclB at this
    rw [Bool.and_eq_true] at this
    exact this
  have g0 := g 0 (by omega)
  have g1 := g 1 (by omega)
  have g2 := g 2 (by omega)
  have g3 := g 3 (by omega)
  simp only [scM, scP] at g0 g1 g2 g3
  obtain ⟨e1, b1⟩ := around_yes g0.1 g0.2 g1.1 g1.2
  obtain ⟨e2, b2⟩ := around_yes g2.1 g2.2 g3.1 g3.2
  rw [e1, e2]
  obtain ⟨e3, b3⟩ := hull_yes b1 b2
  rw [e3]
  simp only [scL, scH, scM, scP]
  rw [bdB_iff] at b1 b2
  have r0 := (round_yes g0.1 g0.2).2
  have r1 := (round_yes g1.1 g1.2).2
  have r2 := (round_yes g2.1 g2.2).2
  have r3 := (round_yes g3.1 g3.2).2
  rw [bdB_iff] at r0 r1 r2 r3
  revert e1 e2 e3 b3 b1 b2 r0 r1 r2 r3
  generalize a * (1000000000 - q) / 1000000000 = x0
  generalize a * (1000000000 + q) / 1000000000 = x1
  generalize b * (1000000000 - q) / 1000000000 = x2
  generalize b * (1000000000 + q) / 1000000000 = x3
  generalize ceilN a (1000000000 - q) 1000000000 = y0
  generalize ceilN a (1000000000 + q) 1000000000 = y1
  generalize ceilN b (1000000000 - q) 1000000000 = y2
  generalize ceilN b (1000000000 + q) 1000000000 = y3
  intro e1 b1 e2 b2 e3 b3 r0 r1 r2 r3
  have eL : minI (minI (minI (minI 4611686018427387904 x0) x1) x2) x3 = minI (minI x0 x1) (minI x2 x3) := by
    unfold minI; repeat' split <;> omega
  have eH : maxI (maxI (maxI (maxI (-4611686018427387904) y0) y1) y2) y3 = maxI (maxI y0 y1) (maxI y2 y3) := by
    unfold maxI; repeat' split <;> omega
  rw [eL, eH, ofS_yes b3]

set_option maxHeartbeats 2000000 in
theorem rdrift3_any (s : Sp) (p q : Int) (w : World) (hp : In64 p) :
    Calls Try.prog 32 #[.agg #[.int .i64 (s).lo, .int .i64 (s).hi, .bool (s).k], .int .i64 p, .int .i64 q] w fun e w' => e = .returned (.agg #[.int .i64 (driftS s p q).lo, .int .i64 (driftS s p q).hi, .bool (driftS s p q).k]) ∧ Below w.heap.size w w' := by
  have K0 := Lib.hid (Holds.fresh w 29 #[.int .i64 s.lo, .int .i64 s.hi, .bool s.k] (g := w.heap.size) (by simp))
  replace K0 := Lib.hid ((K0.out).laid (.cells #[.int .i64 0, .int .i64 0, .bool false] 29))
  have KZ := Lib.hid (Holds.fresh (w.alloc (.cells #[.int .i64 s.lo, .int .i64 s.hi, .bool s.k] 29)) 29 #[.int .i64 0, .int .i64 0, .bool false] (g := w.heap.size + 1) (by simp))
  have HB := Lib.hid (bstep (bnew w (.cells #[.int .i64 s.lo, .int .i64 s.hi, .bool s.k] 29)) (bnew _ (.cells #[.int .i64 0, .int .i64 0, .bool false] 29)))
  have le0 : w.heap.size ≤ w.heap.size := Nat.le_refl _
  have le1 : w.heap.size ≤ w.heap.size + 1 := by omega
  have le2 : w.heap.size ≤ w.heap.size + 1 + 1 := by omega
  obtain ⟨x, Hx⟩ : ∃ x, Hid (told (ceilB p q 1000000000) (ceilN p q 1000000000) = x) := ⟨_, Lib.hid rfl⟩
  obtain ⟨B, HB1⟩ : ∃ B, Hid (ceilB p q 1000000000 = B) := ⟨_, Lib.hid rfl⟩
  obtain ⟨X, HX⟩ : ∃ X, Hid (widerS s x x = X) := ⟨_, Lib.hid rfl⟩
  have D1 := Lib.hid (fun w => rceil_any p q 1000000000 w hp)
  rw [Hx.out, HB1.out] at D1
  have CO := Lib.hid (rwider3_any s x x)
  rw [HX.out] at CO
  have HS : Hid (driftS s p q = if 0 ≤ p ∧ (0 ≤ q ∧ q ≤ 1000000000) ∧ B = true then X else unS) := by
    rw [Hid, ← HX.out, ← Hx.out, ← HB1.out]
    unfold driftS
    have hr : rateB q = true ↔ (0 ≤ q ∧ q ≤ 1000000000) := by unfold rateB; simp
    simp only [hr]
    split
    · rename_i h; rw [h.2.2]; rfl
    · rfl
  clear Hx HB1 hp
  by_cases h0 : p < 0
  · have H := Lib.hid (show driftS s p q = unS by rw [HS.out, if_neg (by omega)])
    clear HS
    go_enter Try.func32, Try.ntmps32
    go_wp2_with fail
    refine (D1.out _).mono ?_
    rintro e v1 ⟨rfl, hv1⟩
    replace K0 := Lib.hid ((K0.out).kept hv1 (K0.out).inside)
    replace KZ := Lib.hid ((KZ.out).kept hv1 (KZ.out).inside)
    replace HB := Lib.hid (bstep HB.out hv1)
    clear hv1
    have k0 := (KZ.out).reads (i := 0) rfl; have k1 := (KZ.out).reads (i := 1) rfl; have k2 := (KZ.out).reads (i := 2) rfl
    have f0 := (KZ.out).open_ 0; have f1 := (KZ.out).open_ 1; have f2 := (KZ.out).open_ 2
    go_wp2
    refine bodyPost_ret (v := .agg #[.int .i64 0, .int .i64 0, .bool false]) (by simp [results, Try.results32, go_sem, k0, k1, k2]) rfl ⟨?_, ?_⟩
    · exact (by rw [H.out]; rfl)
    · exact bput3 HB.out le1 _ _ _
  · have h0' : decide (p < 0) = false := by simpa using h0
    by_cases h1 : q < 0
    · have H := Lib.hid (show driftS s p q = unS by rw [HS.out, if_neg (by omega)])
      clear HS
      go_enter Try.func32, Try.ntmps32
      go_wp2_with fail
      refine (D1.out _).mono ?_
      rintro e v1 ⟨rfl, hv1⟩
      replace K0 := Lib.hid ((K0.out).kept hv1 (K0.out).inside)
      replace KZ := Lib.hid ((KZ.out).kept hv1 (KZ.out).inside)
      replace HB := Lib.hid (bstep HB.out hv1)
      clear hv1
      have k0 := (KZ.out).reads (i := 0) rfl; have k1 := (KZ.out).reads (i := 1) rfl; have k2 := (KZ.out).reads (i := 2) rfl
      have f0 := (KZ.out).open_ 0; have f1 := (KZ.out).open_ 1; have f2 := (KZ.out).open_ 2
      go_wp2
      refine bodyPost_ret (v := .agg #[.int .i64 0, .int .i64 0, .bool false]) (by simp [results, Try.results32, go_sem, k0, k1, k2]) rfl ⟨?_, ?_⟩
      · exact (by rw [H.out]; rfl)
      · exact bput3 HB.out le1 _ _ _
    · have h1' : decide (q < 0) = false := by simpa using h1
      by_cases h2 : 1000000000 < q
      · have H := Lib.hid (show driftS s p q = unS by rw [HS.out, if_neg (by omega)])
        clear HS
        go_enter Try.func32, Try.ntmps32
        go_wp2_with fail
        refine (D1.out _).mono ?_
        rintro e v1 ⟨rfl, hv1⟩
        replace K0 := Lib.hid ((K0.out).kept hv1 (K0.out).inside)
        replace KZ := Lib.hid ((KZ.out).kept hv1 (KZ.out).inside)
        replace HB := Lib.hid (bstep HB.out hv1)
        clear hv1
        have k0 := (KZ.out).reads (i := 0) rfl; have k1 := (KZ.out).reads (i := 1) rfl; have k2 := (KZ.out).reads (i := 2) rfl
        have f0 := (KZ.out).open_ 0; have f1 := (KZ.out).open_ 1; have f2 := (KZ.out).open_ 2
        go_wp2
        refine bodyPost_ret (v := .agg #[.int .i64 0, .int .i64 0, .bool false]) (by simp [results, Try.results32, go_sem, k0, k1, k2]) rfl ⟨?_, ?_⟩
        · exact (by rw [H.out]; rfl)
        · exact bput3 HB.out le1 _ _ _
      · have h2' : decide (1000000000 < q) = false := by simpa using h2
        cases B
        · have H := Lib.hid (show driftS s p q = unS by rw [HS.out, if_neg (by simp)])
          clear HS
          go_enter Try.func32, Try.ntmps32
          go_wp2_with fail
          refine (D1.out _).mono ?_
          rintro e v1 ⟨rfl, hv1⟩
          replace K0 := Lib.hid ((K0.out).kept hv1 (K0.out).inside)
          replace KZ := Lib.hid ((KZ.out).kept hv1 (KZ.out).inside)
          replace HB := Lib.hid (bstep HB.out hv1)
          clear hv1
          have k0 := (KZ.out).reads (i := 0) rfl; have k1 := (KZ.out).reads (i := 1) rfl; have k2 := (KZ.out).reads (i := 2) rfl
          have f0 := (KZ.out).open_ 0; have f1 := (KZ.out).open_ 1; have f2 := (KZ.out).open_ 2
          go_wp2
          refine bodyPost_ret (v := .agg #[.int .i64 0, .int .i64 0, .bool false]) (by simp [results, Try.results32, go_sem, k0, k1, k2]) rfl ⟨?_, ?_⟩
          · exact (by rw [H.out]; rfl)
          · exact bput3 HB.out le1 _ _ _
        · have H := Lib.hid (show driftS s p q = X by rw [HS.out, if_pos ⟨by omega, ⟨by omega, by omega⟩, rfl⟩])
          clear HS
          go_enter Try.func32, Try.ntmps32
          go_wp2_with fail
          refine (D1.out _).mono ?_
          rintro e v1 ⟨rfl, hv1⟩
          replace K0 := Lib.hid ((K0.out).kept hv1 (K0.out).inside)
          replace KZ := Lib.hid ((KZ.out).kept hv1 (KZ.out).inside)
          replace HB := Lib.hid (bstep HB.out hv1)
          clear hv1
          have x0 := (K0.out).reads (i := 0) rfl; have x1 := (K0.out).reads (i := 1) rfl; have x2 := (K0.out).reads (i := 2) rfl
          go_wp2_with fail
          refine (CO.out _).mono ?_
          rintro e v2 ⟨rfl, hv2⟩
          replace K0 := Lib.hid ((K0.out).kept hv2 (K0.out).inside)
          replace KZ := Lib.hid ((KZ.out).kept hv2 (KZ.out).inside)
          replace HB := Lib.hid (bstep HB.out hv2)
          clear hv2
          have k0 := (KZ.out).reads (i := 0) rfl; have k1 := (KZ.out).reads (i := 1) rfl; have k2 := (KZ.out).reads (i := 2) rfl
          have f0 := (KZ.out).open_ 0; have f1 := (KZ.out).open_ 1; have f2 := (KZ.out).open_ 2
          go_wp2
          refine bodyPost_ret (v := .agg #[.int .i64 (X).lo, .int .i64 (X).hi, .bool (X).k]) (by simp [results, Try.results32, go_sem, k0, k1, k2]) rfl ⟨?_, ?_⟩
          · exact ret_sp H.out.symm
          · exact bput3 HB.out le1 _ _ _

end Go.Proofs.Ytblbjljfcoeeeaa
