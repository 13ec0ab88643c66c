/- The walk over frame.Decode. -/
import Derived.Test.YtifhjmhekapaoaaDoorFrameA
import Derived.Test.YtifhjmhekapaoaaDoorFrameB
import Derived.Test.YtifhjmhekapaoaaDoorHeadDecode
namespace Go.Proofs.YtifhjmhekapaoaaDoor
set_option maxRecDepth 100000
open Go.RowKit
set_option linter.unusedVariables false

theorem Lens.kept {w v : World} {B : Nat} (h : Lens w) (hb : Below B w v) (hg : 0 < B) : Lens v := fun k hk => by
  rw [hb.cell (p := ⟨0, k, none⟩) hg]; exact h k hk
theorem Lens.inside {w : World} (h : Lens w) : 0 < w.heap.size := World.block_lt_of_cell? w _ (h 0 (by omega))
theorem only_below {w v : World} {B g : Nat} (h : Only [g] w.heap.size w v) (hB : B ≤ w.heap.size) (hg : B ≤ g) : Below B w v :=
  ⟨h.os, h.tape, h.output, h.size, fun k hk => h.block k (by omega) (by simp; omega)⟩
theorem BytesAt.kept {w v : World} {B : Nat} {a : Addr} {zs : List Int} (h : BytesAt w a zs) (hb : Below B w v) (hg : a.block < B) : BytesAt v a zs := h.block_ (hb.block _ hg)
theorem fdec_bad (a : Addr) (L C : Nat) (zs : List Int) (w : World) (hlen : zs.length = L) (hL : 34 ≤ L) (hC : L ≤ C) (hM : C ≤ maxLen) (hb : ∀ z ∈ zs, isByte z) (hc : BytesAt w a zs) (hl : Lens w) (hf : faultN L zs ≠ 0) :
    Calls Tryd.prog 6 #[.slice (some a) L C] w fun e w' => e = .returned (.tuple #[.agg #[.int .i64 0, .int .i64 0, .int .i64 0, .int .i64 0, .int .u8 0, .int .u8 0, .int .u8 0, .int .u8 0, .int .u8 0, .int .u8 0, .int .u8 0, .int .u8 0, .int .i64 0, .int .i64 0, .int .i64 0], .int .i64 (faultN L zs)]) ∧ Below w.heap.size w w' := by
  have h := decode_any a L C zs w hlen hL hC hM hb hc hl
  have e : decH L zs = zeroH := by unfold decH; rw [if_neg hf]
  rw [e] at h
  exact h
theorem fdec_ok (a : Addr) (L C : Nat) (zs : List Int) (w : World) (hlen : zs.length = L) (hL : 34 ≤ L) (hC : L ≤ C) (hM : C ≤ maxLen) (hb : ∀ z ∈ zs, isByte z) (hc : BytesAt w a zs) (hl : Lens w) (hf : faultN L zs = 0) (hd : Hd) (hh : hdOf zs = hd) :
    Calls Tryd.prog 6 #[.slice (some a) L C] w fun e w' => e = .returned (.tuple #[.agg #[.int .i64 hd.t, .int .i64 hd.d, .int .i64 hd.f, .int .i64 hd.c, .int .u8 hd.p.c.b0, .int .u8 hd.p.c.b1, .int .u8 hd.p.c.b2, .int .u8 hd.p.c.b3, .int .u8 hd.p.c.b4, .int .u8 hd.p.c.b5, .int .u8 hd.p.c.b6, .int .u8 hd.p.c.b7, .int .i64 hd.p.n, .int .i64 hd.s, .int .i64 hd.l], .int .i64 0]) ∧ Below w.heap.size w w' := by
  have h := decode_any a L C zs w hlen hL hC hM hb hc hl
  have e : decH L zs = hd := by unfold decH; rw [if_pos hf, hh]
  rw [e, hf] at h
  exact h
theorem lens_touch {w v : World} {g : Nat} (h : Lens w) (ht : Touch g w v) (hg : 0 ≠ g) : Lens v := fun k hk => by
  rw [World.cell?_of_block (w := w) (a := ⟨0, k, none⟩) (ht.block _ hg)]; exact h k hk
theorem size_is {w : World} {g : Nat} {t : TypeId} {cs : Array Value} (h : Holds w g t cs) : ∃ B, w.heap.size = B := ⟨_, rfl⟩
theorem size_drew (w : World) : w.heap.size = w.drew.heap.size := rfl
/-- what read tells -/
def readM (zs : List Int) : Ms := if rightB (tsOf zs) (tnOf zs) = true then mOf zs else zeroM
def readB (zs : List Int) : Bool := rightB (tsOf zs) (tnOf zs) && spareB zs
theorem read_any6 (gB : Nat) (a : Addr) (L C : Nat) (zs : List Int) (hd : Hd) (w : World) (hb : Body w gB a 34 L C) (hC : L ≤ C) (hM : C ≤ maxLen) (hz : zs.length = L) (hc : BytesAt w a zs) (hby : ∀ z ∈ zs, isByte z) (hab : a.block ≠ gB) (hf : faultN zs.length zs = 0) (hh : hdOf zs = hd) :
    Calls Tryd.prog 48 #[.agg #[.int .i64 hd.t, .int .i64 hd.d, .int .i64 hd.f, .int .i64 hd.c, .int .u8 hd.p.c.b0, .int .u8 hd.p.c.b1, .int .u8 hd.p.c.b2, .int .u8 hd.p.c.b3, .int .u8 hd.p.c.b4, .int .u8 hd.p.c.b5, .int .u8 hd.p.c.b6, .int .u8 hd.p.c.b7, .int .i64 hd.p.n, .int .i64 hd.s, .int .i64 hd.l], .func (.func 68) #[] #[.pointer (some ⟨gB, 0, none⟩)]] w fun e w' => e = .returned (.tuple #[.agg (msA (readM zs)), .bool (readB zs)]) ∧ Only [gB] w.heap.size w w' := by
  obtain ⟨h1, h2, h3⟩ := fault_long hf
  unfold readM readB spareB mOf
  subst hh
  by_cases ht : rightB (tsOf zs) (tnOf zs) = true
  · rw [if_pos ht, ht, Bool.true_and]
    by_cases h9 : (hdOf zs).t = 9
    · rw [if_pos h9, if_neg (by omega)]
      have : longN 9 = 54 := rfl
      rw [h9] at h1
      exact read_9 gB a L C zs _ w hb (by omega) hC hM hz hc hby hab ht h9
    · rw [if_neg h9]
      by_cases h11 : (hdOf zs).t = 11
      · rw [if_pos h11, if_pos h11]
        have : longN 11 = 64 := rfl
        rw [h11] at h1
        exact read_11 gB a L C zs _ w hb (by omega) hC hM hz hc hby hab ht h9 h11
      · rw [if_neg h11, if_neg h11]
        exact read_0 gB a L C zs _ w hb (by omega) hC hM hz hc hby hab ht h9 h11
  · rw [if_neg ht]
    have ht' : rightB (tsOf zs) (tnOf zs) = false := by simpa using ht
    rw [ht', Bool.false_and]
    exact read_no gB a L C zs _ w hb (by omega) hC hM hz hc hby hab ht'
theorem readM_f (zs : List Int) (hby : ∀ z ∈ zs, isByte z) : -9223372036854775808 ≤ (readM zs).h.f ∧ (readM zs).h.f ≤ 9223372036854775807 := by
  unfold readM
  split
  · rw [mOf_h]
    have h6 := getD_byte hby 6
    have h7 := getD_byte hby 7
    unfold isByte at h6 h7
    show _ ≤ zs.getD 6 0 * 256 + zs.getD 7 0 ∧ zs.getD 6 0 * 256 + zs.getD 7 0 ≤ _
    omega
  · decide
/-- where the orders of reading meet -/
def DecCut (a : Addr) (L C : Nat) (hd : Hd) (rm : Ms) (rb : Bool) (w : World) (gKR : Nat) (s6 s7 s17 s18 s19 s20 s21 s22 s23 s24 : Value) (v : World) : Prop := ∃ gB g6, s6 = .pointer (some ⟨g6, 0, none⟩) ∧ s7 = .bool rb ∧ s17 = .tuple #[.agg (msA rm), .bool rb] ∧ s18 = .agg #[.int .i64 hd.t, .int .i64 hd.d, .int .i64 hd.f, .int .i64 hd.c, .int .u8 hd.p.c.b0, .int .u8 hd.p.c.b1, .int .u8 hd.p.c.b2, .int .u8 hd.p.c.b3, .int .u8 hd.p.c.b4, .int .u8 hd.p.c.b5, .int .u8 hd.p.c.b6, .int .u8 hd.p.c.b7, .int .i64 hd.p.n, .int .i64 hd.s, .int .i64 hd.l] ∧ s19 = .slice (some a) L C ∧ s20 = .slice (some (a.add 34)) (L - 34) (C - 34) ∧ s21 = .func (.func 68) #[] #[.pointer (some ⟨gB, 0, none⟩)] ∧ s22 = .tuple #[.agg (msA rm), .bool rb] ∧ s23 = .agg (msA rm) ∧ s24 = .bool rb ∧
  Below w.heap.size w v ∧ Lens v ∧ Holds v gKR 49 (msA zeroM) ∧ Holds v g6 49 (msA rm) ∧ gKR ≠ g6 ∧ w.heap.size ≤ g6
set_option maxHeartbeats 4000000 in
theorem decM_short (A : Option Addr) (L C : Nat) (w : World) (hL : L < 34) :
    Calls Tryd.prog 15 #[.slice A L C] w fun e w' => e = .returned (.tuple #[.agg (msA zeroM), .int .i64 50]) ∧ Below w.heap.size w w' := by
  have HB := Lib.hid (Below.refl w.heap.size w)
  have C1 : Hid (∀ v, Calls Tryd.prog 6 #[.slice A L C] v fun e w' => e = .returned (.tuple #[.agg #[.int .i64 0, .int .i64 0, .int .i64 0, .int .i64 0, .int .u8 0, .int .u8 0, .int .u8 0, .int .u8 0, .int .u8 0, .int .u8 0, .int .u8 0, .int .u8 0, .int .i64 0, .int .i64 0, .int .i64 0], .int .i64 50]) ∧ Below v.heap.size v w') := fun v => decode_short A L C v hL
  clear hL
  go_enter Tryd.func15, Tryd.ntmps15
  go_wp2_with ((refine big_alloc rfl 49 rfl (msA zeroM) (by kernel_rfl) ?_; intro gKR wKR hlKR nKR hbKR; have KR := Lib.hid nKR; have LKR := Lib.hid (Nat.le_trans (HB.out).size hlKR); replace HB := Lib.hid (bstep HB.out hbKR); clear hlKR nKR hbKR))
  refine ((C1.out) _).mono ?_
  rintro e w1 ⟨rfl, hw1⟩
  replace KR := Lib.hid ((KR.out).keptB hw1)
  replace HB := Lib.hid (bstep HB.out hw1)
  clear hw1
  go_wp2_with (first | (refine big_fill rfl 49 _ _ rfl gKR (msA zeroM) rfl rfl KR.out (by kernel_rfl) (by kernel_rfl) (by kernel_rfl) ?_; intro vKR3 nKR htKR; replace KR := Lib.hid nKR; replace KH := Lib.hid ((KH.out).touch htKR (by have := NKRKH.out; omega)); replace HB := Lib.hid (btouch HB.out htKR LKR.out); clear nKR htKR) | (refine big_build rfl 49 _ rfl (msA zeroM) (by kernel_rfl) ?_) | (refine big_fill rfl 28 _ _ rfl gKH (#[.int .i64 0, .int .i64 0, .int .i64 0, .int .i64 0, .int .u8 0, .int .u8 0, .int .u8 0, .int .u8 0, .int .u8 0, .int .u8 0, .int .u8 0, .int .u8 0, .int .i64 0, .int .i64 0, .int .i64 0]) rfl rfl KH.out (by kernel_rfl) (by kernel_rfl) (by kernel_rfl) ?_; intro vKH0 nKH htKH; replace KH := Lib.hid nKH; replace KR := Lib.hid ((KR.out).touch htKH (by have := NKRKH.out; omega)); replace HB := Lib.hid (btouch HB.out htKH LKH.out); clear nKH htKH) | (refine big_alloc rfl 28 rfl (#[.int .i64 0, .int .i64 0, .int .i64 0, .int .i64 0, .int .u8 0, .int .u8 0, .int .u8 0, .int .u8 0, .int .u8 0, .int .u8 0, .int .u8 0, .int .u8 0, .int .i64 0, .int .i64 0, .int .i64 0]) (by kernel_rfl) ?_; intro gKH wKH hlKH nKH hbKH; have KH := Lib.hid nKH; have LKH := Lib.hid (Nat.le_trans (HB.out).size hlKH); have NKRKH := Lib.hid (show gKR ≠ gKH by have := (KR.out).inside; omega); replace KR := Lib.hid ((KR.out).keptB hbKH); replace HB := Lib.hid (bstep HB.out hbKH); clear hlKH nKH hbKH))
  refine bodyPost_ret (results_two rfl _ _ gKR _ (msA zeroM) (.int .i64 (50)) _ rfl rfl KR.out Tryd.underlying49 rfl (by kernel_rfl)) rfl ⟨?_, HB.out⟩
  rfl
set_option maxHeartbeats 4000000 in
theorem decM_bad (a : Addr) (L C : Nat) (zs : List Int) (w : World) (hlen : zs.length = L) (hL : 34 ≤ L) (hC : L ≤ C) (hM : C ≤ maxLen) (hb : ∀ z ∈ zs, isByte z) (hc : BytesAt w a zs) (hl : Lens w) (hf : faultN L zs ≠ 0) :
    Calls Tryd.prog 15 #[.slice (some a) L C] w fun e w' => e = .returned (.tuple #[.agg (msA zeroM), .int .i64 (faultN L zs)]) ∧ Below w.heap.size w w' := by
  have HB := Lib.hid (Below.refl w.heap.size w)
  have C1 : Hid (∀ v, BytesAt v a zs → Lens v → Calls Tryd.prog 6 #[.slice (some a) L C] v fun e w' => e = .returned (.tuple #[.agg #[.int .i64 0, .int .i64 0, .int .i64 0, .int .i64 0, .int .u8 0, .int .u8 0, .int .u8 0, .int .u8 0, .int .u8 0, .int .u8 0, .int .u8 0, .int .u8 0, .int .i64 0, .int .i64 0, .int .i64 0], .int .i64 (faultN L zs)]) ∧ Below v.heap.size v w') := fun v h1 h2 => fdec_bad a L C zs v hlen hL hC hM hb h1 h2 hf
  have BA := Lib.hid hc
  have LN := Lib.hid hl
  obtain ⟨n, hn⟩ : ∃ n, faultN L zs = n := ⟨_, rfl⟩
  rw [hn] at hf C1 ⊢
  have dn : (n != 0) = true := by simpa using hf
  clear hlen hL hC hM hb hc hl hf hn
  go_enter Tryd.func15, Tryd.ntmps15
  go_wp2_with ((refine big_alloc rfl 49 rfl (msA zeroM) (by kernel_rfl) ?_; intro gKR wKR hlKR nKR hbKR; have KR := Lib.hid nKR; have LKR := Lib.hid (Nat.le_trans (HB.out).size hlKR); replace BA := Lib.hid ((BA.out).keptB hbKR); replace LN := Lib.hid ((LN.out).keptB hbKR); replace HB := Lib.hid (bstep HB.out hbKR); clear hlKR nKR hbKR))
  refine ((C1.out) _ BA.out LN.out).mono ?_
  rintro e w1 ⟨rfl, hw1⟩
  replace KR := Lib.hid ((KR.out).keptB hw1)
  replace HB := Lib.hid (bstep HB.out hw1)
  clear hw1
  go_wp2_with (first | (refine big_fill rfl 49 _ _ rfl gKR (msA zeroM) rfl rfl KR.out (by kernel_rfl) (by kernel_rfl) (by kernel_rfl) ?_; intro vKR3 nKR htKR; replace KR := Lib.hid nKR; replace KH := Lib.hid ((KH.out).touch htKR (by have := NKRKH.out; omega)); replace HB := Lib.hid (btouch HB.out htKR LKR.out); clear nKR htKR) | (refine big_build rfl 49 _ rfl (msA zeroM) (by kernel_rfl) ?_) | (refine big_fill rfl 28 _ _ rfl gKH (#[.int .i64 0, .int .i64 0, .int .i64 0, .int .i64 0, .int .u8 0, .int .u8 0, .int .u8 0, .int .u8 0, .int .u8 0, .int .u8 0, .int .u8 0, .int .u8 0, .int .i64 0, .int .i64 0, .int .i64 0]) rfl rfl KH.out (by kernel_rfl) (by kernel_rfl) (by kernel_rfl) ?_; intro vKH0 nKH htKH; replace KH := Lib.hid nKH; replace KR := Lib.hid ((KR.out).touch htKH (by have := NKRKH.out; omega)); replace HB := Lib.hid (btouch HB.out htKH LKH.out); clear nKH htKH) | (refine big_alloc rfl 28 rfl (#[.int .i64 0, .int .i64 0, .int .i64 0, .int .i64 0, .int .u8 0, .int .u8 0, .int .u8 0, .int .u8 0, .int .u8 0, .int .u8 0, .int .u8 0, .int .u8 0, .int .i64 0, .int .i64 0, .int .i64 0]) (by kernel_rfl) ?_; intro gKH wKH hlKH nKH hbKH; have KH := Lib.hid nKH; have LKH := Lib.hid (Nat.le_trans (HB.out).size hlKH); have NKRKH := Lib.hid (show gKR ≠ gKH by have := (KR.out).inside; omega); replace KR := Lib.hid ((KR.out).keptB hbKH); replace HB := Lib.hid (bstep HB.out hbKH); clear hlKH nKH hbKH))
  refine bodyPost_ret (results_two rfl _ _ gKR _ (msA zeroM) (.int .i64 (n)) _ rfl rfl KR.out Tryd.underlying49 rfl (by kernel_rfl)) rfl ⟨?_, HB.out⟩
  rfl
set_option maxHeartbeats 4000000 in
theorem decM_wayA (a : Addr) (L C : Nat) (zs : List Int) (w : World) (hd : Hd) (rm : Ms) (rb : Bool) (E : Value) (hE : E = .tuple #[.agg (msA zeroM), .int .i64 60]) (hz : zs.length = L) (hL : 44 ≤ L) (hC : L ≤ C) (hM : C ≤ maxLen) (hc : BytesAt w a zs) (hl : Lens w) (f0 : -9223372036854775808 ≤ rm.h.f) (f1 : rm.h.f ≤ 9223372036854775807)
    (hC1 : ∀ v, BytesAt v a zs → Lens v → Calls Tryd.prog 6 #[.slice (some a) L C] v fun e w' => e = .returned (.tuple #[.agg #[.int .i64 hd.t, .int .i64 hd.d, .int .i64 hd.f, .int .i64 hd.c, .int .u8 hd.p.c.b0, .int .u8 hd.p.c.b1, .int .u8 hd.p.c.b2, .int .u8 hd.p.c.b3, .int .u8 hd.p.c.b4, .int .u8 hd.p.c.b5, .int .u8 hd.p.c.b6, .int .u8 hd.p.c.b7, .int .i64 hd.p.n, .int .i64 hd.s, .int .i64 hd.l], .int .i64 0]) ∧ Below v.heap.size v w')
    (hCR : ∀ gB v, Body v gB a 34 L C → BytesAt v a zs → a.block ≠ gB → Calls Tryd.prog 48 #[.agg #[.int .i64 hd.t, .int .i64 hd.d, .int .i64 hd.f, .int .i64 hd.c, .int .u8 hd.p.c.b0, .int .u8 hd.p.c.b1, .int .u8 hd.p.c.b2, .int .u8 hd.p.c.b3, .int .u8 hd.p.c.b4, .int .u8 hd.p.c.b5, .int .u8 hd.p.c.b6, .int .u8 hd.p.c.b7, .int .i64 hd.p.n, .int .i64 hd.s, .int .i64 hd.l], .func (.func 68) #[] #[.pointer (some ⟨gB, 0, none⟩)]] v fun e w' => e = .returned (.tuple #[.agg (msA rm), .bool rb]) ∧ Only [gB] v.heap.size v w') (hrb : rb = false) :
    Calls Tryd.prog 15 #[.slice (some a) L C] w fun e w' => e = .returned E ∧ Below w.heap.size w w' := by
  have HB := Lib.hid (Below.refl w.heap.size w)
  have HX := Lib.hid (congrArg Ending.returned hE)
  have BA := Lib.hid hc
  have LN := Lib.hid hl
  have C1 := Lib.hid hC1
  have CR := Lib.hid hCR
  have HSL : Hid (∀ v, (Instr.sliceAt 22 (.slice (some a) L C) (some (.int .i64 34)) none none).run Tryd.prog v = .ok (.slice (some (a.add 34)) (L - 34) (C - 34)) v) := by
    intro v
    rw [run_sliceAt_slice _ _ _ _ _ _ (by kernel_rfl), run_slice_l v _ _ _ _ (by kernel_rfl) .i64 34 (by omega) (by omega)]
    show Result.ok (sliced _ _ _ _ _) v = _
    unfold sliced
    rw [if_neg (by omega)]
    rfl
  have HRB := Lib.hid hrb
  clear hc hl hC1 hCR hE hrb
  go_enter Tryd.func15, Tryd.ntmps15
  go_wp2_with ((refine big_alloc rfl 49 rfl (msA zeroM) (by kernel_rfl) ?_; intro gKR wKR hlKR nKR hbKR; have KR := Lib.hid nKR; have LKR := Lib.hid (Nat.le_trans (HB.out).size hlKR); replace BA := Lib.hid ((BA.out).keptB hbKR); replace LN := Lib.hid ((LN.out).keptB hbKR); replace HB := Lib.hid (bstep HB.out hbKR); clear hlKR nKR hbKR))
  refine ((C1.out) _ BA.out LN.out).mono ?_
  rintro e w1 ⟨rfl, hw1⟩
  replace KR := Lib.hid ((KR.out).keptB hw1)
  replace BA := Lib.hid ((BA.out).keptB hw1)
  replace LN := Lib.hid ((LN.out).keptB hw1)
  replace HB := Lib.hid (bstep HB.out hw1)
  clear hw1 C1
  go_upto_region 4 with (first | (refine big_fill rfl 28 _ _ rfl gKH (#[.int .i64 hd.t, .int .i64 hd.d, .int .i64 hd.f, .int .i64 hd.c, .int .u8 hd.p.c.b0, .int .u8 hd.p.c.b1, .int .u8 hd.p.c.b2, .int .u8 hd.p.c.b3, .int .u8 hd.p.c.b4, .int .u8 hd.p.c.b5, .int .u8 hd.p.c.b6, .int .u8 hd.p.c.b7, .int .i64 hd.p.n, .int .i64 hd.s, .int .i64 hd.l]) rfl rfl KH.out (by kernel_rfl) (by kernel_rfl) (by kernel_rfl) ?_; intro vKH0 nKH htKH; replace KH := Lib.hid nKH; replace KR := Lib.hid ((KR.out).touch htKH (by have := NKRKH.out; omega)); replace BA := Lib.hid ((BA.out).touch htKH NAH.out); replace LN := Lib.hid (lens_touch LN.out htKH NLH.out); replace HB := Lib.hid (btouch HB.out htKH LKH.out); clear nKH htKH) | (refine big_alloc rfl 28 rfl (#[.int .i64 0, .int .i64 0, .int .i64 0, .int .i64 0, .int .u8 0, .int .u8 0, .int .u8 0, .int .u8 0, .int .u8 0, .int .u8 0, .int .u8 0, .int .u8 0, .int .i64 0, .int .i64 0, .int .i64 0]) (by kernel_rfl) ?_; intro gKH wKH hlKH nKH hbKH; have KH := Lib.hid nKH; have LKH := Lib.hid (Nat.le_trans (HB.out).size hlKH); have NKRKH := Lib.hid (show gKR ≠ gKH by have := (KR.out).inside; omega); replace KR := Lib.hid ((KR.out).keptB hbKH); have NAH := Lib.hid (show a.block ≠ gKH by have := (BA.out).inside (by omega); omega); have NLH := Lib.hid (show 0 ≠ gKH by have := (LN.out).inside; omega); replace BA := Lib.hid ((BA.out).keptB hbKH); replace LN := Lib.hid ((LN.out).keptB hbKH); replace HB := Lib.hid (bstep HB.out hbKH); clear hlKH nKH hbKH))
  go_cut [6, 7, 17, 18, 19, 20, 21, 22, 23, 24] (fun s6 s7 s17 s18 s19 s20 s21 s22 s23 s24 wx => DecCut a L C hd rm rb w gKR s6 s7 s17 s18 s19 s20 s21 s22 s23 s24 wx)
  case first =>
    refine wp_region_noPanic ?_
    obtain ⟨B, hB⟩ := size_is KH.out
    have TL := Lib.hid (show 0 < B from by rw [← hB]; exact (LN.out).inside)
    have TR := Lib.hid (show gKR < B from by rw [← hB]; exact (KR.out).inside)
    have TH := Lib.hid (show gKH < B from by rw [← hB]; exact (KH.out).inside)
    have TA := Lib.hid (show a.block < B from by rw [← hB]; exact (BA.out).inside (by omega))
    have TW := Lib.hid (show w.heap.size ≤ B by rw [← hB]; exact (HB.out).size)
    refine wp_region_held_drew (S := fun v => Below w.heap.size w v ∧ Lens v ∧ Holds v gKR 49 (msA zeroM) ∧ Holds v gKH 28 #[.int .i64 hd.t, .int .i64 hd.d, .int .i64 hd.f, .int .i64 hd.c, .int .u8 hd.p.c.b0, .int .u8 hd.p.c.b1, .int .u8 hd.p.c.b2, .int .u8 hd.p.c.b3, .int .u8 hd.p.c.b4, .int .u8 hd.p.c.b5, .int .u8 hd.p.c.b6, .int .u8 hd.p.c.b7, .int .i64 hd.p.n, .int .i64 hd.s, .int .i64 hd.l] ∧ BytesAt v a zs) (by kernel_rfl) ?_ (fun hHeld => ?_)
    · exact ⟨bdrew HB.out, (LN.out).drew, (KR.out).drew, (KH.out).drew, (BA.out).drew⟩
    have HS : Hid (B ≤ _) := Lib.hid (Nat.le_of_eq (hB.symm.trans (size_drew _)))
    clear HB LN KR KH BA hB
    refine wpAnyH_take (i := 0) (v := .agg #[.int .i64 hd.t, .int .i64 hd.d, .int .i64 hd.f, .int .i64 hd.c, .int .u8 hd.p.c.b0, .int .u8 hd.p.c.b1, .int .u8 hd.p.c.b2, .int .u8 hd.p.c.b3, .int .u8 hd.p.c.b4, .int .u8 hd.p.c.b5, .int .u8 hd.p.c.b6, .int .u8 hd.p.c.b7, .int .i64 hd.p.n, .int .i64 hd.s, .int .i64 hd.l]) (at_list rfl) (by kernel_rfl) (by kernel_rfl) (by kernel_rfl) (fun _ _ _ h => h) (yieldsIf_load_mid (by rfl) 28 _ rfl gKH 0 rfl [.int .i64 hd.t, .int .i64 hd.d, .int .i64 hd.f, .int .i64 hd.c, .int .u8 hd.p.c.b0, .int .u8 hd.p.c.b1, .int .u8 hd.p.c.b2, .int .u8 hd.p.c.b3, .int .u8 hd.p.c.b4, .int .u8 hd.p.c.b5, .int .u8 hd.p.c.b6, .int .u8 hd.p.c.b7, .int .i64 hd.p.n, .int .i64 hd.s, .int .i64 hd.l] _ (fun v hv => Holds.range hv.2.2.2.1 rfl) Tryd.underlying28 rfl (by kernel_rfl)) hHeld ?_
    try simp only [Act.put, List.setIfInBounds_toArray, List.set_cons_zero, List.set_cons_succ]
    refine wpAnyH_take (i := 1) (v := .slice (some a) L C) (at_list rfl) (by kernel_rfl) (by kernel_rfl) (by kernel_rfl) (fun _ _ _ h => h) (Or.inl ⟨by rfl, ?_⟩) hHeld ?_
    · intro v hSv
      clear hHeld
      go_simp
    try simp only [Act.put, List.setIfInBounds_toArray, List.set_cons_zero, List.set_cons_succ]
    refine wpAnyH_take (i := 2) (v := .slice (some (a.add 34)) (L - 34) (C - 34)) (at_list rfl) (by kernel_rfl) (by kernel_rfl) (by kernel_rfl) (fun _ _ _ h => h) (Or.inl ⟨by rfl, ?_⟩) hHeld ?_
    · intro v hSv
      clear hHeld
      clear hSv
      have hsl := HSL.out v
      go_simp
    try simp only [Act.put, List.setIfInBounds_toArray, List.set_cons_zero, List.set_cons_succ]
    refine wpAnyH_ready (rs := [3, 8]) (by kernel_rfl) (by simp) ?_
    refine AllReadyH.cons (at_list rfl) (fun K hK => ?_) (AllReadyH.cons (at_list rfl) (fun K hK => ?_) (AllReadyH.nil))
    · go_simp
      refine (taker_any a L C _).mono ?_
      rintro e y1 ⟨gB, hgB, rfl, hbB, hy1⟩
      have BD := Lib.hid hbB
      have LB := Lib.hid (show B ≤ gB from Nat.le_trans HS.out hgB)
      have NAB := Lib.hid (show a.block ≠ gB by have := TA.out; have := LB.out; omega)
      replace HS := Lib.hid (Nat.le_trans HS.out (hy1).size)
      go_wp2_with fail
      refine hK.out _ _ ?_ (fun hHeld2 => ?_)
      · exact ⟨bstep hHeld.1 hy1, hHeld.2.1.keptB hy1, hHeld.2.2.1.keptB hy1, hHeld.2.2.2.1.keptB hy1, hHeld.2.2.2.2.keptB hy1⟩
      clear hK K hHeld
      have hHeld := hHeld2
      clear hHeld2 hy1 hbB hgB
      try simp only [Act.put, List.setIfInBounds_toArray, List.set_cons_zero, List.set_cons_succ]
      refine wpAnyH_ready (rs := [4, 8]) (by kernel_rfl) (by simp) ?_
      refine AllReadyH.cons (at_list rfl) (fun K hK => ?_) (AllReadyH.cons (at_list rfl) (fun K hK => ?_) (AllReadyH.nil))
      · go_simp
        refine ((CR.out) gB _ BD.out hHeld.2.2.2.2 NAB.out).mono ?_
        rintro e y2 ⟨rfl, ho2⟩
        have hy2 := only_below ho2 HS.out LB.out
        replace HS := Lib.hid (Nat.le_trans HS.out (hy2).size)
        go_wp2_with fail
        refine hK.out _ _ ?_ (fun hHeld2 => ?_)
        · exact ⟨bbelow hHeld.1 hy2 TW.out, hHeld.2.1.kept hy2 TL.out, hHeld.2.2.1.kept hy2 TR.out, hHeld.2.2.2.1.kept hy2 TH.out, hHeld.2.2.2.2.kept hy2 TA.out⟩
        clear hK K hHeld
        have hHeld := hHeld2
        clear hHeld2 hy2 ho2 BD
        try simp only [Act.put, List.setIfInBounds_toArray, List.set_cons_zero, List.set_cons_succ]
        refine wpAnyH_take (i := 5) (v := .tuple #[.agg (msA rm), .bool rb]) (at_list rfl) (by kernel_rfl) (by kernel_rfl) (by kernel_rfl) (fun _ _ _ h => h) (Or.inl ⟨by rfl, ?_⟩) hHeld ?_
        · intro v hSv
          clear hHeld
          go_simp
        try simp only [Act.put, List.setIfInBounds_toArray, List.set_cons_zero, List.set_cons_succ]
        refine wpAnyH_take (i := 6) (v := .agg (msA rm)) (at_list rfl) (by kernel_rfl) (by kernel_rfl) (by kernel_rfl) (fun _ _ _ h => h) (Or.inl ⟨by rfl, ?_⟩) hHeld ?_
        · intro v hSv
          clear hHeld
          go_simp
        try simp only [Act.put, List.setIfInBounds_toArray, List.set_cons_zero, List.set_cons_succ]
        refine wpAnyH_take (i := 7) (v := .bool rb) (at_list rfl) (by kernel_rfl) (by kernel_rfl) (by kernel_rfl) (fun _ _ _ h => h) (Or.inl ⟨by rfl, ?_⟩) hHeld ?_
        · intro v hSv
          clear hHeld
          go_simp
        try simp only [Act.put, List.setIfInBounds_toArray, List.set_cons_zero, List.set_cons_succ]
        refine wpAnyH_ready (rs := [8]) (by kernel_rfl) (by simp) ?_
        refine AllReadyH.cons (at_list rfl) (fun K hK => ?_) (AllReadyH.nil)
        refine step_alloc (by rfl) 49 rfl (msA zeroM) (by kernel_rfl) ?_
        intro g6 y3 hl6 n6 hy3
        have K6 := Lib.hid n6
        have L6 := Lib.hid (show w.heap.size ≤ g6 from Nat.le_trans hHeld.1.size hl6)
        have NL6 := Lib.hid (show 0 ≠ g6 by have := hHeld.2.1.inside; omega)
        have NR6 := Lib.hid (show gKR ≠ g6 by have := hHeld.2.2.1.inside; omega)
        have NH6 := Lib.hid (show gKH ≠ g6 by have := hHeld.2.2.2.1.inside; omega)
        have NA6 := Lib.hid (show a.block ≠ g6 by have := hHeld.2.2.2.2.inside (by omega); omega)
        replace HS := Lib.hid (Nat.le_trans HS.out (hy3).size)
        refine hK.out _ _ ?_ (fun hHeld2 => ?_)
        · exact ⟨bstep hHeld.1 hy3, hHeld.2.1.keptB hy3, hHeld.2.2.1.keptB hy3, hHeld.2.2.2.1.keptB hy3, hHeld.2.2.2.2.keptB hy3⟩
        clear hK K hHeld
        have hHeld := hHeld2
        clear hHeld2
        try simp only [Act.put]
        try simp only [List.setIfInBounds_toArray, List.set_cons_zero, List.set_cons_succ]
        clear hl6 n6 hy3
        refine wpAnyH_ready (rs := [9]) (by kernel_rfl) (by simp) ?_
        refine AllReadyH.cons (at_list rfl) (fun K hK => ?_) (AllReadyH.nil)
        refine step_store (by rfl) 49 _ _ rfl g6 0 (msA rm).toList rfl rfl K6.out (by kernel_rfl) (by kernel_rfl) (of_decide_eq_true (by kernel_rfl)) (msA rm) (by kernel_rfl) ?_
        intro y4 n6 hy4
        replace K6 := Lib.hid n6
        refine hK.out _ _ ?_ (fun hHeld2 => ?_)
        · exact ⟨btouch hHeld.1 hy4 L6.out, lens_touch hHeld.2.1 hy4 (by have := NL6.out; omega), hHeld.2.2.1.touch hy4 NR6.out, hHeld.2.2.2.1.touch hy4 NH6.out, hHeld.2.2.2.2.touch hy4 NA6.out⟩
        clear hK K hHeld
        have hHeld := hHeld2
        clear hHeld2
        try simp only [Act.put]
        clear n6 hy4
        refine wpAnyH_take (i := 10) (v := .bool rb) (at_list rfl) (by kernel_rfl) (by kernel_rfl) (by kernel_rfl) (fun _ _ _ h => h) (Or.inl ⟨by rfl, ?_⟩) hHeld ?_
        · intro v hSv
          clear hHeld
          go_simp
        try simp only [Act.put, List.setIfInBounds_toArray, List.set_cons_zero, List.set_cons_succ]
        refine wpAnyH_done (by kernel_rfl) ?_ _
        refine NoPanic.normal ?_
        go_wp2_with fail
        go_meet
        exact ⟨gB, g6, rfl, rfl, rfl, rfl, rfl, rfl, rfl, rfl, rfl, rfl, hHeld.1, hHeld.2.1, hHeld.2.2.1, K6.out, NR6.out, L6.out⟩
      · refine step_alloc (by rfl) 49 rfl (msA zeroM) (by kernel_rfl) ?_
        intro g6 y5 hl6 n6 hy5
        have K6 := Lib.hid n6
        have L6 := Lib.hid (show w.heap.size ≤ g6 from Nat.le_trans hHeld.1.size hl6)
        have NL6 := Lib.hid (show 0 ≠ g6 by have := hHeld.2.1.inside; omega)
        have NR6 := Lib.hid (show gKR ≠ g6 by have := hHeld.2.2.1.inside; omega)
        have NH6 := Lib.hid (show gKH ≠ g6 by have := hHeld.2.2.2.1.inside; omega)
        have NA6 := Lib.hid (show a.block ≠ g6 by have := hHeld.2.2.2.2.inside (by omega); omega)
        have N6B := Lib.hid (show g6 ≠ gB by have := (BD.out).inside; omega)
        replace BD := Lib.hid ((BD.out).keptB hy5)
        replace HS := Lib.hid (Nat.le_trans HS.out (hy5).size)
        refine hK.out _ _ ?_ (fun hHeld2 => ?_)
        · exact ⟨bstep hHeld.1 hy5, hHeld.2.1.keptB hy5, hHeld.2.2.1.keptB hy5, hHeld.2.2.2.1.keptB hy5, hHeld.2.2.2.2.keptB hy5⟩
        clear hK K hHeld
        have hHeld := hHeld2
        clear hHeld2
        try simp only [Act.put]
        try simp only [List.setIfInBounds_toArray, List.set_cons_zero, List.set_cons_succ]
        clear hl6 n6 hy5
        refine wpAnyH_ready (rs := [4]) (by kernel_rfl) (by simp) ?_
        refine AllReadyH.cons (at_list rfl) (fun K hK => ?_) (AllReadyH.nil)
        go_simp
        refine ((CR.out) gB _ BD.out hHeld.2.2.2.2 NAB.out).mono ?_
        rintro e y6 ⟨rfl, ho6⟩
        have hy6 := only_below ho6 HS.out LB.out
        replace K6 := Lib.hid ((K6.out).only ho6 (by have := N6B.out; simp; omega))
        replace HS := Lib.hid (Nat.le_trans HS.out (hy6).size)
        go_wp2_with fail
        refine hK.out _ _ ?_ (fun hHeld2 => ?_)
        · exact ⟨bbelow hHeld.1 hy6 TW.out, hHeld.2.1.kept hy6 TL.out, hHeld.2.2.1.kept hy6 TR.out, hHeld.2.2.2.1.kept hy6 TH.out, hHeld.2.2.2.2.kept hy6 TA.out⟩
        clear hK K hHeld
        have hHeld := hHeld2
        clear hHeld2 hy6 ho6 BD
        try simp only [Act.put, List.setIfInBounds_toArray, List.set_cons_zero, List.set_cons_succ]
        refine wpAnyH_take (i := 5) (v := .tuple #[.agg (msA rm), .bool rb]) (at_list rfl) (by kernel_rfl) (by kernel_rfl) (by kernel_rfl) (fun _ _ _ h => h) (Or.inl ⟨by rfl, ?_⟩) hHeld ?_
        · intro v hSv
          clear hHeld
          go_simp
        try simp only [Act.put, List.setIfInBounds_toArray, List.set_cons_zero, List.set_cons_succ]
        refine wpAnyH_take (i := 6) (v := .agg (msA rm)) (at_list rfl) (by kernel_rfl) (by kernel_rfl) (by kernel_rfl) (fun _ _ _ h => h) (Or.inl ⟨by rfl, ?_⟩) hHeld ?_
        · intro v hSv
          clear hHeld
          go_simp
        try simp only [Act.put, List.setIfInBounds_toArray, List.set_cons_zero, List.set_cons_succ]
        refine wpAnyH_take (i := 7) (v := .bool rb) (at_list rfl) (by kernel_rfl) (by kernel_rfl) (by kernel_rfl) (fun _ _ _ h => h) (Or.inl ⟨by rfl, ?_⟩) hHeld ?_
        · intro v hSv
          clear hHeld
          go_simp
        try simp only [Act.put, List.setIfInBounds_toArray, List.set_cons_zero, List.set_cons_succ]
        refine wpAnyH_ready (rs := [9]) (by kernel_rfl) (by simp) ?_
        refine AllReadyH.cons (at_list rfl) (fun K hK => ?_) (AllReadyH.nil)
        refine step_store (by rfl) 49 _ _ rfl g6 0 (msA rm).toList rfl rfl K6.out (by kernel_rfl) (by kernel_rfl) (of_decide_eq_true (by kernel_rfl)) (msA rm) (by kernel_rfl) ?_
        intro y7 n6 hy7
        replace K6 := Lib.hid n6
        refine hK.out _ _ ?_ (fun hHeld2 => ?_)
        · exact ⟨btouch hHeld.1 hy7 L6.out, lens_touch hHeld.2.1 hy7 (by have := NL6.out; omega), hHeld.2.2.1.touch hy7 NR6.out, hHeld.2.2.2.1.touch hy7 NH6.out, hHeld.2.2.2.2.touch hy7 NA6.out⟩
        clear hK K hHeld
        have hHeld := hHeld2
        clear hHeld2
        try simp only [Act.put]
        clear n6 hy7
        refine wpAnyH_take (i := 10) (v := .bool rb) (at_list rfl) (by kernel_rfl) (by kernel_rfl) (by kernel_rfl) (fun _ _ _ h => h) (Or.inl ⟨by rfl, ?_⟩) hHeld ?_
        · intro v hSv
          clear hHeld
          go_simp
        try simp only [Act.put, List.setIfInBounds_toArray, List.set_cons_zero, List.set_cons_succ]
        refine wpAnyH_done (by kernel_rfl) ?_ _
        refine NoPanic.normal ?_
        go_wp2_with fail
        go_meet
        exact ⟨gB, g6, rfl, rfl, rfl, rfl, rfl, rfl, rfl, rfl, rfl, rfl, hHeld.1, hHeld.2.1, hHeld.2.2.1, K6.out, NR6.out, L6.out⟩
    · refine step_alloc (by rfl) 49 rfl (msA zeroM) (by kernel_rfl) ?_
      intro g6 y8 hl6 n6 hy8
      have K6 := Lib.hid n6
      have L6 := Lib.hid (show w.heap.size ≤ g6 from Nat.le_trans hHeld.1.size hl6)
      have NL6 := Lib.hid (show 0 ≠ g6 by have := hHeld.2.1.inside; omega)
      have NR6 := Lib.hid (show gKR ≠ g6 by have := hHeld.2.2.1.inside; omega)
      have NH6 := Lib.hid (show gKH ≠ g6 by have := hHeld.2.2.2.1.inside; omega)
      have NA6 := Lib.hid (show a.block ≠ g6 by have := hHeld.2.2.2.2.inside (by omega); omega)
      replace HS := Lib.hid (Nat.le_trans HS.out (hy8).size)
      refine hK.out _ _ ?_ (fun hHeld2 => ?_)
      · exact ⟨bstep hHeld.1 hy8, hHeld.2.1.keptB hy8, hHeld.2.2.1.keptB hy8, hHeld.2.2.2.1.keptB hy8, hHeld.2.2.2.2.keptB hy8⟩
      clear hK K hHeld
      have hHeld := hHeld2
      clear hHeld2
      try simp only [Act.put]
      try simp only [List.setIfInBounds_toArray, List.set_cons_zero, List.set_cons_succ]
      clear hl6 n6 hy8
      refine wpAnyH_ready (rs := [3]) (by kernel_rfl) (by simp) ?_
      refine AllReadyH.cons (at_list rfl) (fun K hK => ?_) (AllReadyH.nil)
      go_simp
      refine (taker_any a L C _).mono ?_
      rintro e y9 ⟨gB, hgB, rfl, hbB, hy9⟩
      have BD := Lib.hid hbB
      have LB := Lib.hid (show B ≤ gB from Nat.le_trans HS.out hgB)
      have NAB := Lib.hid (show a.block ≠ gB by have := TA.out; have := LB.out; omega)
      have N6B := Lib.hid (show g6 ≠ gB by have := (K6.out).inside; omega)
      replace K6 := Lib.hid ((K6.out).keptB hy9)
      replace HS := Lib.hid (Nat.le_trans HS.out (hy9).size)
      go_wp2_with fail
      refine hK.out _ _ ?_ (fun hHeld2 => ?_)
      · exact ⟨bstep hHeld.1 hy9, hHeld.2.1.keptB hy9, hHeld.2.2.1.keptB hy9, hHeld.2.2.2.1.keptB hy9, hHeld.2.2.2.2.keptB hy9⟩
      clear hK K hHeld
      have hHeld := hHeld2
      clear hHeld2 hy9 hbB hgB
      try simp only [Act.put, List.setIfInBounds_toArray, List.set_cons_zero, List.set_cons_succ]
      refine wpAnyH_ready (rs := [4]) (by kernel_rfl) (by simp) ?_
      refine AllReadyH.cons (at_list rfl) (fun K hK => ?_) (AllReadyH.nil)
      go_simp
      refine ((CR.out) gB _ BD.out hHeld.2.2.2.2 NAB.out).mono ?_
      rintro e y10 ⟨rfl, ho10⟩
      have hy10 := only_below ho10 HS.out LB.out
      replace K6 := Lib.hid ((K6.out).only ho10 (by have := N6B.out; simp; omega))
      replace HS := Lib.hid (Nat.le_trans HS.out (hy10).size)
      go_wp2_with fail
      refine hK.out _ _ ?_ (fun hHeld2 => ?_)
      · exact ⟨bbelow hHeld.1 hy10 TW.out, hHeld.2.1.kept hy10 TL.out, hHeld.2.2.1.kept hy10 TR.out, hHeld.2.2.2.1.kept hy10 TH.out, hHeld.2.2.2.2.kept hy10 TA.out⟩
      clear hK K hHeld
      have hHeld := hHeld2
      clear hHeld2 hy10 ho10 BD
      try simp only [Act.put, List.setIfInBounds_toArray, List.set_cons_zero, List.set_cons_succ]
      refine wpAnyH_take (i := 5) (v := .tuple #[.agg (msA rm), .bool rb]) (at_list rfl) (by kernel_rfl) (by kernel_rfl) (by kernel_rfl) (fun _ _ _ h => h) (Or.inl ⟨by rfl, ?_⟩) hHeld ?_
      · intro v hSv
        clear hHeld
        go_simp
      try simp only [Act.put, List.setIfInBounds_toArray, List.set_cons_zero, List.set_cons_succ]
      refine wpAnyH_take (i := 6) (v := .agg (msA rm)) (at_list rfl) (by kernel_rfl) (by kernel_rfl) (by kernel_rfl) (fun _ _ _ h => h) (Or.inl ⟨by rfl, ?_⟩) hHeld ?_
      · intro v hSv
        clear hHeld
        go_simp
      try simp only [Act.put, List.setIfInBounds_toArray, List.set_cons_zero, List.set_cons_succ]
      refine wpAnyH_take (i := 7) (v := .bool rb) (at_list rfl) (by kernel_rfl) (by kernel_rfl) (by kernel_rfl) (fun _ _ _ h => h) (Or.inl ⟨by rfl, ?_⟩) hHeld ?_
      · intro v hSv
        clear hHeld
        go_simp
      try simp only [Act.put, List.setIfInBounds_toArray, List.set_cons_zero, List.set_cons_succ]
      refine wpAnyH_ready (rs := [9]) (by kernel_rfl) (by simp) ?_
      refine AllReadyH.cons (at_list rfl) (fun K hK => ?_) (AllReadyH.nil)
      refine step_store (by rfl) 49 _ _ rfl g6 0 (msA rm).toList rfl rfl K6.out (by kernel_rfl) (by kernel_rfl) (of_decide_eq_true (by kernel_rfl)) (msA rm) (by kernel_rfl) ?_
      intro y11 n6 hy11
      replace K6 := Lib.hid n6
      refine hK.out _ _ ?_ (fun hHeld2 => ?_)
      · exact ⟨btouch hHeld.1 hy11 L6.out, lens_touch hHeld.2.1 hy11 (by have := NL6.out; omega), hHeld.2.2.1.touch hy11 NR6.out, hHeld.2.2.2.1.touch hy11 NH6.out, hHeld.2.2.2.2.touch hy11 NA6.out⟩
      clear hK K hHeld
      have hHeld := hHeld2
      clear hHeld2
      try simp only [Act.put]
      clear n6 hy11
      refine wpAnyH_take (i := 10) (v := .bool rb) (at_list rfl) (by kernel_rfl) (by kernel_rfl) (by kernel_rfl) (fun _ _ _ h => h) (Or.inl ⟨by rfl, ?_⟩) hHeld ?_
      · intro v hSv
        clear hHeld
        go_simp
      try simp only [Act.put, List.setIfInBounds_toArray, List.set_cons_zero, List.set_cons_succ]
      refine wpAnyH_done (by kernel_rfl) ?_ _
      refine NoPanic.normal ?_
      go_wp2_with fail
      go_meet
      exact ⟨gB, g6, rfl, rfl, rfl, rfl, rfl, rfl, rfl, rfl, rfl, rfl, hHeld.1, hHeld.2.1, hHeld.2.2.1, K6.out, NR6.out, L6.out⟩
  case rest =>
    obtain ⟨gB, gK6, rfl, rfl, rfl, rfl, rfl, rfl, rfl, rfl, rfl, rfl, hb, hl, hr, h6, hne, hle⟩ := hcut
    have HB := Lib.hid hb
    have LN := Lib.hid hl
    have KR := Lib.hid hr
    have K6 := Lib.hid h6
    have NKRK6 := Lib.hid hne
    clear hb hl hr h6 hne hle
    have hrb := HRB.out
    subst hrb
    go_wp2_with (first | (refine big_fill rfl 49 _ _ rfl gKR (msA zeroM) rfl rfl KR.out (by kernel_rfl) (by kernel_rfl) (by kernel_rfl) ?_; intro vKR7 nKR htKR; replace KR := Lib.hid nKR; replace K6 := Lib.hid ((K6.out).touch htKR (by have := NKRK6.out; omega)); replace HB := Lib.hid (btouch HB.out htKR LKR.out); clear nKR htKR) | (refine big_build rfl 49 _ rfl (msA zeroM) (by kernel_rfl) ?_))
    refine bodyPost_ret (results_two rfl _ _ gKR _ (msA zeroM) (.int .i64 60) _ rfl rfl KR.out Tryd.underlying49 rfl (by kernel_rfl)) rfl ⟨?_, HB.out⟩
    exact HX.out.symm
set_option maxHeartbeats 4000000 in
theorem decM_wayB (a : Addr) (L C : Nat) (zs : List Int) (w : World) (hd : Hd) (rm : Ms) (rb : Bool) (E : Value) (hE : E = .tuple #[.agg (msA zeroM), .int .i64 60]) (hz : zs.length = L) (hL : 44 ≤ L) (hC : L ≤ C) (hM : C ≤ maxLen) (hc : BytesAt w a zs) (hl : Lens w) (f0 : -9223372036854775808 ≤ rm.h.f) (f1 : rm.h.f ≤ 9223372036854775807)
    (hC1 : ∀ v, BytesAt v a zs → Lens v → Calls Tryd.prog 6 #[.slice (some a) L C] v fun e w' => e = .returned (.tuple #[.agg #[.int .i64 hd.t, .int .i64 hd.d, .int .i64 hd.f, .int .i64 hd.c, .int .u8 hd.p.c.b0, .int .u8 hd.p.c.b1, .int .u8 hd.p.c.b2, .int .u8 hd.p.c.b3, .int .u8 hd.p.c.b4, .int .u8 hd.p.c.b5, .int .u8 hd.p.c.b6, .int .u8 hd.p.c.b7, .int .i64 hd.p.n, .int .i64 hd.s, .int .i64 hd.l], .int .i64 0]) ∧ Below v.heap.size v w')
    (hCR : ∀ gB v, Body v gB a 34 L C → BytesAt v a zs → a.block ≠ gB → Calls Tryd.prog 48 #[.agg #[.int .i64 hd.t, .int .i64 hd.d, .int .i64 hd.f, .int .i64 hd.c, .int .u8 hd.p.c.b0, .int .u8 hd.p.c.b1, .int .u8 hd.p.c.b2, .int .u8 hd.p.c.b3, .int .u8 hd.p.c.b4, .int .u8 hd.p.c.b5, .int .u8 hd.p.c.b6, .int .u8 hd.p.c.b7, .int .i64 hd.p.n, .int .i64 hd.s, .int .i64 hd.l], .func (.func 68) #[] #[.pointer (some ⟨gB, 0, none⟩)]] v fun e w' => e = .returned (.tuple #[.agg (msA rm), .bool rb]) ∧ Only [gB] v.heap.size v w') (hrb : rb = true) (hr : rm.right = false) :
    Calls Tryd.prog 15 #[.slice (some a) L C] w fun e w' => e = .returned E ∧ Below w.heap.size w w' := by
  have HB := Lib.hid (Below.refl w.heap.size w)
  have HX := Lib.hid (congrArg Ending.returned hE)
  have BA := Lib.hid hc
  have LN := Lib.hid hl
  have C1 := Lib.hid hC1
  have CR := Lib.hid hCR
  have HSL : Hid (∀ v, (Instr.sliceAt 22 (.slice (some a) L C) (some (.int .i64 34)) none none).run Tryd.prog v = .ok (.slice (some (a.add 34)) (L - 34) (C - 34)) v) := by
    intro v
    rw [run_sliceAt_slice _ _ _ _ _ _ (by kernel_rfl), run_slice_l v _ _ _ _ (by kernel_rfl) .i64 34 (by omega) (by omega)]
    show Result.ok (sliced _ _ _ _ _) v = _
    unfold sliced
    rw [if_neg (by omega)]
    rfl
  have HRB := Lib.hid hrb
  clear hc hl hC1 hCR hE hrb
  have HR := Lib.hid hr
  clear hr
  go_enter Tryd.func15, Tryd.ntmps15
  go_wp2_with ((refine big_alloc rfl 49 rfl (msA zeroM) (by kernel_rfl) ?_; intro gKR wKR hlKR nKR hbKR; have KR := Lib.hid nKR; have LKR := Lib.hid (Nat.le_trans (HB.out).size hlKR); replace BA := Lib.hid ((BA.out).keptB hbKR); replace LN := Lib.hid ((LN.out).keptB hbKR); replace HB := Lib.hid (bstep HB.out hbKR); clear hlKR nKR hbKR))
  refine ((C1.out) _ BA.out LN.out).mono ?_
  rintro e w1 ⟨rfl, hw1⟩
  replace KR := Lib.hid ((KR.out).keptB hw1)
  replace BA := Lib.hid ((BA.out).keptB hw1)
  replace LN := Lib.hid ((LN.out).keptB hw1)
  replace HB := Lib.hid (bstep HB.out hw1)
  clear hw1 C1
  go_upto_region 4 with (first | (refine big_fill rfl 28 _ _ rfl gKH (#[.int .i64 hd.t, .int .i64 hd.d, .int .i64 hd.f, .int .i64 hd.c, .int .u8 hd.p.c.b0, .int .u8 hd.p.c.b1, .int .u8 hd.p.c.b2, .int .u8 hd.p.c.b3, .int .u8 hd.p.c.b4, .int .u8 hd.p.c.b5, .int .u8 hd.p.c.b6, .int .u8 hd.p.c.b7, .int .i64 hd.p.n, .int .i64 hd.s, .int .i64 hd.l]) rfl rfl KH.out (by kernel_rfl) (by kernel_rfl) (by kernel_rfl) ?_; intro vKH0 nKH htKH; replace KH := Lib.hid nKH; replace KR := Lib.hid ((KR.out).touch htKH (by have := NKRKH.out; omega)); replace BA := Lib.hid ((BA.out).touch htKH NAH.out); replace LN := Lib.hid (lens_touch LN.out htKH NLH.out); replace HB := Lib.hid (btouch HB.out htKH LKH.out); clear nKH htKH) | (refine big_alloc rfl 28 rfl (#[.int .i64 0, .int .i64 0, .int .i64 0, .int .i64 0, .int .u8 0, .int .u8 0, .int .u8 0, .int .u8 0, .int .u8 0, .int .u8 0, .int .u8 0, .int .u8 0, .int .i64 0, .int .i64 0, .int .i64 0]) (by kernel_rfl) ?_; intro gKH wKH hlKH nKH hbKH; have KH := Lib.hid nKH; have LKH := Lib.hid (Nat.le_trans (HB.out).size hlKH); have NKRKH := Lib.hid (show gKR ≠ gKH by have := (KR.out).inside; omega); replace KR := Lib.hid ((KR.out).keptB hbKH); have NAH := Lib.hid (show a.block ≠ gKH by have := (BA.out).inside (by omega); omega); have NLH := Lib.hid (show 0 ≠ gKH by have := (LN.out).inside; omega); replace BA := Lib.hid ((BA.out).keptB hbKH); replace LN := Lib.hid ((LN.out).keptB hbKH); replace HB := Lib.hid (bstep HB.out hbKH); clear hlKH nKH hbKH))
  go_cut [6, 7, 17, 18, 19, 20, 21, 22, 23, 24] (fun s6 s7 s17 s18 s19 s20 s21 s22 s23 s24 wx => DecCut a L C hd rm rb w gKR s6 s7 s17 s18 s19 s20 s21 s22 s23 s24 wx)
  case first =>
    refine wp_region_noPanic ?_
    obtain ⟨B, hB⟩ := size_is KH.out
    have TL := Lib.hid (show 0 < B from by rw [← hB]; exact (LN.out).inside)
    have TR := Lib.hid (show gKR < B from by rw [← hB]; exact (KR.out).inside)
    have TH := Lib.hid (show gKH < B from by rw [← hB]; exact (KH.out).inside)
    have TA := Lib.hid (show a.block < B from by rw [← hB]; exact (BA.out).inside (by omega))
    have TW := Lib.hid (show w.heap.size ≤ B by rw [← hB]; exact (HB.out).size)
    refine wp_region_held_drew (S := fun v => Below w.heap.size w v ∧ Lens v ∧ Holds v gKR 49 (msA zeroM) ∧ Holds v gKH 28 #[.int .i64 hd.t, .int .i64 hd.d, .int .i64 hd.f, .int .i64 hd.c, .int .u8 hd.p.c.b0, .int .u8 hd.p.c.b1, .int .u8 hd.p.c.b2, .int .u8 hd.p.c.b3, .int .u8 hd.p.c.b4, .int .u8 hd.p.c.b5, .int .u8 hd.p.c.b6, .int .u8 hd.p.c.b7, .int .i64 hd.p.n, .int .i64 hd.s, .int .i64 hd.l] ∧ BytesAt v a zs) (by kernel_rfl) ?_ (fun hHeld => ?_)
    · exact ⟨bdrew HB.out, (LN.out).drew, (KR.out).drew, (KH.out).drew, (BA.out).drew⟩
    have HS : Hid (B ≤ _) := Lib.hid (Nat.le_of_eq (hB.symm.trans (size_drew _)))
    clear HB LN KR KH BA hB
    refine wpAnyH_take (i := 0) (v := .agg #[.int .i64 hd.t, .int .i64 hd.d, .int .i64 hd.f, .int .i64 hd.c, .int .u8 hd.p.c.b0, .int .u8 hd.p.c.b1, .int .u8 hd.p.c.b2, .int .u8 hd.p.c.b3, .int .u8 hd.p.c.b4, .int .u8 hd.p.c.b5, .int .u8 hd.p.c.b6, .int .u8 hd.p.c.b7, .int .i64 hd.p.n, .int .i64 hd.s, .int .i64 hd.l]) (at_list rfl) (by kernel_rfl) (by kernel_rfl) (by kernel_rfl) (fun _ _ _ h => h) (yieldsIf_load_mid (by rfl) 28 _ rfl gKH 0 rfl [.int .i64 hd.t, .int .i64 hd.d, .int .i64 hd.f, .int .i64 hd.c, .int .u8 hd.p.c.b0, .int .u8 hd.p.c.b1, .int .u8 hd.p.c.b2, .int .u8 hd.p.c.b3, .int .u8 hd.p.c.b4, .int .u8 hd.p.c.b5, .int .u8 hd.p.c.b6, .int .u8 hd.p.c.b7, .int .i64 hd.p.n, .int .i64 hd.s, .int .i64 hd.l] _ (fun v hv => Holds.range hv.2.2.2.1 rfl) Tryd.underlying28 rfl (by kernel_rfl)) hHeld ?_
    try simp only [Act.put, List.setIfInBounds_toArray, List.set_cons_zero, List.set_cons_succ]
    refine wpAnyH_take (i := 1) (v := .slice (some a) L C) (at_list rfl) (by kernel_rfl) (by kernel_rfl) (by kernel_rfl) (fun _ _ _ h => h) (Or.inl ⟨by rfl, ?_⟩) hHeld ?_
    · intro v hSv
      clear hHeld
      go_simp
    try simp only [Act.put, List.setIfInBounds_toArray, List.set_cons_zero, List.set_cons_succ]
    refine wpAnyH_take (i := 2) (v := .slice (some (a.add 34)) (L - 34) (C - 34)) (at_list rfl) (by kernel_rfl) (by kernel_rfl) (by kernel_rfl) (fun _ _ _ h => h) (Or.inl ⟨by rfl, ?_⟩) hHeld ?_
    · intro v hSv
      clear hHeld
      clear hSv
      have hsl := HSL.out v
      go_simp
    try simp only [Act.put, List.setIfInBounds_toArray, List.set_cons_zero, List.set_cons_succ]
    refine wpAnyH_ready (rs := [3, 8]) (by kernel_rfl) (by simp) ?_
    refine AllReadyH.cons (at_list rfl) (fun K hK => ?_) (AllReadyH.cons (at_list rfl) (fun K hK => ?_) (AllReadyH.nil))
    · go_simp
      refine (taker_any a L C _).mono ?_
      rintro e y1 ⟨gB, hgB, rfl, hbB, hy1⟩
      have BD := Lib.hid hbB
      have LB := Lib.hid (show B ≤ gB from Nat.le_trans HS.out hgB)
      have NAB := Lib.hid (show a.block ≠ gB by have := TA.out; have := LB.out; omega)
      replace HS := Lib.hid (Nat.le_trans HS.out (hy1).size)
      go_wp2_with fail
      refine hK.out _ _ ?_ (fun hHeld2 => ?_)
      · exact ⟨bstep hHeld.1 hy1, hHeld.2.1.keptB hy1, hHeld.2.2.1.keptB hy1, hHeld.2.2.2.1.keptB hy1, hHeld.2.2.2.2.keptB hy1⟩
      clear hK K hHeld
      have hHeld := hHeld2
      clear hHeld2 hy1 hbB hgB
      try simp only [Act.put, List.setIfInBounds_toArray, List.set_cons_zero, List.set_cons_succ]
      refine wpAnyH_ready (rs := [4, 8]) (by kernel_rfl) (by simp) ?_
      refine AllReadyH.cons (at_list rfl) (fun K hK => ?_) (AllReadyH.cons (at_list rfl) (fun K hK => ?_) (AllReadyH.nil))
      · go_simp
        refine ((CR.out) gB _ BD.out hHeld.2.2.2.2 NAB.out).mono ?_
        rintro e y2 ⟨rfl, ho2⟩
        have hy2 := only_below ho2 HS.out LB.out
        replace HS := Lib.hid (Nat.le_trans HS.out (hy2).size)
        go_wp2_with fail
        refine hK.out _ _ ?_ (fun hHeld2 => ?_)
        · exact ⟨bbelow hHeld.1 hy2 TW.out, hHeld.2.1.kept hy2 TL.out, hHeld.2.2.1.kept hy2 TR.out, hHeld.2.2.2.1.kept hy2 TH.out, hHeld.2.2.2.2.kept hy2 TA.out⟩
        clear hK K hHeld
        have hHeld := hHeld2
        clear hHeld2 hy2 ho2 BD
        try simp only [Act.put, List.setIfInBounds_toArray, List.set_cons_zero, List.set_cons_succ]
        refine wpAnyH_take (i := 5) (v := .tuple #[.agg (msA rm), .bool rb]) (at_list rfl) (by kernel_rfl) (by kernel_rfl) (by kernel_rfl) (fun _ _ _ h => h) (Or.inl ⟨by rfl, ?_⟩) hHeld ?_
        · intro v hSv
          clear hHeld
          go_simp
        try simp only [Act.put, List.setIfInBounds_toArray, List.set_cons_zero, List.set_cons_succ]
        refine wpAnyH_take (i := 6) (v := .agg (msA rm)) (at_list rfl) (by kernel_rfl) (by kernel_rfl) (by kernel_rfl) (fun _ _ _ h => h) (Or.inl ⟨by rfl, ?_⟩) hHeld ?_
        · intro v hSv
          clear hHeld
          go_simp
        try simp only [Act.put, List.setIfInBounds_toArray, List.set_cons_zero, List.set_cons_succ]
        refine wpAnyH_take (i := 7) (v := .bool rb) (at_list rfl) (by kernel_rfl) (by kernel_rfl) (by kernel_rfl) (fun _ _ _ h => h) (Or.inl ⟨by rfl, ?_⟩) hHeld ?_
        · intro v hSv
          clear hHeld
          go_simp
        try simp only [Act.put, List.setIfInBounds_toArray, List.set_cons_zero, List.set_cons_succ]
        refine wpAnyH_ready (rs := [8]) (by kernel_rfl) (by simp) ?_
        refine AllReadyH.cons (at_list rfl) (fun K hK => ?_) (AllReadyH.nil)
        refine step_alloc (by rfl) 49 rfl (msA zeroM) (by kernel_rfl) ?_
        intro g6 y3 hl6 n6 hy3
        have K6 := Lib.hid n6
        have L6 := Lib.hid (show w.heap.size ≤ g6 from Nat.le_trans hHeld.1.size hl6)
        have NL6 := Lib.hid (show 0 ≠ g6 by have := hHeld.2.1.inside; omega)
        have NR6 := Lib.hid (show gKR ≠ g6 by have := hHeld.2.2.1.inside; omega)
        have NH6 := Lib.hid (show gKH ≠ g6 by have := hHeld.2.2.2.1.inside; omega)
        have NA6 := Lib.hid (show a.block ≠ g6 by have := hHeld.2.2.2.2.inside (by omega); omega)
        replace HS := Lib.hid (Nat.le_trans HS.out (hy3).size)
        refine hK.out _ _ ?_ (fun hHeld2 => ?_)
        · exact ⟨bstep hHeld.1 hy3, hHeld.2.1.keptB hy3, hHeld.2.2.1.keptB hy3, hHeld.2.2.2.1.keptB hy3, hHeld.2.2.2.2.keptB hy3⟩
        clear hK K hHeld
        have hHeld := hHeld2
        clear hHeld2
        try simp only [Act.put]
        try simp only [List.setIfInBounds_toArray, List.set_cons_zero, List.set_cons_succ]
        clear hl6 n6 hy3
        refine wpAnyH_ready (rs := [9]) (by kernel_rfl) (by simp) ?_
        refine AllReadyH.cons (at_list rfl) (fun K hK => ?_) (AllReadyH.nil)
        refine step_store (by rfl) 49 _ _ rfl g6 0 (msA rm).toList rfl rfl K6.out (by kernel_rfl) (by kernel_rfl) (of_decide_eq_true (by kernel_rfl)) (msA rm) (by kernel_rfl) ?_
        intro y4 n6 hy4
        replace K6 := Lib.hid n6
        refine hK.out _ _ ?_ (fun hHeld2 => ?_)
        · exact ⟨btouch hHeld.1 hy4 L6.out, lens_touch hHeld.2.1 hy4 (by have := NL6.out; omega), hHeld.2.2.1.touch hy4 NR6.out, hHeld.2.2.2.1.touch hy4 NH6.out, hHeld.2.2.2.2.touch hy4 NA6.out⟩
        clear hK K hHeld
        have hHeld := hHeld2
        clear hHeld2
        try simp only [Act.put]
        clear n6 hy4
        refine wpAnyH_take (i := 10) (v := .bool rb) (at_list rfl) (by kernel_rfl) (by kernel_rfl) (by kernel_rfl) (fun _ _ _ h => h) (Or.inl ⟨by rfl, ?_⟩) hHeld ?_
        · intro v hSv
          clear hHeld
          go_simp
        try simp only [Act.put, List.setIfInBounds_toArray, List.set_cons_zero, List.set_cons_succ]
        refine wpAnyH_done (by kernel_rfl) ?_ _
        refine NoPanic.normal ?_
        go_wp2_with fail
        go_meet
        exact ⟨gB, g6, rfl, rfl, rfl, rfl, rfl, rfl, rfl, rfl, rfl, rfl, hHeld.1, hHeld.2.1, hHeld.2.2.1, K6.out, NR6.out, L6.out⟩
      · refine step_alloc (by rfl) 49 rfl (msA zeroM) (by kernel_rfl) ?_
        intro g6 y5 hl6 n6 hy5
        have K6 := Lib.hid n6
        have L6 := Lib.hid (show w.heap.size ≤ g6 from Nat.le_trans hHeld.1.size hl6)
        have NL6 := Lib.hid (show 0 ≠ g6 by have := hHeld.2.1.inside; omega)
        have NR6 := Lib.hid (show gKR ≠ g6 by have := hHeld.2.2.1.inside; omega)
        have NH6 := Lib.hid (show gKH ≠ g6 by have := hHeld.2.2.2.1.inside; omega)
        have NA6 := Lib.hid (show a.block ≠ g6 by have := hHeld.2.2.2.2.inside (by omega); omega)
        have N6B := Lib.hid (show g6 ≠ gB by have := (BD.out).inside; omega)
        replace BD := Lib.hid ((BD.out).keptB hy5)
        replace HS := Lib.hid (Nat.le_trans HS.out (hy5).size)
        refine hK.out _ _ ?_ (fun hHeld2 => ?_)
        · exact ⟨bstep hHeld.1 hy5, hHeld.2.1.keptB hy5, hHeld.2.2.1.keptB hy5, hHeld.2.2.2.1.keptB hy5, hHeld.2.2.2.2.keptB hy5⟩
        clear hK K hHeld
        have hHeld := hHeld2
        clear hHeld2
        try simp only [Act.put]
        try simp only [List.setIfInBounds_toArray, List.set_cons_zero, List.set_cons_succ]
        clear hl6 n6 hy5
        refine wpAnyH_ready (rs := [4]) (by kernel_rfl) (by simp) ?_
        refine AllReadyH.cons (at_list rfl) (fun K hK => ?_) (AllReadyH.nil)
        go_simp
        refine ((CR.out) gB _ BD.out hHeld.2.2.2.2 NAB.out).mono ?_
        rintro e y6 ⟨rfl, ho6⟩
        have hy6 := only_below ho6 HS.out LB.out
        replace K6 := Lib.hid ((K6.out).only ho6 (by have := N6B.out; simp; omega))
        replace HS := Lib.hid (Nat.le_trans HS.out (hy6).size)
        go_wp2_with fail
        refine hK.out _ _ ?_ (fun hHeld2 => ?_)
        · exact ⟨bbelow hHeld.1 hy6 TW.out, hHeld.2.1.kept hy6 TL.out, hHeld.2.2.1.kept hy6 TR.out, hHeld.2.2.2.1.kept hy6 TH.out, hHeld.2.2.2.2.kept hy6 TA.out⟩
        clear hK K hHeld
        have hHeld := hHeld2
        clear hHeld2 hy6 ho6 BD
        try simp only [Act.put, List.setIfInBounds_toArray, List.set_cons_zero, List.set_cons_succ]
        refine wpAnyH_take (i := 5) (v := .tuple #[.agg (msA rm), .bool rb]) (at_list rfl) (by kernel_rfl) (by kernel_rfl) (by kernel_rfl) (fun _ _ _ h => h) (Or.inl ⟨by rfl, ?_⟩) hHeld ?_
        · intro v hSv
          clear hHeld
          go_simp
        try simp only [Act.put, List.setIfInBounds_toArray, List.set_cons_zero, List.set_cons_succ]
        refine wpAnyH_take (i := 6) (v := .agg (msA rm)) (at_list rfl) (by kernel_rfl) (by kernel_rfl) (by kernel_rfl) (fun _ _ _ h => h) (Or.inl ⟨by rfl, ?_⟩) hHeld ?_
        · intro v hSv
          clear hHeld
          go_simp
        try simp only [Act.put, List.setIfInBounds_toArray, List.set_cons_zero, List.set_cons_succ]
        refine wpAnyH_take (i := 7) (v := .bool rb) (at_list rfl) (by kernel_rfl) (by kernel_rfl) (by kernel_rfl) (fun _ _ _ h => h) (Or.inl ⟨by rfl, ?_⟩) hHeld ?_
        · intro v hSv
          clear hHeld
          go_simp
        try simp only [Act.put, List.setIfInBounds_toArray, List.set_cons_zero, List.set_cons_succ]
        refine wpAnyH_ready (rs := [9]) (by kernel_rfl) (by simp) ?_
        refine AllReadyH.cons (at_list rfl) (fun K hK => ?_) (AllReadyH.nil)
        refine step_store (by rfl) 49 _ _ rfl g6 0 (msA rm).toList rfl rfl K6.out (by kernel_rfl) (by kernel_rfl) (of_decide_eq_true (by kernel_rfl)) (msA rm) (by kernel_rfl) ?_
        intro y7 n6 hy7
        replace K6 := Lib.hid n6
        refine hK.out _ _ ?_ (fun hHeld2 => ?_)
        · exact ⟨btouch hHeld.1 hy7 L6.out, lens_touch hHeld.2.1 hy7 (by have := NL6.out; omega), hHeld.2.2.1.touch hy7 NR6.out, hHeld.2.2.2.1.touch hy7 NH6.out, hHeld.2.2.2.2.touch hy7 NA6.out⟩
        clear hK K hHeld
        have hHeld := hHeld2
        clear hHeld2
        try simp only [Act.put]
        clear n6 hy7
        refine wpAnyH_take (i := 10) (v := .bool rb) (at_list rfl) (by kernel_rfl) (by kernel_rfl) (by kernel_rfl) (fun _ _ _ h => h) (Or.inl ⟨by rfl, ?_⟩) hHeld ?_
        · intro v hSv
          clear hHeld
          go_simp
        try simp only [Act.put, List.setIfInBounds_toArray, List.set_cons_zero, List.set_cons_succ]
        refine wpAnyH_done (by kernel_rfl) ?_ _
        refine NoPanic.normal ?_
        go_wp2_with fail
        go_meet
        exact ⟨gB, g6, rfl, rfl, rfl, rfl, rfl, rfl, rfl, rfl, rfl, rfl, hHeld.1, hHeld.2.1, hHeld.2.2.1, K6.out, NR6.out, L6.out⟩
    · refine step_alloc (by rfl) 49 rfl (msA zeroM) (by kernel_rfl) ?_
      intro g6 y8 hl6 n6 hy8
      have K6 := Lib.hid n6
      have L6 := Lib.hid (show w.heap.size ≤ g6 from Nat.le_trans hHeld.1.size hl6)
      have NL6 := Lib.hid (show 0 ≠ g6 by have := hHeld.2.1.inside; omega)
      have NR6 := Lib.hid (show gKR ≠ g6 by have := hHeld.2.2.1.inside; omega)
      have NH6 := Lib.hid (show gKH ≠ g6 by have := hHeld.2.2.2.1.inside; omega)
      have NA6 := Lib.hid (show a.block ≠ g6 by have := hHeld.2.2.2.2.inside (by omega); omega)
      replace HS := Lib.hid (Nat.le_trans HS.out (hy8).size)
      refine hK.out _ _ ?_ (fun hHeld2 => ?_)
      · exact ⟨bstep hHeld.1 hy8, hHeld.2.1.keptB hy8, hHeld.2.2.1.keptB hy8, hHeld.2.2.2.1.keptB hy8, hHeld.2.2.2.2.keptB hy8⟩
      clear hK K hHeld
      have hHeld := hHeld2
      clear hHeld2
      try simp only [Act.put]
      try simp only [List.setIfInBounds_toArray, List.set_cons_zero, List.set_cons_succ]
      clear hl6 n6 hy8
      refine wpAnyH_ready (rs := [3]) (by kernel_rfl) (by simp) ?_
      refine AllReadyH.cons (at_list rfl) (fun K hK => ?_) (AllReadyH.nil)
      go_simp
      refine (taker_any a L C _).mono ?_
      rintro e y9 ⟨gB, hgB, rfl, hbB, hy9⟩
      have BD := Lib.hid hbB
      have LB := Lib.hid (show B ≤ gB from Nat.le_trans HS.out hgB)
      have NAB := Lib.hid (show a.block ≠ gB by have := TA.out; have := LB.out; omega)
      have N6B := Lib.hid (show g6 ≠ gB by have := (K6.out).inside; omega)
      replace K6 := Lib.hid ((K6.out).keptB hy9)
      replace HS := Lib.hid (Nat.le_trans HS.out (hy9).size)
      go_wp2_with fail
      refine hK.out _ _ ?_ (fun hHeld2 => ?_)
      · exact ⟨bstep hHeld.1 hy9, hHeld.2.1.keptB hy9, hHeld.2.2.1.keptB hy9, hHeld.2.2.2.1.keptB hy9, hHeld.2.2.2.2.keptB hy9⟩
      clear hK K hHeld
      have hHeld := hHeld2
      clear hHeld2 hy9 hbB hgB
      try simp only [Act.put, List.setIfInBounds_toArray, List.set_cons_zero, List.set_cons_succ]
      refine wpAnyH_ready (rs := [4]) (by kernel_rfl) (by simp) ?_
      refine AllReadyH.cons (at_list rfl) (fun K hK => ?_) (AllReadyH.nil)
      go_simp
      refine ((CR.out) gB _ BD.out hHeld.2.2.2.2 NAB.out).mono ?_
      rintro e y10 ⟨rfl, ho10⟩
      have hy10 := only_below ho10 HS.out LB.out
      replace K6 := Lib.hid ((K6.out).only ho10 (by have := N6B.out; simp; omega))
      replace HS := Lib.hid (Nat.le_trans HS.out (hy10).size)
      go_wp2_with fail
      refine hK.out _ _ ?_ (fun hHeld2 => ?_)
      · exact ⟨bbelow hHeld.1 hy10 TW.out, hHeld.2.1.kept hy10 TL.out, hHeld.2.2.1.kept hy10 TR.out, hHeld.2.2.2.1.kept hy10 TH.out, hHeld.2.2.2.2.kept hy10 TA.out⟩
      clear hK K hHeld
      have hHeld := hHeld2
      clear hHeld2 hy10 ho10 BD
      try simp only [Act.put, List.setIfInBounds_toArray, List.set_cons_zero, List.set_cons_succ]
      refine wpAnyH_take (i := 5) (v := .tuple #[.agg (msA rm), .bool rb]) (at_list rfl) (by kernel_rfl) (by kernel_rfl) (by kernel_rfl) (fun _ _ _ h => h) (Or.inl ⟨by rfl, ?_⟩) hHeld ?_
      · intro v hSv
        clear hHeld
        go_simp
      try simp only [Act.put, List.setIfInBounds_toArray, List.set_cons_zero, List.set_cons_succ]
      refine wpAnyH_take (i := 6) (v := .agg (msA rm)) (at_list rfl) (by kernel_rfl) (by kernel_rfl) (by kernel_rfl) (fun _ _ _ h => h) (Or.inl ⟨by rfl, ?_⟩) hHeld ?_
      · intro v hSv
        clear hHeld
        go_simp
      try simp only [Act.put, List.setIfInBounds_toArray, List.set_cons_zero, List.set_cons_succ]
      refine wpAnyH_take (i := 7) (v := .bool rb) (at_list rfl) (by kernel_rfl) (by kernel_rfl) (by kernel_rfl) (fun _ _ _ h => h) (Or.inl ⟨by rfl, ?_⟩) hHeld ?_
      · intro v hSv
        clear hHeld
        go_simp
      try simp only [Act.put, List.setIfInBounds_toArray, List.set_cons_zero, List.set_cons_succ]
      refine wpAnyH_ready (rs := [9]) (by kernel_rfl) (by simp) ?_
      refine AllReadyH.cons (at_list rfl) (fun K hK => ?_) (AllReadyH.nil)
      refine step_store (by rfl) 49 _ _ rfl g6 0 (msA rm).toList rfl rfl K6.out (by kernel_rfl) (by kernel_rfl) (of_decide_eq_true (by kernel_rfl)) (msA rm) (by kernel_rfl) ?_
      intro y11 n6 hy11
      replace K6 := Lib.hid n6
      refine hK.out _ _ ?_ (fun hHeld2 => ?_)
      · exact ⟨btouch hHeld.1 hy11 L6.out, lens_touch hHeld.2.1 hy11 (by have := NL6.out; omega), hHeld.2.2.1.touch hy11 NR6.out, hHeld.2.2.2.1.touch hy11 NH6.out, hHeld.2.2.2.2.touch hy11 NA6.out⟩
      clear hK K hHeld
      have hHeld := hHeld2
      clear hHeld2
      try simp only [Act.put]
      clear n6 hy11
      refine wpAnyH_take (i := 10) (v := .bool rb) (at_list rfl) (by kernel_rfl) (by kernel_rfl) (by kernel_rfl) (fun _ _ _ h => h) (Or.inl ⟨by rfl, ?_⟩) hHeld ?_
      · intro v hSv
        clear hHeld
        go_simp
      try simp only [Act.put, List.setIfInBounds_toArray, List.set_cons_zero, List.set_cons_succ]
      refine wpAnyH_done (by kernel_rfl) ?_ _
      refine NoPanic.normal ?_
      go_wp2_with fail
      go_meet
      exact ⟨gB, g6, rfl, rfl, rfl, rfl, rfl, rfl, rfl, rfl, rfl, rfl, hHeld.1, hHeld.2.1, hHeld.2.2.1, K6.out, NR6.out, L6.out⟩
  case rest =>
    obtain ⟨gB, gK6, rfl, rfl, rfl, rfl, rfl, rfl, rfl, rfl, rfl, rfl, hb, hl, hr, h6, hne, hle⟩ := hcut
    have HB := Lib.hid hb
    have LN := Lib.hid hl
    have KR := Lib.hid hr
    have K6 := Lib.hid h6
    have NKRK6 := Lib.hid hne
    clear hb hl hr h6 hne hle
    have hrb := HRB.out
    subst hrb
    go_wp2_with ((refine big_whole rfl 49 _ rfl gK6 rfl K6.out Tryd.underlying49 rfl (by kernel_rfl) ?_))
    refine (fright_any rm _ LN.out f0 f1).mono ?_
    rintro e w9 ⟨rfl, hw9⟩
    rw [HR.out]
    replace KR := Lib.hid ((KR.out).keptB hw9)
    replace K6 := Lib.hid ((K6.out).keptB hw9)
    replace HB := Lib.hid (bstep HB.out hw9)
    clear hw9
    go_wp2_with (first | (refine big_fill rfl 49 _ _ rfl gKR (msA zeroM) rfl rfl KR.out (by kernel_rfl) (by kernel_rfl) (by kernel_rfl) ?_; intro vKR7 nKR htKR; replace KR := Lib.hid nKR; replace K6 := Lib.hid ((K6.out).touch htKR (by have := NKRK6.out; omega)); replace HB := Lib.hid (btouch HB.out htKR LKR.out); clear nKR htKR) | (refine big_build rfl 49 _ rfl (msA zeroM) (by kernel_rfl) ?_))
    refine bodyPost_ret (results_two rfl _ _ gKR _ (msA zeroM) (.int .i64 60) _ rfl rfl KR.out Tryd.underlying49 rfl (by kernel_rfl)) rfl ⟨?_, HB.out⟩
    exact HX.out.symm
set_option maxHeartbeats 4000000 in
theorem decM_wayC (a : Addr) (L C : Nat) (zs : List Int) (w : World) (hd : Hd) (rm : Ms) (rb : Bool) (E : Value) (hE : E = .tuple #[.agg (msA rm), .int .i64 0]) (hz : zs.length = L) (hL : 44 ≤ L) (hC : L ≤ C) (hM : C ≤ maxLen) (hc : BytesAt w a zs) (hl : Lens w) (f0 : -9223372036854775808 ≤ rm.h.f) (f1 : rm.h.f ≤ 9223372036854775807)
    (hC1 : ∀ v, BytesAt v a zs → Lens v → Calls Tryd.prog 6 #[.slice (some a) L C] v fun e w' => e = .returned (.tuple #[.agg #[.int .i64 hd.t, .int .i64 hd.d, .int .i64 hd.f, .int .i64 hd.c, .int .u8 hd.p.c.b0, .int .u8 hd.p.c.b1, .int .u8 hd.p.c.b2, .int .u8 hd.p.c.b3, .int .u8 hd.p.c.b4, .int .u8 hd.p.c.b5, .int .u8 hd.p.c.b6, .int .u8 hd.p.c.b7, .int .i64 hd.p.n, .int .i64 hd.s, .int .i64 hd.l], .int .i64 0]) ∧ Below v.heap.size v w')
    (hCR : ∀ gB v, Body v gB a 34 L C → BytesAt v a zs → a.block ≠ gB → Calls Tryd.prog 48 #[.agg #[.int .i64 hd.t, .int .i64 hd.d, .int .i64 hd.f, .int .i64 hd.c, .int .u8 hd.p.c.b0, .int .u8 hd.p.c.b1, .int .u8 hd.p.c.b2, .int .u8 hd.p.c.b3, .int .u8 hd.p.c.b4, .int .u8 hd.p.c.b5, .int .u8 hd.p.c.b6, .int .u8 hd.p.c.b7, .int .i64 hd.p.n, .int .i64 hd.s, .int .i64 hd.l], .func (.func 68) #[] #[.pointer (some ⟨gB, 0, none⟩)]] v fun e w' => e = .returned (.tuple #[.agg (msA rm), .bool rb]) ∧ Only [gB] v.heap.size v w') (hrb : rb = true) (hr : rm.right = true) :
    Calls Tryd.prog 15 #[.slice (some a) L C] w fun e w' => e = .returned E ∧ Below w.heap.size w w' := by
  have HB := Lib.hid (Below.refl w.heap.size w)
  have HX := Lib.hid (congrArg Ending.returned hE)
  have BA := Lib.hid hc
  have LN := Lib.hid hl
  have C1 := Lib.hid hC1
  have CR := Lib.hid hCR
  have HSL : Hid (∀ v, (Instr.sliceAt 22 (.slice (some a) L C) (some (.int .i64 34)) none none).run Tryd.prog v = .ok (.slice (some (a.add 34)) (L - 34) (C - 34)) v) := by
    intro v
    rw [run_sliceAt_slice _ _ _ _ _ _ (by kernel_rfl), run_slice_l v _ _ _ _ (by kernel_rfl) .i64 34 (by omega) (by omega)]
    show Result.ok (sliced _ _ _ _ _) v = _
    unfold sliced
    rw [if_neg (by omega)]
    rfl
  have HRB := Lib.hid hrb
  clear hc hl hC1 hCR hE hrb
  have HR := Lib.hid hr
  clear hr
  go_enter Tryd.func15, Tryd.ntmps15
  go_wp2_with ((refine big_alloc rfl 49 rfl (msA zeroM) (by kernel_rfl) ?_; intro gKR wKR hlKR nKR hbKR; have KR := Lib.hid nKR; have LKR := Lib.hid (Nat.le_trans (HB.out).size hlKR); replace BA := Lib.hid ((BA.out).keptB hbKR); replace LN := Lib.hid ((LN.out).keptB hbKR); replace HB := Lib.hid (bstep HB.out hbKR); clear hlKR nKR hbKR))
  refine ((C1.out) _ BA.out LN.out).mono ?_
  rintro e w1 ⟨rfl, hw1⟩
  replace KR := Lib.hid ((KR.out).keptB hw1)
  replace BA := Lib.hid ((BA.out).keptB hw1)
  replace LN := Lib.hid ((LN.out).keptB hw1)
  replace HB := Lib.hid (bstep HB.out hw1)
  clear hw1 C1
  go_upto_region 4 with (first | (refine big_fill rfl 28 _ _ rfl gKH (#[.int .i64 hd.t, .int .i64 hd.d, .int .i64 hd.f, .int .i64 hd.c, .int .u8 hd.p.c.b0, .int .u8 hd.p.c.b1, .int .u8 hd.p.c.b2, .int .u8 hd.p.c.b3, .int .u8 hd.p.c.b4, .int .u8 hd.p.c.b5, .int .u8 hd.p.c.b6, .int .u8 hd.p.c.b7, .int .i64 hd.p.n, .int .i64 hd.s, .int .i64 hd.l]) rfl rfl KH.out (by kernel_rfl) (by kernel_rfl) (by kernel_rfl) ?_; intro vKH0 nKH htKH; replace KH := Lib.hid nKH; replace KR := Lib.hid ((KR.out).touch htKH (by have := NKRKH.out; omega)); replace BA := Lib.hid ((BA.out).touch htKH NAH.out); replace LN := Lib.hid (lens_touch LN.out htKH NLH.out); replace HB := Lib.hid (btouch HB.out htKH LKH.out); clear nKH htKH) | (refine big_alloc rfl 28 rfl (#[.int .i64 0, .int .i64 0, .int .i64 0, .int .i64 0, .int .u8 0, .int .u8 0, .int .u8 0, .int .u8 0, .int .u8 0, .int .u8 0, .int .u8 0, .int .u8 0, .int .i64 0, .int .i64 0, .int .i64 0]) (by kernel_rfl) ?_; intro gKH wKH hlKH nKH hbKH; have KH := Lib.hid nKH; have LKH := Lib.hid (Nat.le_trans (HB.out).size hlKH); have NKRKH := Lib.hid (show gKR ≠ gKH by have := (KR.out).inside; omega); replace KR := Lib.hid ((KR.out).keptB hbKH); have NAH := Lib.hid (show a.block ≠ gKH by have := (BA.out).inside (by omega); omega); have NLH := Lib.hid (show 0 ≠ gKH by have := (LN.out).inside; omega); replace BA := Lib.hid ((BA.out).keptB hbKH); replace LN := Lib.hid ((LN.out).keptB hbKH); replace HB := Lib.hid (bstep HB.out hbKH); clear hlKH nKH hbKH))
  go_cut [6, 7, 17, 18, 19, 20, 21, 22, 23, 24] (fun s6 s7 s17 s18 s19 s20 s21 s22 s23 s24 wx => DecCut a L C hd rm rb w gKR s6 s7 s17 s18 s19 s20 s21 s22 s23 s24 wx)
  case first =>
    refine wp_region_noPanic ?_
    obtain ⟨B, hB⟩ := size_is KH.out
    have TL := Lib.hid (show 0 < B from by rw [← hB]; exact (LN.out).inside)
    have TR := Lib.hid (show gKR < B from by rw [← hB]; exact (KR.out).inside)
    have TH := Lib.hid (show gKH < B from by rw [← hB]; exact (KH.out).inside)
    have TA := Lib.hid (show a.block < B from by rw [← hB]; exact (BA.out).inside (by omega))
    have TW := Lib.hid (show w.heap.size ≤ B by rw [← hB]; exact (HB.out).size)
    refine wp_region_held_drew (S := fun v => Below w.heap.size w v ∧ Lens v ∧ Holds v gKR 49 (msA zeroM) ∧ Holds v gKH 28 #[.int .i64 hd.t, .int .i64 hd.d, .int .i64 hd.f, .int .i64 hd.c, .int .u8 hd.p.c.b0, .int .u8 hd.p.c.b1, .int .u8 hd.p.c.b2, .int .u8 hd.p.c.b3, .int .u8 hd.p.c.b4, .int .u8 hd.p.c.b5, .int .u8 hd.p.c.b6, .int .u8 hd.p.c.b7, .int .i64 hd.p.n, .int .i64 hd.s, .int .i64 hd.l] ∧ BytesAt v a zs) (by kernel_rfl) ?_ (fun hHeld => ?_)
    · exact ⟨bdrew HB.out, (LN.out).drew, (KR.out).drew, (KH.out).drew, (BA.out).drew⟩
    have HS : Hid (B ≤ _) := Lib.hid (Nat.le_of_eq (hB.symm.trans (size_drew _)))
    clear HB LN KR KH BA hB
    refine wpAnyH_take (i := 0) (v := .agg #[.int .i64 hd.t, .int .i64 hd.d, .int .i64 hd.f, .int .i64 hd.c, .int .u8 hd.p.c.b0, .int .u8 hd.p.c.b1, .int .u8 hd.p.c.b2, .int .u8 hd.p.c.b3, .int .u8 hd.p.c.b4, .int .u8 hd.p.c.b5, .int .u8 hd.p.c.b6, .int .u8 hd.p.c.b7, .int .i64 hd.p.n, .int .i64 hd.s, .int .i64 hd.l]) (at_list rfl) (by kernel_rfl) (by kernel_rfl) (by kernel_rfl) (fun _ _ _ h => h) (yieldsIf_load_mid (by rfl) 28 _ rfl gKH 0 rfl [.int .i64 hd.t, .int .i64 hd.d, .int .i64 hd.f, .int .i64 hd.c, .int .u8 hd.p.c.b0, .int .u8 hd.p.c.b1, .int .u8 hd.p.c.b2, .int .u8 hd.p.c.b3, .int .u8 hd.p.c.b4, .int .u8 hd.p.c.b5, .int .u8 hd.p.c.b6, .int .u8 hd.p.c.b7, .int .i64 hd.p.n, .int .i64 hd.s, .int .i64 hd.l] _ (fun v hv => Holds.range hv.2.2.2.1 rfl) Tryd.underlying28 rfl (by kernel_rfl)) hHeld ?_
    try simp only [Act.put, List.setIfInBounds_toArray, List.set_cons_zero, List.set_cons_succ]
    refine wpAnyH_take (i := 1) (v := .slice (some a) L C) (at_list rfl) (by kernel_rfl) (by kernel_rfl) (by kernel_rfl) (fun _ _ _ h => h) (Or.inl ⟨by rfl, ?_⟩) hHeld ?_
    · intro v hSv
      clear hHeld
      go_simp
    try simp only [Act.put, List.setIfInBounds_toArray, List.set_cons_zero, List.set_cons_succ]
    refine wpAnyH_take (i := 2) (v := .slice (some (a.add 34)) (L - 34) (C - 34)) (at_list rfl) (by kernel_rfl) (by kernel_rfl) (by kernel_rfl) (fun _ _ _ h => h) (Or.inl ⟨by rfl, ?_⟩) hHeld ?_
    · intro v hSv
      clear hHeld
      clear hSv
      have hsl := HSL.out v
      go_simp
    try simp only [Act.put, List.setIfInBounds_toArray, List.set_cons_zero, List.set_cons_succ]
    refine wpAnyH_ready (rs := [3, 8]) (by kernel_rfl) (by simp) ?_
    refine AllReadyH.cons (at_list rfl) (fun K hK => ?_) (AllReadyH.cons (at_list rfl) (fun K hK => ?_) (AllReadyH.nil))
    · go_simp
      refine (taker_any a L C _).mono ?_
      rintro e y1 ⟨gB, hgB, rfl, hbB, hy1⟩
      have BD := Lib.hid hbB
      have LB := Lib.hid (show B ≤ gB from Nat.le_trans HS.out hgB)
      have NAB := Lib.hid (show a.block ≠ gB by have := TA.out; have := LB.out; omega)
      replace HS := Lib.hid (Nat.le_trans HS.out (hy1).size)
      go_wp2_with fail
      refine hK.out _ _ ?_ (fun hHeld2 => ?_)
      · exact ⟨bstep hHeld.1 hy1, hHeld.2.1.keptB hy1, hHeld.2.2.1.keptB hy1, hHeld.2.2.2.1.keptB hy1, hHeld.2.2.2.2.keptB hy1⟩
      clear hK K hHeld
      have hHeld := hHeld2
      clear hHeld2 hy1 hbB hgB
      try simp only [Act.put, List.setIfInBounds_toArray, List.set_cons_zero, List.set_cons_succ]
      refine wpAnyH_ready (rs := [4, 8]) (by kernel_rfl) (by simp) ?_
      refine AllReadyH.cons (at_list rfl) (fun K hK => ?_) (AllReadyH.cons (at_list rfl) (fun K hK => ?_) (AllReadyH.nil))
      · go_simp
        refine ((CR.out) gB _ BD.out hHeld.2.2.2.2 NAB.out).mono ?_
        rintro e y2 ⟨rfl, ho2⟩
        have hy2 := only_below ho2 HS.out LB.out
        replace HS := Lib.hid (Nat.le_trans HS.out (hy2).size)
        go_wp2_with fail
        refine hK.out _ _ ?_ (fun hHeld2 => ?_)
        · exact ⟨bbelow hHeld.1 hy2 TW.out, hHeld.2.1.kept hy2 TL.out, hHeld.2.2.1.kept hy2 TR.out, hHeld.2.2.2.1.kept hy2 TH.out, hHeld.2.2.2.2.kept hy2 TA.out⟩
        clear hK K hHeld
        have hHeld := hHeld2
        clear hHeld2 hy2 ho2 BD
        try simp only [Act.put, List.setIfInBounds_toArray, List.set_cons_zero, List.set_cons_succ]
        refine wpAnyH_take (i := 5) (v := .tuple #[.agg (msA rm), .bool rb]) (at_list rfl) (by kernel_rfl) (by kernel_rfl) (by kernel_rfl) (fun _ _ _ h => h) (Or.inl ⟨by rfl, ?_⟩) hHeld ?_
        · intro v hSv
          clear hHeld
          go_simp
        try simp only [Act.put, List.setIfInBounds_toArray, List.set_cons_zero, List.set_cons_succ]
        refine wpAnyH_take (i := 6) (v := .agg (msA rm)) (at_list rfl) (by kernel_rfl) (by kernel_rfl) (by kernel_rfl) (fun _ _ _ h => h) (Or.inl ⟨by rfl, ?_⟩) hHeld ?_
        · intro v hSv
          clear hHeld
          go_simp
        try simp only [Act.put, List.setIfInBounds_toArray, List.set_cons_zero, List.set_cons_succ]
        refine wpAnyH_take (i := 7) (v := .bool rb) (at_list rfl) (by kernel_rfl) (by kernel_rfl) (by kernel_rfl) (fun _ _ _ h => h) (Or.inl ⟨by rfl, ?_⟩) hHeld ?_
        · intro v hSv
          clear hHeld
          go_simp
        try simp only [Act.put, List.setIfInBounds_toArray, List.set_cons_zero, List.set_cons_succ]
        refine wpAnyH_ready (rs := [8]) (by kernel_rfl) (by simp) ?_
        refine AllReadyH.cons (at_list rfl) (fun K hK => ?_) (AllReadyH.nil)
        refine step_alloc (by rfl) 49 rfl (msA zeroM) (by kernel_rfl) ?_
        intro g6 y3 hl6 n6 hy3
        have K6 := Lib.hid n6
        have L6 := Lib.hid (show w.heap.size ≤ g6 from Nat.le_trans hHeld.1.size hl6)
        have NL6 := Lib.hid (show 0 ≠ g6 by have := hHeld.2.1.inside; omega)
        have NR6 := Lib.hid (show gKR ≠ g6 by have := hHeld.2.2.1.inside; omega)
        have NH6 := Lib.hid (show gKH ≠ g6 by have := hHeld.2.2.2.1.inside; omega)
        have NA6 := Lib.hid (show a.block ≠ g6 by have := hHeld.2.2.2.2.inside (by omega); omega)
        replace HS := Lib.hid (Nat.le_trans HS.out (hy3).size)
        refine hK.out _ _ ?_ (fun hHeld2 => ?_)
        · exact ⟨bstep hHeld.1 hy3, hHeld.2.1.keptB hy3, hHeld.2.2.1.keptB hy3, hHeld.2.2.2.1.keptB hy3, hHeld.2.2.2.2.keptB hy3⟩
        clear hK K hHeld
        have hHeld := hHeld2
        clear hHeld2
        try simp only [Act.put]
        try simp only [List.setIfInBounds_toArray, List.set_cons_zero, List.set_cons_succ]
        clear hl6 n6 hy3
        refine wpAnyH_ready (rs := [9]) (by kernel_rfl) (by simp) ?_
        refine AllReadyH.cons (at_list rfl) (fun K hK => ?_) (AllReadyH.nil)
        refine step_store (by rfl) 49 _ _ rfl g6 0 (msA rm).toList rfl rfl K6.out (by kernel_rfl) (by kernel_rfl) (of_decide_eq_true (by kernel_rfl)) (msA rm) (by kernel_rfl) ?_
        intro y4 n6 hy4
        replace K6 := Lib.hid n6
        refine hK.out _ _ ?_ (fun hHeld2 => ?_)
        · exact ⟨btouch hHeld.1 hy4 L6.out, lens_touch hHeld.2.1 hy4 (by have := NL6.out; omega), hHeld.2.2.1.touch hy4 NR6.out, hHeld.2.2.2.1.touch hy4 NH6.out, hHeld.2.2.2.2.touch hy4 NA6.out⟩
        clear hK K hHeld
        have hHeld := hHeld2
        clear hHeld2
        try simp only [Act.put]
        clear n6 hy4
        refine wpAnyH_take (i := 10) (v := .bool rb) (at_list rfl) (by kernel_rfl) (by kernel_rfl) (by kernel_rfl) (fun _ _ _ h => h) (Or.inl ⟨by rfl, ?_⟩) hHeld ?_
        · intro v hSv
          clear hHeld
          go_simp
        try simp only [Act.put, List.setIfInBounds_toArray, List.set_cons_zero, List.set_cons_succ]
        refine wpAnyH_done (by kernel_rfl) ?_ _
        refine NoPanic.normal ?_
        go_wp2_with fail
        go_meet
        exact ⟨gB, g6, rfl, rfl, rfl, rfl, rfl, rfl, rfl, rfl, rfl, rfl, hHeld.1, hHeld.2.1, hHeld.2.2.1, K6.out, NR6.out, L6.out⟩
      · refine step_alloc (by rfl) 49 rfl (msA zeroM) (by kernel_rfl) ?_
        intro g6 y5 hl6 n6 hy5
        have K6 := Lib.hid n6
        have L6 := Lib.hid (show w.heap.size ≤ g6 from Nat.le_trans hHeld.1.size hl6)
        have NL6 := Lib.hid (show 0 ≠ g6 by have := hHeld.2.1.inside; omega)
        have NR6 := Lib.hid (show gKR ≠ g6 by have := hHeld.2.2.1.inside; omega)
        have NH6 := Lib.hid (show gKH ≠ g6 by have := hHeld.2.2.2.1.inside; omega)
        have NA6 := Lib.hid (show a.block ≠ g6 by have := hHeld.2.2.2.2.inside (by omega); omega)
        have N6B := Lib.hid (show g6 ≠ gB by have := (BD.out).inside; omega)
        replace BD := Lib.hid ((BD.out).keptB hy5)
        replace HS := Lib.hid (Nat.le_trans HS.out (hy5).size)
        refine hK.out _ _ ?_ (fun hHeld2 => ?_)
        · exact ⟨bstep hHeld.1 hy5, hHeld.2.1.keptB hy5, hHeld.2.2.1.keptB hy5, hHeld.2.2.2.1.keptB hy5, hHeld.2.2.2.2.keptB hy5⟩
        clear hK K hHeld
        have hHeld := hHeld2
        clear hHeld2
        try simp only [Act.put]
        try simp only [List.setIfInBounds_toArray, List.set_cons_zero, List.set_cons_succ]
        clear hl6 n6 hy5
        refine wpAnyH_ready (rs := [4]) (by kernel_rfl) (by simp) ?_
        refine AllReadyH.cons (at_list rfl) (fun K hK => ?_) (AllReadyH.nil)
        go_simp
        refine ((CR.out) gB _ BD.out hHeld.2.2.2.2 NAB.out).mono ?_
        rintro e y6 ⟨rfl, ho6⟩
        have hy6 := only_below ho6 HS.out LB.out
        replace K6 := Lib.hid ((K6.out).only ho6 (by have := N6B.out; simp; omega))
        replace HS := Lib.hid (Nat.le_trans HS.out (hy6).size)
        go_wp2_with fail
        refine hK.out _ _ ?_ (fun hHeld2 => ?_)
        · exact ⟨bbelow hHeld.1 hy6 TW.out, hHeld.2.1.kept hy6 TL.out, hHeld.2.2.1.kept hy6 TR.out, hHeld.2.2.2.1.kept hy6 TH.out, hHeld.2.2.2.2.kept hy6 TA.out⟩
        clear hK K hHeld
        have hHeld := hHeld2
        clear hHeld2 hy6 ho6 BD
        try simp only [Act.put, List.setIfInBounds_toArray, List.set_cons_zero, List.set_cons_succ]
        refine wpAnyH_take (i := 5) (v := .tuple #[.agg (msA rm), .bool rb]) (at_list rfl) (by kernel_rfl) (by kernel_rfl) (by kernel_rfl) (fun _ _ _ h => h) (Or.inl ⟨by rfl, ?_⟩) hHeld ?_
        · intro v hSv
          clear hHeld
          go_simp
        try simp only [Act.put, List.setIfInBounds_toArray, List.set_cons_zero, List.set_cons_succ]
        refine wpAnyH_take (i := 6) (v := .agg (msA rm)) (at_list rfl) (by kernel_rfl) (by kernel_rfl) (by kernel_rfl) (fun _ _ _ h => h) (Or.inl ⟨by rfl, ?_⟩) hHeld ?_
        · intro v hSv
          clear hHeld
          go_simp
        try simp only [Act.put, List.setIfInBounds_toArray, List.set_cons_zero, List.set_cons_succ]
        refine wpAnyH_take (i := 7) (v := .bool rb) (at_list rfl) (by kernel_rfl) (by kernel_rfl) (by kernel_rfl) (fun _ _ _ h => h) (Or.inl ⟨by rfl, ?_⟩) hHeld ?_
        · intro v hSv
          clear hHeld
          go_simp
        try simp only [Act.put, List.setIfInBounds_toArray, List.set_cons_zero, List.set_cons_succ]
        refine wpAnyH_ready (rs := [9]) (by kernel_rfl) (by simp) ?_
        refine AllReadyH.cons (at_list rfl) (fun K hK => ?_) (AllReadyH.nil)
        refine step_store (by rfl) 49 _ _ rfl g6 0 (msA rm).toList rfl rfl K6.out (by kernel_rfl) (by kernel_rfl) (of_decide_eq_true (by kernel_rfl)) (msA rm) (by kernel_rfl) ?_
        intro y7 n6 hy7
        replace K6 := Lib.hid n6
        refine hK.out _ _ ?_ (fun hHeld2 => ?_)
        · exact ⟨btouch hHeld.1 hy7 L6.out, lens_touch hHeld.2.1 hy7 (by have := NL6.out; omega), hHeld.2.2.1.touch hy7 NR6.out, hHeld.2.2.2.1.touch hy7 NH6.out, hHeld.2.2.2.2.touch hy7 NA6.out⟩
        clear hK K hHeld
        have hHeld := hHeld2
        clear hHeld2
        try simp only [Act.put]
        clear n6 hy7
        refine wpAnyH_take (i := 10) (v := .bool rb) (at_list rfl) (by kernel_rfl) (by kernel_rfl) (by kernel_rfl) (fun _ _ _ h => h) (Or.inl ⟨by rfl, ?_⟩) hHeld ?_
        · intro v hSv
          clear hHeld
          go_simp
        try simp only [Act.put, List.setIfInBounds_toArray, List.set_cons_zero, List.set_cons_succ]
        refine wpAnyH_done (by kernel_rfl) ?_ _
        refine NoPanic.normal ?_
        go_wp2_with fail
        go_meet
        exact ⟨gB, g6, rfl, rfl, rfl, rfl, rfl, rfl, rfl, rfl, rfl, rfl, hHeld.1, hHeld.2.1, hHeld.2.2.1, K6.out, NR6.out, L6.out⟩
    · refine step_alloc (by rfl) 49 rfl (msA zeroM) (by kernel_rfl) ?_
      intro g6 y8 hl6 n6 hy8
      have K6 := Lib.hid n6
      have L6 := Lib.hid (show w.heap.size ≤ g6 from Nat.le_trans hHeld.1.size hl6)
      have NL6 := Lib.hid (show 0 ≠ g6 by have := hHeld.2.1.inside; omega)
      have NR6 := Lib.hid (show gKR ≠ g6 by have := hHeld.2.2.1.inside; omega)
      have NH6 := Lib.hid (show gKH ≠ g6 by have := hHeld.2.2.2.1.inside; omega)
      have NA6 := Lib.hid (show a.block ≠ g6 by have := hHeld.2.2.2.2.inside (by omega); omega)
      replace HS := Lib.hid (Nat.le_trans HS.out (hy8).size)
      refine hK.out _ _ ?_ (fun hHeld2 => ?_)
      · exact ⟨bstep hHeld.1 hy8, hHeld.2.1.keptB hy8, hHeld.2.2.1.keptB hy8, hHeld.2.2.2.1.keptB hy8, hHeld.2.2.2.2.keptB hy8⟩
      clear hK K hHeld
      have hHeld := hHeld2
      clear hHeld2
      try simp only [Act.put]
      try simp only [List.setIfInBounds_toArray, List.set_cons_zero, List.set_cons_succ]
      clear hl6 n6 hy8
      refine wpAnyH_ready (rs := [3]) (by kernel_rfl) (by simp) ?_
      refine AllReadyH.cons (at_list rfl) (fun K hK => ?_) (AllReadyH.nil)
      go_simp
      refine (taker_any a L C _).mono ?_
      rintro e y9 ⟨gB, hgB, rfl, hbB, hy9⟩
      have BD := Lib.hid hbB
      have LB := Lib.hid (show B ≤ gB from Nat.le_trans HS.out hgB)
      have NAB := Lib.hid (show a.block ≠ gB by have := TA.out; have := LB.out; omega)
      have N6B := Lib.hid (show g6 ≠ gB by have := (K6.out).inside; omega)
      replace K6 := Lib.hid ((K6.out).keptB hy9)
      replace HS := Lib.hid (Nat.le_trans HS.out (hy9).size)
      go_wp2_with fail
      refine hK.out _ _ ?_ (fun hHeld2 => ?_)
      · exact ⟨bstep hHeld.1 hy9, hHeld.2.1.keptB hy9, hHeld.2.2.1.keptB hy9, hHeld.2.2.2.1.keptB hy9, hHeld.2.2.2.2.keptB hy9⟩
      clear hK K hHeld
      have hHeld := hHeld2
      clear hHeld2 hy9 hbB hgB
      try simp only [Act.put, List.setIfInBounds_toArray, List.set_cons_zero, List.set_cons_succ]
      refine wpAnyH_ready (rs := [4]) (by kernel_rfl) (by simp) ?_
      refine AllReadyH.cons (at_list rfl) (fun K hK => ?_) (AllReadyH.nil)
      go_simp
      refine ((CR.out) gB _ BD.out hHeld.2.2.2.2 NAB.out).mono ?_
      rintro e y10 ⟨rfl, ho10⟩
      have hy10 := only_below ho10 HS.out LB.out
      replace K6 := Lib.hid ((K6.out).only ho10 (by have := N6B.out; simp; omega))
      replace HS := Lib.hid (Nat.le_trans HS.out (hy10).size)
      go_wp2_with fail
      refine hK.out _ _ ?_ (fun hHeld2 => ?_)
      · exact ⟨bbelow hHeld.1 hy10 TW.out, hHeld.2.1.kept hy10 TL.out, hHeld.2.2.1.kept hy10 TR.out, hHeld.2.2.2.1.kept hy10 TH.out, hHeld.2.2.2.2.kept hy10 TA.out⟩
      clear hK K hHeld
      have hHeld := hHeld2
      clear hHeld2 hy10 ho10 BD
      try simp only [Act.put, List.setIfInBounds_toArray, List.set_cons_zero, List.set_cons_succ]
      refine wpAnyH_take (i := 5) (v := .tuple #[.agg (msA rm), .bool rb]) (at_list rfl) (by kernel_rfl) (by kernel_rfl) (by kernel_rfl) (fun _ _ _ h => h) (Or.inl ⟨by rfl, ?_⟩) hHeld ?_
      · intro v hSv
        clear hHeld
        go_simp
      try simp only [Act.put, List.setIfInBounds_toArray, List.set_cons_zero, List.set_cons_succ]
      refine wpAnyH_take (i := 6) (v := .agg (msA rm)) (at_list rfl) (by kernel_rfl) (by kernel_rfl) (by kernel_rfl) (fun _ _ _ h => h) (Or.inl ⟨by rfl, ?_⟩) hHeld ?_
      · intro v hSv
        clear hHeld
        go_simp
      try simp only [Act.put, List.setIfInBounds_toArray, List.set_cons_zero, List.set_cons_succ]
      refine wpAnyH_take (i := 7) (v := .bool rb) (at_list rfl) (by kernel_rfl) (by kernel_rfl) (by kernel_rfl) (fun _ _ _ h => h) (Or.inl ⟨by rfl, ?_⟩) hHeld ?_
      · intro v hSv
        clear hHeld
        go_simp
      try simp only [Act.put, List.setIfInBounds_toArray, List.set_cons_zero, List.set_cons_succ]
      refine wpAnyH_ready (rs := [9]) (by kernel_rfl) (by simp) ?_
      refine AllReadyH.cons (at_list rfl) (fun K hK => ?_) (AllReadyH.nil)
      refine step_store (by rfl) 49 _ _ rfl g6 0 (msA rm).toList rfl rfl K6.out (by kernel_rfl) (by kernel_rfl) (of_decide_eq_true (by kernel_rfl)) (msA rm) (by kernel_rfl) ?_
      intro y11 n6 hy11
      replace K6 := Lib.hid n6
      refine hK.out _ _ ?_ (fun hHeld2 => ?_)
      · exact ⟨btouch hHeld.1 hy11 L6.out, lens_touch hHeld.2.1 hy11 (by have := NL6.out; omega), hHeld.2.2.1.touch hy11 NR6.out, hHeld.2.2.2.1.touch hy11 NH6.out, hHeld.2.2.2.2.touch hy11 NA6.out⟩
      clear hK K hHeld
      have hHeld := hHeld2
      clear hHeld2
      try simp only [Act.put]
      clear n6 hy11
      refine wpAnyH_take (i := 10) (v := .bool rb) (at_list rfl) (by kernel_rfl) (by kernel_rfl) (by kernel_rfl) (fun _ _ _ h => h) (Or.inl ⟨by rfl, ?_⟩) hHeld ?_
      · intro v hSv
        clear hHeld
        go_simp
      try simp only [Act.put, List.setIfInBounds_toArray, List.set_cons_zero, List.set_cons_succ]
      refine wpAnyH_done (by kernel_rfl) ?_ _
      refine NoPanic.normal ?_
      go_wp2_with fail
      go_meet
      exact ⟨gB, g6, rfl, rfl, rfl, rfl, rfl, rfl, rfl, rfl, rfl, rfl, hHeld.1, hHeld.2.1, hHeld.2.2.1, K6.out, NR6.out, L6.out⟩
  case rest =>
    obtain ⟨gB, gK6, rfl, rfl, rfl, rfl, rfl, rfl, rfl, rfl, rfl, rfl, hb, hl, hr, h6, hne, hle⟩ := hcut
    have HB := Lib.hid hb
    have LN := Lib.hid hl
    have KR := Lib.hid hr
    have K6 := Lib.hid h6
    have NKRK6 := Lib.hid hne
    clear hb hl hr h6 hne hle
    have hrb := HRB.out
    subst hrb
    go_wp2_with ((refine big_whole rfl 49 _ rfl gK6 rfl K6.out Tryd.underlying49 rfl (by kernel_rfl) ?_))
    refine (fright_any rm _ LN.out f0 f1).mono ?_
    rintro e w9 ⟨rfl, hw9⟩
    rw [HR.out]
    replace KR := Lib.hid ((KR.out).keptB hw9)
    replace K6 := Lib.hid ((K6.out).keptB hw9)
    replace HB := Lib.hid (bstep HB.out hw9)
    clear hw9
    go_wp2_with (first | (refine big_fill rfl 49 _ _ rfl gKR (msA rm) rfl rfl KR.out (by kernel_rfl) (by kernel_rfl) (by kernel_rfl) ?_; intro vKR8 nKR htKR; replace KR := Lib.hid nKR; replace K6 := Lib.hid ((K6.out).touch htKR (by have := NKRK6.out; omega)); replace HB := Lib.hid (btouch HB.out htKR LKR.out); clear nKR htKR) | (refine big_whole rfl 49 _ rfl gK6 rfl K6.out Tryd.underlying49 rfl (by kernel_rfl) ?_))
    refine bodyPost_ret (results_two rfl _ _ gKR _ (msA rm) (.int .i64 0) _ rfl rfl KR.out Tryd.underlying49 rfl (by kernel_rfl)) rfl ⟨?_, HB.out⟩
    exact HX.out.symm
theorem decM_any (a : Addr) (L C : Nat) (zs : List Int) (w : World) (hz : zs.length = L) (hL : 34 ≤ L) (hC : L ≤ C) (hM : C ≤ maxLen) (hb : ∀ z ∈ zs, isByte z) (hc : BytesAt w a zs) (hl : Lens w) :
    Calls Tryd.prog 15 #[.slice (some a) L C] w fun e w' => e = .returned (.tuple #[.agg (msA (decM L zs)), .int .i64 (faultM L zs)]) ∧ Below w.heap.size w w' := by
  by_cases hf : faultN L zs = 0
  · have hf' : faultN zs.length zs = 0 := by rw [hz]; exact hf
    have h44 := (fault_long hf').2.2
    have hC1 := fun v h1 h2 => fdec_ok a L C zs v hz hL hC hM hb h1 h2 hf _ rfl
    have hCR := fun gB v h1 h2 h3 => read_any6 gB a L C zs _ v h1 hC hM hz h2 hb h3 hf' rfl
    have hff := readM_f zs hb
    cases hrb : readB zs
    · rw [hrb] at hCR
      refine decM_wayA a L C zs w (hdOf zs) (readM zs) false _ ?_ hz (by omega) hC hM hc hl hff.1 hff.2 hC1 hCR rfl
      have hno : bodyOk zs = false := by unfold bodyOk; unfold readB at hrb; rw [← Bool.and_assoc, hrb, Bool.false_and]
      have e : faultM L zs = 60 := by unfold faultM; rw [if_neg (by simpa using hf), hno]; rfl
      have e2 : decM L zs = zeroM := by unfold decM; rw [e]; rfl
      rw [e, e2]
    · have hrt : rightB (tsOf zs) (tnOf zs) = true ∧ spareB zs = true := by unfold readB at hrb; simpa using hrb
      have em : readM zs = mOf zs := by unfold readM; rw [if_pos hrt.1]
      rw [hrb] at hCR
      cases hr : (mOf zs).right
      · refine decM_wayB a L C zs w (hdOf zs) (readM zs) true _ ?_ hz (by omega) hC hM hc hl hff.1 hff.2 hC1 hCR rfl (by rw [em]; exact hr)
        have hno : bodyOk zs = false := by unfold bodyOk; rw [hr]; simp
        have e : faultM L zs = 60 := by unfold faultM; rw [if_neg (by simpa using hf), hno]; rfl
        have e2 : decM L zs = zeroM := by unfold decM; rw [e]; rfl
        rw [e, e2]
      · refine decM_wayC a L C zs w (hdOf zs) (readM zs) true _ ?_ hz (by omega) hC hM hc hl hff.1 hff.2 hC1 hCR rfl (by rw [em]; exact hr)
        have hno : bodyOk zs = true := bodyOk_iff.2 ⟨hrt.1, hrt.2, hr⟩
        have e : faultM L zs = 0 := faultM_zero.2 ⟨hf, hno⟩
        have e2 : decM L zs = readM zs := by unfold decM; rw [if_pos e, em]
        rw [e, e2]
  · have e : faultM L zs = faultN L zs := by unfold faultM; rw [if_pos hf]
    have e2 : decM L zs = zeroM := by unfold decM; rw [if_neg (by rw [e]; exact hf)]
    rw [e, e2]
    exact decM_bad a L C zs w hz hL hC hM hb hc hl hf

end Go.Proofs.YtifhjmhekapaoaaDoor
