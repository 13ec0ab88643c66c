/- The walks over the laws' own words of layer 6: own, plain, alive. -/
import Derived.Test.YtifhjmhekapaoaaDoorFrameDecode
import Derived.Test.YtifhjmhekapaoaaDoorFrameC
import Derived.Test.YtifhjmhekapaoaaDoorFrameB
namespace Go.Proofs.YtifhjmhekapaoaaDoor
set_option maxRecDepth 100000
open Go.RowKit
set_option linter.unusedVariables false

set_option maxHeartbeats 4000000 in
theorem own6_any (m : Ms) (w : World) :
    Calls Tryd.prog 10 #[.agg (msA m)] w fun e w' => e = .returned (.agg (msA m)) ∧ Below w.heap.size w w' := by
  have HB := Lib.hid (Below.refl w.heap.size w)
  go_enter Tryd.func10, Tryd.ntmps10
  go_wp2_with (first | (refine big_fill rfl 49 _ _ rfl gK2 (msA m) rfl rfl K2.out (by kernel_rfl) (by kernel_rfl) (by kernel_rfl) ?_; intro vK2 nK2 tK2; have hbK2 := btouch AK2.out tK2 LK2.out; replace K1 := Lib.hid ((K1.out).keptB hbK2); replace HB := Lib.hid (bstep HB.out hbK2); replace K2 := Lib.hid nK2; clear nK2 tK2 hbK2 AK2 LK2) | (refine big_build rfl 49 _ rfl (msA m) (by kernel_rfl) ?_) | (refine big_load rfl 42 _ rfl gK1 27 rfl K1y.out [.int .i64 m.p1, .int .i64 m.p2, .int .i64 m.q1, .int .i64 m.q2, .int .i64 m.q3, .int .u8 m.gr.b0, .int .u8 m.gr.b1, .int .u8 m.gr.b2, .int .u8 m.gr.b3, .int .u8 m.gr.b4, .int .u8 m.gr.b5, .int .u8 m.gr.b6, .int .u8 m.gr.b7, .int .i64 m.st, .int .u8 m.sn.c.b0, .int .u8 m.sn.c.b1, .int .u8 m.sn.c.b2, .int .u8 m.sn.c.b3, .int .u8 m.sn.c.b4, .int .u8 m.sn.c.b5, .int .u8 m.sn.c.b6, .int .u8 m.sn.c.b7, .int .i64 m.sn.n, .int .u8 m.rc.c.b0, .int .u8 m.rc.c.b1, .int .u8 m.rc.c.b2, .int .u8 m.rc.c.b3, .int .u8 m.rc.c.b4, .int .u8 m.rc.c.b5, .int .u8 m.rc.c.b6, .int .u8 m.rc.c.b7, .int .i64 m.rc.n] rfl Tryd.underlying42 rfl (by kernel_rfl) ?_) | (refine big_load rfl 26 _ rfl gK1 17 rfl K1y.out [.int .u8 m.ak.c.b0, .int .u8 m.ak.c.b1, .int .u8 m.ak.c.b2, .int .u8 m.ak.c.b3, .int .u8 m.ak.c.b4, .int .u8 m.ak.c.b5, .int .u8 m.ak.c.b6, .int .u8 m.ak.c.b7, .int .i64 m.ak.n] rfl Tryd.underlying26 rfl (by kernel_rfl) ?_) | (refine big_load rfl 38 _ rfl gK1 15 rfl K1y.out [.int .i64 m.ts, .int .i64 m.tn] rfl Tryd.underlying38 rfl (by kernel_rfl) ?_) | (refine big_load rfl 32 _ rfl gK1 0 rfl K1y.out [.int .i64 m.h.t, .int .i64 m.h.d, .int .i64 m.h.f, .int .i64 m.h.c, .int .u8 m.h.p.c.b0, .int .u8 m.h.p.c.b1, .int .u8 m.h.p.c.b2, .int .u8 m.h.p.c.b3, .int .u8 m.h.p.c.b4, .int .u8 m.h.p.c.b5, .int .u8 m.h.p.c.b6, .int .u8 m.h.p.c.b7, .int .i64 m.h.p.n, .int .i64 m.h.s, .int .i64 m.h.l] rfl Tryd.underlying32 rfl (by kernel_rfl) ?_) | (refine big_alloc rfl 49 rfl (msA zeroM) (by kernel_rfl) ?_; intro gK2 wK2 hlK2 nK2 hbK2; have K2 := Lib.hid nK2; have AK2 := Lib.hid hbK2; have LK2 := Lib.hid hlK2; have K1y := Lib.hid ((K1.out).keptB hbK2); have K1x := (K1.out).keptB hbK2; have x26 := K1x.reads (i := 26) (x := .int .i64 m.o) rfl; have x59 := K1x.reads (i := 59) (x := .int .i64 m.src) rfl; clear K1x; clear hlK2 nK2 hbK2) | (refine big_box rfl 44 _ rfl (msA m) rfl (by kernel_rfl) ?_; intro gK1 wK1 hlK1 nK1 hbK1; replace HB := Lib.hid (bstep HB.out hbK1); have K1 := Lib.hid nK1; clear hlK1 nK1 hbK1))
  exact bodyPost_ret (v := .agg (msA m)) (results_cell_row rfl _ _ gK2 _ _ (0, 0) _ rfl K2.out Tryd.underlying49 rfl (by kernel_rfl)) rfl ⟨rfl, HB.out⟩
set_option maxHeartbeats 4000000 in
theorem plain6_any (m : Ms) (w : World) :
    Calls Tryd.prog 17 #[.agg (msA m)] w fun e w' => e = .returned (.agg (msA m)) ∧ Below w.heap.size w w' := by
  have HB := Lib.hid (Below.refl w.heap.size w)
  go_enter Tryd.func17, Tryd.ntmps17
  go_wp2_with (first | (refine big_fill rfl 44 _ _ rfl gK2 (msA m) rfl rfl K2.out (by kernel_rfl) (by kernel_rfl) (by kernel_rfl) ?_; intro vK2 nK2 tK2; have hbK2 := btouch AK2.out tK2 LK2.out; replace K1 := Lib.hid ((K1.out).keptB hbK2); replace HB := Lib.hid (bstep HB.out hbK2); replace K2 := Lib.hid nK2; clear nK2 tK2 hbK2 AK2 LK2) | (refine big_build rfl 44 _ rfl (msA m) (by kernel_rfl) ?_) | (refine big_load rfl 42 _ rfl gK1 27 rfl K1y.out [.int .i64 m.p1, .int .i64 m.p2, .int .i64 m.q1, .int .i64 m.q2, .int .i64 m.q3, .int .u8 m.gr.b0, .int .u8 m.gr.b1, .int .u8 m.gr.b2, .int .u8 m.gr.b3, .int .u8 m.gr.b4, .int .u8 m.gr.b5, .int .u8 m.gr.b6, .int .u8 m.gr.b7, .int .i64 m.st, .int .u8 m.sn.c.b0, .int .u8 m.sn.c.b1, .int .u8 m.sn.c.b2, .int .u8 m.sn.c.b3, .int .u8 m.sn.c.b4, .int .u8 m.sn.c.b5, .int .u8 m.sn.c.b6, .int .u8 m.sn.c.b7, .int .i64 m.sn.n, .int .u8 m.rc.c.b0, .int .u8 m.rc.c.b1, .int .u8 m.rc.c.b2, .int .u8 m.rc.c.b3, .int .u8 m.rc.c.b4, .int .u8 m.rc.c.b5, .int .u8 m.rc.c.b6, .int .u8 m.rc.c.b7, .int .i64 m.rc.n] rfl Tryd.underlying42 rfl (by kernel_rfl) ?_) | (refine big_load rfl 26 _ rfl gK1 17 rfl K1y.out [.int .u8 m.ak.c.b0, .int .u8 m.ak.c.b1, .int .u8 m.ak.c.b2, .int .u8 m.ak.c.b3, .int .u8 m.ak.c.b4, .int .u8 m.ak.c.b5, .int .u8 m.ak.c.b6, .int .u8 m.ak.c.b7, .int .i64 m.ak.n] rfl Tryd.underlying26 rfl (by kernel_rfl) ?_) | (refine big_load rfl 47 _ rfl gK1 15 rfl K1y.out [.int .i64 m.ts, .int .i64 m.tn] rfl Tryd.underlying47 rfl (by kernel_rfl) ?_) | (refine big_load rfl 28 _ rfl gK1 0 rfl K1y.out [.int .i64 m.h.t, .int .i64 m.h.d, .int .i64 m.h.f, .int .i64 m.h.c, .int .u8 m.h.p.c.b0, .int .u8 m.h.p.c.b1, .int .u8 m.h.p.c.b2, .int .u8 m.h.p.c.b3, .int .u8 m.h.p.c.b4, .int .u8 m.h.p.c.b5, .int .u8 m.h.p.c.b6, .int .u8 m.h.p.c.b7, .int .i64 m.h.p.n, .int .i64 m.h.s, .int .i64 m.h.l] rfl Tryd.underlying28 rfl (by kernel_rfl) ?_) | (refine big_alloc rfl 44 rfl (msA zeroM) (by kernel_rfl) ?_; intro gK2 wK2 hlK2 nK2 hbK2; have K2 := Lib.hid nK2; have AK2 := Lib.hid hbK2; have LK2 := Lib.hid hlK2; have K1y := Lib.hid ((K1.out).keptB hbK2); have K1x := (K1.out).keptB hbK2; have x26 := K1x.reads (i := 26) (x := .int .i64 m.o) rfl; have x59 := K1x.reads (i := 59) (x := .int .i64 m.src) rfl; clear K1x; clear hlK2 nK2 hbK2) | (refine big_box rfl 49 _ rfl (msA m) rfl (by kernel_rfl) ?_; intro gK1 wK1 hlK1 nK1 hbK1; replace HB := Lib.hid (bstep HB.out hbK1); have K1 := Lib.hid nK1; clear hlK1 nK1 hbK1))
  exact bodyPost_ret (v := .agg (msA m)) (results_cell_row rfl _ _ gK2 _ _ (0, 0) _ rfl K2.out Tryd.underlying44 rfl (by kernel_rfl)) rfl ⟨rfl, HB.out⟩
theorem own_cap {w : World} {base g n cap : Nat} {e : TypeId} {xs : List Value} (h : w.ownsRow base e 1 (.slice (some ⟨g, 0, none⟩) n cap) n xs) : n ≤ cap ∧ cap ≤ maxLen ∧ ∃ cur, Holds w g e cur ∧ cur.size = cap ∧ cur.toList.take n = xs := by
  rcases h.2 with ⟨h0, _⟩ | ⟨g', cap', cur, hv, hbg, hg, h1, h2, h3, h4⟩
  · cases h0
  · cases hv
    exact ⟨h1, h2, cur, hg, by simpa using h3, by simpa using h4⟩
/-- a right message is written: bytes zs, N of them -/
theorem enc6_yes (m : Ms) (w : World) (hl : Lens w) (f0 : -9223372036854775808 ≤ m.h.f) (f1 : m.h.f ≤ 9223372036854775807) (hr : m.right = true) (zs : List Int) (hz : encM m = zs) (N : Nat) (hN : zs.length = N) :
    Calls Tryd.prog 9 #[.agg (msA m)] w fun e w' => ∃ g cap, w.heap.size ≤ g ∧ e = .returned (.tuple #[.slice (some ⟨g, 0, none⟩) N cap, .bool true]) ∧ BytesAt w' ⟨g, 0, none⟩ zs ∧ N ≤ cap ∧ cap ≤ maxLen ∧ Below w.heap.size w w' := by
  subst hz hN
  refine (encM_yes m w hl f0 f1 hr).mono ?_
  rintro e w' ⟨g, cap, h1, h2, h3, h4⟩
  obtain ⟨c1, c2, _⟩ := own_cap h3
  exact ⟨g, cap, h1, h2, own_bytes h3, c1, c2, h4⟩
def aP : Pt := ⟨⟨1, 0, 0, 0, 0, 0, 0, 0⟩, 1⟩
def aM : Ms := ⟨⟨11, 0, 0, 0, aP, 0, 0⟩, 0, 0, zeroP, 37, 128, 0, 0, 0, 0, ⟨1, 0, 0, 0, 0, 0, 0, 0⟩, 0, aP, zeroP, 0⟩
theorem aM_right : aM.right = true := by decide
theorem aM_len : (encM aM).length = 64 := by
  have := encM_length (m := aM) (by decide)
  have e : longN aM.h.t = 64 := rfl
  omega
theorem aM_byte : ∀ z ∈ encM aM, isByte z := encM_byte aM_right (by unfold Ck.ok Ck.l isByte aM aP; decide) (by unfold Ck.ok Ck.l isByte aM zeroP zeroC; decide) (by unfold Ck.ok Ck.l isByte aM; decide)
theorem aM_dec (w : World) (g C : Nat) (hC : 64 ≤ C) (hM : C ≤ maxLen) (hl : Lens w) (hc : BytesAt w ⟨g, 0, none⟩ (encM aM)) :
    Calls Tryd.prog 15 #[.slice (some ⟨g, 0, none⟩) 64 C] w fun e w' => e = .returned (.tuple #[.agg (msA aM), .int .i64 0]) ∧ Below w.heap.size w w' := by
  have h := decM_any ⟨g, 0, none⟩ 64 C (encM aM) w aM_len (by omega) hC hM aM_byte hc hl
  have hd := m_enc aM_right (by decide) (by decide)
  have hf : faultM ((64 : Nat) : Int) (encM aM) = 0 := hd.2.2
  have e2 : decM ((64 : Nat) : Int) (encM aM) = aM := by unfold decM; rw [if_pos hf, hd.1]
  rw [hf, e2] at h
  exact h
set_option maxHeartbeats 4000000 in
theorem alive6_any  (w : World) (hl : Lens w) :
    Calls Tryd.prog 12 #[] w fun e w' => e = .returned (.bool true) ∧ Below w.heap.size w w' := by
  have HB := Lib.hid (Below.refl w.heap.size w)
  have LN := Lib.hid hl
  clear hl
  go_enter Tryd.func12, Tryd.ntmps12
  go_wp2_with (first | (refine big_whole rfl 49 _ rfl gK2 rfl K2.out Tryd.underlying49 rfl (by kernel_rfl) ?_) | (refine big_fill rfl 49 _ _ rfl gK2 (msA aM) rfl rfl K2.out (by kernel_rfl) (by kernel_rfl) (by kernel_rfl) ?_; intro vK2 nK2 tK2; have hbK2 := btouch AK2.out tK2 LK2.out; replace LN := Lib.hid ((LN.out).keptB hbK2); replace K1 := Lib.hid ((K1.out).keptB hbK2); replace HB := Lib.hid (bstep HB.out hbK2); replace K2 := Lib.hid nK2; clear nK2 tK2 hbK2 AK2 LK2) | (refine big_alloc rfl 49 rfl (msA zeroM) (by kernel_rfl) ?_; intro gK2 wK2 hlK2 nK2 hbK2; have K2 := Lib.hid nK2; have AK2 := Lib.hid hbK2; have LK2 := Lib.hid hlK2; clear hlK2 nK2 hbK2) | (refine big_build rfl 49 _ rfl (msA aM) (by kernel_rfl) ?_) | (refine big_build rfl 42 _ rfl (#[.int .i64 128, .int .i64 0, .int .i64 0, .int .i64 0, .int .i64 0, .int .u8 1, .int .u8 0, .int .u8 0, .int .u8 0, .int .u8 0, .int .u8 0, .int .u8 0, .int .u8 0, .int .i64 0, .int .u8 1, .int .u8 0, .int .u8 0, .int .u8 0, .int .u8 0, .int .u8 0, .int .u8 0, .int .u8 0, .int .i64 1, .int .u8 0, .int .u8 0, .int .u8 0, .int .u8 0, .int .u8 0, .int .u8 0, .int .u8 0, .int .u8 0, .int .i64 0]) (by kernel_rfl) ?_) | (refine big_build rfl 28 _ rfl (#[.int .i64 11, .int .i64 0, .int .i64 0, .int .i64 0, .int .u8 1, .int .u8 0, .int .u8 0, .int .u8 0, .int .u8 0, .int .u8 0, .int .u8 0, .int .u8 0, .int .i64 1, .int .i64 0, .int .i64 0]) (by kernel_rfl) ?_) | (refine big_whole rfl 26 _ rfl gK1 rfl K1.out Tryd.underlying26 rfl (by kernel_rfl) ?_) | (refine big_fill rfl 26 _ _ rfl gK1 (#[.int .u8 1, .int .u8 0, .int .u8 0, .int .u8 0, .int .u8 0, .int .u8 0, .int .u8 0, .int .u8 0, .int .i64 1]) rfl rfl K1.out (by kernel_rfl) (by kernel_rfl) (by kernel_rfl) ?_; intro vK1 nK1 tK1; have hbK1 := btouch AK1.out tK1 LK1.out; replace LN := Lib.hid ((LN.out).keptB hbK1); replace HB := Lib.hid (bstep HB.out hbK1); replace K1 := Lib.hid nK1; clear nK1 tK1 hbK1 AK1 LK1) | (refine big_alloc rfl 26 rfl (#[.int .u8 0, .int .u8 0, .int .u8 0, .int .u8 0, .int .u8 0, .int .u8 0, .int .u8 0, .int .u8 0, .int .i64 0]) (by kernel_rfl) ?_; intro gK1 wK1 hlK1 nK1 hbK1; have K1 := Lib.hid nK1; have AK1 := Lib.hid hbK1; have LK1 := Lib.hid hlK1; clear hlK1 nK1 hbK1) | (refine big_build rfl 26 _ rfl (#[.int .u8 1, .int .u8 0, .int .u8 0, .int .u8 0, .int .u8 0, .int .u8 0, .int .u8 0, .int .u8 0, .int .i64 1]) (by kernel_rfl) ?_) | (refine big_build rfl 24 _ rfl (#[.int .u8 1, .int .u8 0, .int .u8 0, .int .u8 0, .int .u8 0, .int .u8 0, .int .u8 0, .int .u8 0]) (by kernel_rfl) ?_))
  refine (enc6_yes aM _ LN.out (by decide) (by decide) aM_right _ rfl 64 aM_len).mono ?_
  rintro e c1 ⟨gX, cap, -, rfl, nBX, hc0, hc1, hc1⟩
  replace LN := Lib.hid ((LN.out).keptB hc1)
  replace K1 := Lib.hid ((K1.out).keptB hc1)
  replace K2 := Lib.hid ((K2.out).keptB hc1)
  replace HB := Lib.hid (bstep HB.out hc1)
  have BX := Lib.hid nBX
  clear nBX
  clear hc1
  have HC0 := Lib.hid hc0
  have HC1 := Lib.hid hc1
  clear hc0 hc1
  go_wp2_with fail
  refine (aM_dec _ gX cap HC0.out HC1.out LN.out BX.out).mono ?_
  rintro e c2 ⟨rfl, hc2⟩
  replace LN := Lib.hid ((LN.out).keptB hc2)
  replace K1 := Lib.hid ((K1.out).keptB hc2)
  replace K2 := Lib.hid ((K2.out).keptB hc2)
  replace BX := Lib.hid ((BX.out).keptB hc2)
  replace HB := Lib.hid (bstep HB.out hc2)
  clear hc2
  go_wp2_with (first | (refine big_fill rfl 49 _ _ rfl gK5 (msA aM) rfl rfl K5.out (by kernel_rfl) (by kernel_rfl) (by kernel_rfl) ?_; intro vK5 nK5 tK5; have hbK5 := btouch AK5.out tK5 LK5.out; replace LN := Lib.hid ((LN.out).keptB hbK5); replace K1 := Lib.hid ((K1.out).keptB hbK5); replace K2 := Lib.hid ((K2.out).keptB hbK5); replace BX := Lib.hid ((BX.out).keptB hbK5); replace HB := Lib.hid (bstep HB.out hbK5); replace K5 := Lib.hid nK5; clear nK5 tK5 hbK5 AK5 LK5) | (refine big_alloc rfl 49 rfl (msA zeroM) (by kernel_rfl) ?_; intro gK5 wK5 hlK5 nK5 hbK5; have K5 := Lib.hid nK5; have AK5 := Lib.hid hbK5; have LK5 := Lib.hid hlK5; clear hlK5 nK5 hbK5))
  refine (decM_short none 0 0 _ (by omega)).mono ?_
  rintro e c3 ⟨rfl, hc3⟩
  replace LN := Lib.hid ((LN.out).keptB hc3)
  replace K1 := Lib.hid ((K1.out).keptB hc3)
  replace K2 := Lib.hid ((K2.out).keptB hc3)
  replace BX := Lib.hid ((BX.out).keptB hc3)
  replace K5 := Lib.hid ((K5.out).keptB hc3)
  replace HB := Lib.hid (bstep HB.out hc3)
  clear hc3
  go_wp2_with (first | (refine big_cmp rfl .eql 49 _ _ _ rfl (msA aM) (msA aM) rfl rfl (by kernel_rfl) true (fun v => (eql_msg aM aM v).trans (by rw [eqM_self])) ?_) | (refine big_whole rfl 49 _ rfl gK2 rfl K2.out Tryd.underlying49 rfl (by kernel_rfl) ?_) | (refine big_whole rfl 49 _ rfl gK5 rfl K5.out Tryd.underlying49 rfl (by kernel_rfl) ?_) | (refine big_fill rfl 49 _ _ rfl gK7 (msA zeroM) rfl rfl K7.out (by kernel_rfl) (by kernel_rfl) (by kernel_rfl) ?_; intro vK7 nK7 tK7; have hbK7 := btouch AK7.out tK7 LK7.out; replace LN := Lib.hid ((LN.out).keptB hbK7); replace K1 := Lib.hid ((K1.out).keptB hbK7); replace K2 := Lib.hid ((K2.out).keptB hbK7); replace BX := Lib.hid ((BX.out).keptB hbK7); replace K5 := Lib.hid ((K5.out).keptB hbK7); replace HB := Lib.hid (bstep HB.out hbK7); replace K7 := Lib.hid nK7; clear nK7 tK7 hbK7 AK7 LK7) | (refine big_alloc rfl 49 rfl (msA zeroM) (by kernel_rfl) ?_; intro gK7 wK7 hlK7 nK7 hbK7; have K7 := Lib.hid nK7; have AK7 := Lib.hid hbK7; have LK7 := Lib.hid hlK7; clear hlK7 nK7 hbK7))
  go_ret
  exact ⟨rfl, HB.out⟩

end Go.Proofs.YtifhjmhekapaoaaDoor
