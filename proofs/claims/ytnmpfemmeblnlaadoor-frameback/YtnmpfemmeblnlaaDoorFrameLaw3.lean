/- The walk over FrameBack. -/
import Derived.Test.YtnmpfemmeblnlaaDoorFrameAlive
namespace Go.Proofs.YtnmpfemmeblnlaaDoor
set_option maxRecDepth 100000
open Go.RowKit
set_option linter.unusedVariables false

theorem decM_slice (A : Option Addr) (L C : Nat) (zs : List Int) (w : World) (hs : sliceOk .u8 w A L C zs) :
    ∃ n G, (∀ v, Below w.heap.size w v → Lens v → Calls Tryd.prog 17 #[.slice A L C] v fun e w' => e = .returned (.tuple #[.agg (msA G), .int .i64 n]) ∧ Below v.heap.size v w') ∧
      ((n ≠ 0 ∧ G = zeroM) ∨ (n = 0 ∧ G.right = true ∧ (-9223372036854775808 ≤ G.h.f ∧ G.h.f ≤ 9223372036854775807) ∧ ∃ a, A = some a ∧ BytesAt w a (encM G) ∧ (encM G).length = L)) := by
  by_cases hL : L < 34
  · exact ⟨50, zeroM, fun v _ _ => decM_short A L C v hL, .inl ⟨by omega, rfl⟩⟩
  rcases hs with ⟨_, h0, _⟩ | ⟨a, rfl, h1, h2, h3, h4, h5⟩
  · omega
  have hz : BytesAt w a (zs.take L) := by
    intro i hi
    rw [List.length_take] at hi
    rw [h4 i (by omega)]
    simp only [List.getD, List.getElem?_take, if_pos (show i < L by omega)]
  have hb : ∀ z ∈ zs.take L, isByte z := fun z hz => byte_wf (h5 z (List.mem_of_mem_take hz))
  have hl : (zs.take L).length = L := by rw [List.length_take]; omega
  obtain ⟨ys, hys⟩ : ∃ ys, zs.take L = ys := ⟨_, rfl⟩
  rw [hys] at hz hb hl
  refine ⟨faultM L ys, decM L ys, fun v hv hlv => decM_any a L C ys v hl (by omega) h1 h2 hb (fun i hi => keepc hv (hz i hi)) hlv, ?_⟩
  by_cases hf : faultM L ys = 0
  · have e : decM L ys = mOf ys := by unfold decM; rw [if_pos hf]
    rw [← hl] at hf
    have hed := enc_m hb hf
    rw [hl] at hf
    have h6 := getD_byte hb 6
    have h7 := getD_byte hb 7
    unfold isByte at h6 h7
    refine .inr ⟨hf, by rw [e]; exact hed.1, ?_, a, rfl, ?_, ?_⟩
    · rw [e, mOf_h]
      show _ ≤ ys.getD 6 0 * 256 + ys.getD 7 0 ∧ ys.getD 6 0 * 256 + ys.getD 7 0 ≤ _
      omega
    · rw [e, hed.2]; exact hz
    · rw [e, hed.2, hl]
  · exact .inl ⟨hf, by unfold decM; rw [if_neg hf]⟩
theorem dec6_own (m : Ms) (w : World) (hl : Lens w) (hr : m.right = true) (c0 : -9223372036854775808 ≤ m.h.c) (c1 : m.h.c ≤ 9223372036854775807) (hb : ∀ z ∈ encM m, isByte z) (zs : List Int) (hz : encM m = zs) (N : Nat) (hN : zs.length = N) (g cap : Nat) (h1 : N ≤ cap) (h2 : cap ≤ maxLen) (hc : BytesAt w ⟨g, 0, none⟩ zs) :
    Calls Tryd.prog 17 #[.slice (some ⟨g, 0, none⟩) N cap] w fun e w' => e = .returned (.tuple #[.agg (msA m), .int .i64 0]) ∧ Below w.heap.size w w' := by
  subst hz
  have hln := (Hd.right_iff.1 (Ms.right_iff.1 hr).1).1
  have h44 := (longN_ne hln).2
  have hlen := encM_length hln
  rw [hN] at hlen
  have h := decM_any ⟨g, 0, none⟩ N cap (encM m) w hN (by omega) h1 h2 hb hc hl
  have hd := m_enc hr c0 c1
  rw [← hlen] at hd
  have e2 : decM (N : Int) (encM m) = m := by unfold decM; rw [if_pos hd.2.2, hd.1]
  rw [hd.2.2, e2] at h
  exact h
theorem flong (t : Int) (w : World) (hl : Lens w) : Calls Tryd.prog 20 #[.int .i64 t] w fun e w' => e = .returned (.int .i64 (longN t)) ∧ Below w.heap.size w w' :=
  (long_any t w hl).mono fun _ _ ⟨he, hw⟩ => ⟨he, hw ▸ Below.refl _ _⟩
set_option maxHeartbeats 4000000 in
theorem back6_nb (m : Ms) (fm0 : -9223372036854775808 ≤ m.h.f) (fm1 : m.h.f ≤ 9223372036854775807) (cm0 : -9223372036854775808 ≤ m.h.c) (cm1 : m.h.c ≤ 9223372036854775807) (om1 : m.h.p.c.ok) (om2 : m.ak.c.ok) (om3 : m.gr.ok) (A : Option Addr) (L C : Nat) (n : Int) (G : Ms) (w : World) (hl : Lens w) (hr : m.right = false) (hC7 : ∀ v, Below w.heap.size w v → Lens v → Calls Tryd.prog 17 #[.slice A L C] v fun e w' => e = .returned (.tuple #[.agg (msA G), .int .i64 n]) ∧ Below v.heap.size v w') (hn : n ≠ 0) (hG : G = zeroM) :
    Calls Tryd.prog 5 #[.agg (msA m), .slice A L C] w fun e w' => e = .returned (.bool true) ∧ Below w.heap.size w w' := by
  have HB := Lib.hid (Below.refl w.heap.size w)
  have LN := Lib.hid hl
  have HMR := Lib.hid hr
  have C7 := Lib.hid hC7
  clear hl hr hC7
  have de : (n == 0) = false := by simpa using hn
  have de2 : (n != 0) = true := by simpa using hn
  subst hG
  clear hn
  go_enter Tryd.func5, Tryd.ntmps5
  go_wp2_with (first | (refine big_whole rfl 35 _ rfl gK1 rfl K1.out Tryd.underlying35 rfl (by kernel_rfl) ?_) | (refine big_box rfl 35 _ rfl (msA m) rfl (by kernel_rfl) ?_; intro gK1 wK1 hlK1 nK1 hbK1; replace LN := Lib.hid ((LN.out).keptB hbK1); replace HB := Lib.hid (bstep HB.out hbK1); have K1 := Lib.hid nK1; clear hlK1 nK1 hbK1))
  refine (own6_any m _).mono ?_
  rintro e c1 ⟨rfl, hc1⟩
  replace LN := Lib.hid ((LN.out).keptB hc1)
  replace K1 := Lib.hid ((K1.out).keptB hc1)
  replace HB := Lib.hid (bstep HB.out hc1)
  clear hc1
  go_wp2_with fail
  refine (encM_no m _ LN.out fm0 fm1 HMR.out).mono ?_
  rintro e c2 ⟨rfl, hc2⟩
  replace LN := Lib.hid ((LN.out).keptB hc2)
  replace K1 := Lib.hid ((K1.out).keptB hc2)
  replace HB := Lib.hid (bstep HB.out hc2)
  clear hc2
  go_wp2_with fail
  refine ((C7.out) _ HB.out LN.out).mono ?_
  rintro e c3 ⟨rfl, hc3⟩
  replace LN := Lib.hid ((LN.out).keptB hc3)
  replace K1 := Lib.hid ((K1.out).keptB hc3)
  replace HB := Lib.hid (bstep HB.out hc3)
  clear hc3
  go_wp2_with (first | (refine big_fill rfl 42 _ _ rfl gK9 (msA zeroM) rfl rfl K9.out (by kernel_rfl) (by kernel_rfl) (by kernel_rfl) ?_; intro vK9 nK9 tK9; have hbK9 := btouch AK9.out tK9 LK9.out; replace LN := Lib.hid ((LN.out).keptB hbK9); replace K1 := Lib.hid ((K1.out).keptB hbK9); replace HB := Lib.hid (bstep HB.out hbK9); replace K9 := Lib.hid nK9; clear nK9 tK9 hbK9 AK9 LK9) | (refine big_alloc rfl 42 rfl (msA zeroM) (by kernel_rfl) ?_; intro gK9 wK9 hlK9 nK9 hbK9; have K9 := Lib.hid nK9; have AK9 := Lib.hid hbK9; have LK9 := Lib.hid hlK9; clear hlK9 nK9 hbK9))
  refine (alive6_any _ LN.out).mono ?_
  rintro e c4 ⟨rfl, hc4⟩
  replace LN := Lib.hid ((LN.out).keptB hc4)
  replace K1 := Lib.hid ((K1.out).keptB hc4)
  replace K9 := Lib.hid ((K9.out).keptB hc4)
  replace HB := Lib.hid (bstep HB.out hc4)
  clear hc4
  go_wp2_with (first | (refine big_cmp rfl .eql 42 _ _ _ rfl (msA zeroM) (msA zeroM) rfl rfl (by kernel_rfl) true (fun v => (eql_msg zeroM zeroM v).trans (by rw [eqM_self])) ?_) | (refine big_build rfl 42 _ rfl (msA zeroM) (by kernel_rfl) ?_) | (refine big_whole rfl 42 _ rfl gK9 rfl K9.out Tryd.underlying42 rfl (by kernel_rfl) ?_))
  go_ret
  exact ⟨rfl, HB.out⟩
set_option maxHeartbeats 4000000 in
theorem back6_ng (m : Ms) (fm0 : -9223372036854775808 ≤ m.h.f) (fm1 : m.h.f ≤ 9223372036854775807) (cm0 : -9223372036854775808 ≤ m.h.c) (cm1 : m.h.c ≤ 9223372036854775807) (om1 : m.h.p.c.ok) (om2 : m.ak.c.ok) (om3 : m.gr.ok) (A : Option Addr) (L C : Nat) (n : Int) (G : Ms) (w : World) (hl : Lens w) (hr : m.right = false) (hC7 : ∀ v, Below w.heap.size w v → Lens v → Calls Tryd.prog 17 #[.slice A L C] v fun e w' => e = .returned (.tuple #[.agg (msA G), .int .i64 n]) ∧ Below v.heap.size v w') (hn : n = 0) (hGr : G.right = true) (hGf : -9223372036854775808 ≤ G.h.f ∧ G.h.f ≤ 9223372036854775807) (hGa : ∃ a, A = some a ∧ BytesAt w a (encM G) ∧ (encM G).length = L) :
    Calls Tryd.prog 5 #[.agg (msA m), .slice A L C] w fun e w' => e = .returned (.bool true) ∧ Below w.heap.size w w' := by
  have HB := Lib.hid (Below.refl w.heap.size w)
  have LN := Lib.hid hl
  have HMR := Lib.hid hr
  have C7 := Lib.hid hC7
  clear hl hr hC7
  subst hn
  have HGR := Lib.hid hGr
  obtain ⟨a, rfl, hga, hgl⟩ := hGa
  obtain ⟨ys, hys⟩ : ∃ ys, encM G = ys := ⟨_, rfl⟩
  rw [hys] at hga hgl
  have HGE := Lib.hid hys
  have HGL := Lib.hid hgl
  have BZ := Lib.hid hga
  obtain ⟨S, hS⟩ : ∃ S, strOfNums ys = S := ⟨_, rfl⟩
  have HS := Lib.hid hS
  obtain ⟨fG0, fG1⟩ := hGf
  clear hGr hys hga hgl hS
  go_enter Tryd.func5, Tryd.ntmps5
  go_wp2_with (first | (refine big_whole rfl 35 _ rfl gK1 rfl K1.out Tryd.underlying35 rfl (by kernel_rfl) ?_) | (refine big_box rfl 35 _ rfl (msA m) rfl (by kernel_rfl) ?_; intro gK1 wK1 hlK1 nK1 hbK1; replace LN := Lib.hid ((LN.out).keptB hbK1); replace BZ := Lib.hid ((BZ.out).keptB hbK1); replace HB := Lib.hid (bstep HB.out hbK1); have K1 := Lib.hid nK1; clear hlK1 nK1 hbK1))
  refine (own6_any m _).mono ?_
  rintro e c1 ⟨rfl, hc1⟩
  replace LN := Lib.hid ((LN.out).keptB hc1)
  replace BZ := Lib.hid ((BZ.out).keptB hc1)
  replace K1 := Lib.hid ((K1.out).keptB hc1)
  replace HB := Lib.hid (bstep HB.out hc1)
  clear hc1
  go_wp2_with fail
  refine (encM_no m _ LN.out fm0 fm1 HMR.out).mono ?_
  rintro e c2 ⟨rfl, hc2⟩
  replace LN := Lib.hid ((LN.out).keptB hc2)
  replace BZ := Lib.hid ((BZ.out).keptB hc2)
  replace K1 := Lib.hid ((K1.out).keptB hc2)
  replace HB := Lib.hid (bstep HB.out hc2)
  clear hc2
  go_wp2_with fail
  refine ((C7.out) _ HB.out LN.out).mono ?_
  rintro e c3 ⟨rfl, hc3⟩
  replace LN := Lib.hid ((LN.out).keptB hc3)
  replace BZ := Lib.hid ((BZ.out).keptB hc3)
  replace K1 := Lib.hid ((K1.out).keptB hc3)
  replace HB := Lib.hid (bstep HB.out hc3)
  clear hc3
  go_wp2_with (first | (refine big_whole rfl 42 _ rfl gK9 rfl K9.out Tryd.underlying42 rfl (by kernel_rfl) ?_) | (refine big_fill rfl 42 _ _ rfl gK9 (msA G) rfl rfl K9.out (by kernel_rfl) (by kernel_rfl) (by kernel_rfl) ?_; intro vK9 nK9 tK9; have hbK9 := btouch AK9.out tK9 LK9.out; replace LN := Lib.hid ((LN.out).keptB hbK9); replace BZ := Lib.hid ((BZ.out).keptB hbK9); replace K1 := Lib.hid ((K1.out).keptB hbK9); replace HB := Lib.hid (bstep HB.out hbK9); replace K9 := Lib.hid nK9; clear nK9 tK9 hbK9 AK9 LK9) | (refine big_alloc rfl 42 rfl (msA zeroM) (by kernel_rfl) ?_; intro gK9 wK9 hlK9 nK9 hbK9; have K9 := Lib.hid nK9; have AK9 := Lib.hid hbK9; have LK9 := Lib.hid hlK9; clear hlK9 nK9 hbK9))
  refine (enc6_yes G _ LN.out fG0 fG1 HGR.out ys HGE.out L HGL.out).mono ?_
  rintro e c4 ⟨gD, capD, -, rfl, nBD, -, -, hc4⟩
  replace LN := Lib.hid ((LN.out).keptB hc4)
  replace BZ := Lib.hid ((BZ.out).keptB hc4)
  replace K1 := Lib.hid ((K1.out).keptB hc4)
  replace K9 := Lib.hid ((K9.out).keptB hc4)
  replace HB := Lib.hid (bstep HB.out hc4)
  have BD := Lib.hid nBD
  clear nBD
  clear hc4
  go_wp2_with fail
  refine (alive6_any _ LN.out).mono ?_
  rintro e c5 ⟨rfl, hc5⟩
  replace LN := Lib.hid ((LN.out).keptB hc5)
  replace BZ := Lib.hid ((BZ.out).keptB hc5)
  replace K1 := Lib.hid ((K1.out).keptB hc5)
  replace K9 := Lib.hid ((K9.out).keptB hc5)
  replace BD := Lib.hid ((BD.out).keptB hc5)
  replace HB := Lib.hid (bstep HB.out hc5)
  clear hc5
  have q1 := conv_at _ ⟨gD, 0, none⟩ L capD ys HGL.out BD.out
  have q2 := conv_at _ a L C ys HGL.out BZ.out
  rw [HS.out] at q1 q2
  go_wp2_with ((refine big_whole rfl 42 _ rfl gK9 rfl K9.out Tryd.underlying42 rfl (by kernel_rfl) ?_))
  refine (fright_any G _ LN.out fG0 fG1).mono ?_
  rintro e c6 ⟨rfl, hc6⟩
  rw [HGR.out]
  clear q1 q2
  replace LN := Lib.hid ((LN.out).keptB hc6)
  replace BZ := Lib.hid ((BZ.out).keptB hc6)
  replace K1 := Lib.hid ((K1.out).keptB hc6)
  replace K9 := Lib.hid ((K9.out).keptB hc6)
  replace BD := Lib.hid ((BD.out).keptB hc6)
  replace HB := Lib.hid (bstep HB.out hc6)
  clear hc6
  go_wp2
  go_ret
  exact ⟨rfl, HB.out⟩
set_option maxHeartbeats 4000000 in
theorem back6_yb (m : Ms) (fm0 : -9223372036854775808 ≤ m.h.f) (fm1 : m.h.f ≤ 9223372036854775807) (cm0 : -9223372036854775808 ≤ m.h.c) (cm1 : m.h.c ≤ 9223372036854775807) (om1 : m.h.p.c.ok) (om2 : m.ak.c.ok) (om3 : m.gr.ok) (A : Option Addr) (L C : Nat) (n : Int) (G : Ms) (w : World) (hl : Lens w) (hr : m.right = true) (hC7 : ∀ v, Below w.heap.size w v → Lens v → Calls Tryd.prog 17 #[.slice A L C] v fun e w' => e = .returned (.tuple #[.agg (msA G), .int .i64 n]) ∧ Below v.heap.size v w') (hn : n ≠ 0) (hG : G = zeroM) :
    Calls Tryd.prog 5 #[.agg (msA m), .slice A L C] w fun e w' => e = .returned (.bool true) ∧ Below w.heap.size w w' := by
  have HB := Lib.hid (Below.refl w.heap.size w)
  have LN := Lib.hid hl
  have HMR := Lib.hid hr
  have C7 := Lib.hid hC7
  have HMB := Lib.hid (encM_byte hr om1 om2 om3)
  obtain ⟨zs, hzs⟩ : ∃ zs, encM m = zs := ⟨_, rfl⟩
  obtain ⟨N, hN⟩ : ∃ N, zs.length = N := ⟨_, rfl⟩
  have HME := Lib.hid hzs
  have HMN := Lib.hid hN
  have hNl : (N : Int) = longN m.h.t := by rw [← hN, ← hzs]; exact encM_length (Hd.right_iff.1 (Ms.right_iff.1 hr).1).1
  have HNL := Lib.hid hNl
  clear hzs hN hNl
  clear hl hr hC7
  have de : (n == 0) = false := by simpa using hn
  have de2 : (n != 0) = true := by simpa using hn
  subst hG
  clear hn
  go_enter Tryd.func5, Tryd.ntmps5
  go_wp2_with (first | (refine big_whole rfl 35 _ rfl gK1 rfl K1.out Tryd.underlying35 rfl (by kernel_rfl) ?_) | (refine big_box rfl 35 _ rfl (msA m) rfl (by kernel_rfl) ?_; intro gK1 wK1 hlK1 nK1 hbK1; replace LN := Lib.hid ((LN.out).keptB hbK1); replace HB := Lib.hid (bstep HB.out hbK1); have K1 := Lib.hid nK1; clear hlK1 nK1 hbK1))
  refine (own6_any m _).mono ?_
  rintro e c1 ⟨rfl, hc1⟩
  replace LN := Lib.hid ((LN.out).keptB hc1)
  replace K1 := Lib.hid ((K1.out).keptB hc1)
  replace HB := Lib.hid (bstep HB.out hc1)
  clear hc1
  go_wp2_with fail
  refine (enc6_yes m _ LN.out fm0 fm1 HMR.out zs HME.out N HMN.out).mono ?_
  rintro e c2 ⟨gX, capX, -, rfl, nBX, hc0, hc1, hc2⟩
  replace LN := Lib.hid ((LN.out).keptB hc2)
  replace K1 := Lib.hid ((K1.out).keptB hc2)
  replace HB := Lib.hid (bstep HB.out hc2)
  have BX := Lib.hid nBX
  clear nBX
  clear hc2
  have CX : Hid (N ≤ capX ∧ capX ≤ maxLen) := ⟨hc0, hc1⟩
  clear hc0 hc1
  go_wp2_with fail
  refine (dec6_own m _ LN.out HMR.out cm0 cm1 HMB.out zs HME.out N HMN.out gX capX CX.out.1 CX.out.2 BX.out).mono ?_
  rintro e c3 ⟨rfl, hc3⟩
  replace LN := Lib.hid ((LN.out).keptB hc3)
  replace K1 := Lib.hid ((K1.out).keptB hc3)
  replace BX := Lib.hid ((BX.out).keptB hc3)
  replace HB := Lib.hid (bstep HB.out hc3)
  clear hc3
  go_upto_region 4 with (first | (refine big_fill rfl 42 _ _ rfl gK7 (msA m) rfl rfl K7.out (by kernel_rfl) (by kernel_rfl) (by kernel_rfl) ?_; intro vK7 nK7 tK7; have hbK7 := btouch AK7.out tK7 LK7.out; replace LN := Lib.hid ((LN.out).keptB hbK7); replace K1 := Lib.hid ((K1.out).keptB hbK7); replace BX := Lib.hid ((BX.out).keptB hbK7); replace HB := Lib.hid (bstep HB.out hbK7); replace K7 := Lib.hid nK7; clear nK7 tK7 hbK7 AK7 LK7) | (refine big_alloc rfl 42 rfl (msA zeroM) (by kernel_rfl) ?_; intro gK7 wK7 hlK7 nK7 hbK7; have K7 := Lib.hid nK7; have AK7 := Lib.hid hbK7; have LK7 := Lib.hid hlK7; clear hlK7 nK7 hbK7))
  refine wp_region_held_drew (S := fun v => Below w.heap.size w v ∧ Lens v ∧ Holds v gK1 35 (msA m) ∧ BytesAt v ⟨gX, 0, none⟩ zs ∧ Holds v gK7 42 (msA m) ∧ True) (by kernel_rfl) ?_ (fun hHeld => ?_)
  · exact ⟨bdrew HB.out, (LN.out).drew, (K1.out).drew, (BX.out).drew, (K7.out).drew, trivial⟩
  clear HB LN K1 BX K7
  refine wpAnyH_take (i := 0) (v := .int .i64 0) (at_list rfl) (by kernel_rfl) (by kernel_rfl) (by kernel_rfl) (fun _ _ _ h => h) (Or.inl ⟨by rfl, ?_⟩) hHeld ?_
  · intro v hSv
    clear hHeld
    go_simp
  try simp only [Act.put, List.setIfInBounds_toArray, List.set_cons_zero, List.set_cons_succ]
  refine wpAnyH_take (i := 1) (v := .bool false) (at_list rfl) (by kernel_rfl) (by kernel_rfl) (by kernel_rfl) (fun _ _ _ h => h) (Or.inl ⟨by rfl, ?_⟩) hHeld ?_
  · intro v hSv
    clear hHeld
    go_simp
  try simp only [Act.put, List.setIfInBounds_toArray, List.set_cons_zero, List.set_cons_succ]
  refine wpAnyH_take (i := 2) (v := .bool false) (at_list rfl) (by kernel_rfl) (by kernel_rfl) (by kernel_rfl) (fun _ _ _ h => h) (Or.inl ⟨by rfl, ?_⟩) hHeld ?_
  · intro v hSv
    clear hHeld
    go_simp
  try simp only [Act.put, List.setIfInBounds_toArray, List.set_cons_zero, List.set_cons_succ]
  refine wpAnyH_take (i := 3) (v := .agg (msA m)) (at_list rfl) (by kernel_rfl) (by kernel_rfl) (by kernel_rfl) (fun _ _ _ h => h) (yields_whole (by rfl) 42 _ rfl gK7 rfl (fun v hv => hv.2.2.2.2.1) Tryd.underlying42 rfl (by kernel_rfl)) hHeld ?_
  try simp only [Act.put, List.setIfInBounds_toArray, List.set_cons_zero, List.set_cons_succ]
  refine wpAnyH_take (i := 5) (v := .agg (msA m)) (at_list rfl) (by kernel_rfl) (by kernel_rfl) (by kernel_rfl) (fun _ _ _ h => h) (yields_whole (by rfl) 35 _ rfl gK1 rfl (fun v hv => hv.2.2.1) Tryd.underlying35 rfl (by kernel_rfl)) hHeld ?_
  try simp only [Act.put, List.setIfInBounds_toArray, List.set_cons_zero, List.set_cons_succ]
  refine wpAnyH_ready (rs := [4]) (by kernel_rfl) (by simp) ?_
  refine AllReadyH.cons (at_list rfl) (fun K hK => ?_) AllReadyH.nil
  go_simp
  refine (plain6_any m _).mono ?_
  rintro e v4 ⟨rfl, hv4⟩
  go_wp2_with fail
  refine hK.out _ _ ?_ (fun hHeld2 => ?_)
  · exact ⟨bstep hHeld.1 hv4, hHeld.2.1.keptB hv4, hHeld.2.2.1.keptB hv4, hHeld.2.2.2.1.keptB hv4, hHeld.2.2.2.2.1.keptB hv4, trivial⟩
  clear hK K hHeld
  have hHeld := hHeld2
  clear hHeld2 hv4
  try simp only [Act.put, List.setIfInBounds_toArray, List.set_cons_zero, List.set_cons_succ]
  refine wpAnyH_take (i := 6) (v := .bool false) (at_list rfl) (by kernel_rfl) (by kernel_rfl) (by kernel_rfl) (fun _ _ _ h => h) (yields_cmp (by rfl) .neq 35 _ _ _ rfl (msA m) (msA m) rfl rfl (by kernel_rfl) false (fun v => (neq_rmsg m m v).trans (by rw [eqM_self]; rfl))) hHeld ?_
  try simp only [Act.put, List.setIfInBounds_toArray, List.set_cons_zero, List.set_cons_succ]
  refine wpAnyH_take (i := 7) (v := .bool false) (at_list rfl) (by kernel_rfl) (by kernel_rfl) (by kernel_rfl) (fun _ _ _ h => h) (Or.inl ⟨by rfl, ?_⟩) hHeld ?_
  · intro v hSv
    clear hHeld
    go_simp
  try simp only [Act.put, List.setIfInBounds_toArray, List.set_cons_zero, List.set_cons_succ]
  refine wpAnyH_take (i := 8) (v := .bool false) (at_list rfl) (by kernel_rfl) (by kernel_rfl) (by kernel_rfl) (fun _ _ _ h => h) (Or.inl ⟨by rfl, ?_⟩) hHeld ?_
  · intro v hSv
    clear hHeld
    go_simp
  try simp only [Act.put, List.setIfInBounds_toArray, List.set_cons_zero, List.set_cons_succ]
  refine wpAnyH_take (i := 9) (v := .slice (some ⟨gX, 0, none⟩) N capX) (at_list rfl) (by kernel_rfl) (by kernel_rfl) (by kernel_rfl) (fun _ _ _ h => h) (Or.inl ⟨by rfl, ?_⟩) hHeld ?_
  · intro v hSv
    clear hHeld
    go_simp
  try simp only [Act.put, List.setIfInBounds_toArray, List.set_cons_zero, List.set_cons_succ]
  refine wpAnyH_take (i := 10) (v := .int .i64 N) (at_list rfl) (by kernel_rfl) (by kernel_rfl) (by kernel_rfl) (fun _ _ _ h => h) (Or.inl ⟨by rfl, ?_⟩) hHeld ?_
  · intro v hSv
    clear hHeld
    go_simp
  try simp only [Act.put, List.setIfInBounds_toArray, List.set_cons_zero, List.set_cons_succ]
  refine wpAnyH_take (i := 11) (v := .pointer (some ⟨gK1, 0, none⟩)) (at_list rfl) (by kernel_rfl) (by kernel_rfl) (by kernel_rfl) (fun _ _ _ h => h) (Or.inl ⟨by rfl, ?_⟩) hHeld ?_
  · intro v hSv
    clear hHeld
    go_simp
  try simp only [Act.put, List.setIfInBounds_toArray, List.set_cons_zero, List.set_cons_succ]
  refine wpAnyH_take (i := 12) (v := .pointer (some ⟨gK1, 0, none⟩)) (at_list rfl) (by kernel_rfl) (by kernel_rfl) (by kernel_rfl) (fun _ _ _ h => h) (Or.inl ⟨by rfl, ?_⟩) hHeld ?_
  · intro v hSv
    clear hHeld
    go_simp
  try simp only [Act.put, List.setIfInBounds_toArray, List.set_cons_zero, List.set_cons_succ]
  refine wpAnyH_take (i := 13) (v := .int .i64 m.h.t) (at_list rfl) (by kernel_rfl) (by kernel_rfl) (by kernel_rfl) (fun _ _ _ h => h) (Or.inl ⟨by rfl, ?_⟩) hHeld ?_
  · intro v hSv
    clear hHeld
    have q := hSv.2.2.1.reads (i := 0) (x := .int .i64 m.h.t) rfl
    clear hSv
    go_simp
  try simp only [Act.put, List.setIfInBounds_toArray, List.set_cons_zero, List.set_cons_succ]
  refine wpAnyH_ready (rs := [14]) (by kernel_rfl) (by simp) ?_
  refine AllReadyH.cons (at_list rfl) (fun K hK => ?_) AllReadyH.nil
  go_simp
  refine (flong m.h.t _ hHeld.2.1).mono ?_
  rintro e v5 ⟨rfl, hv5⟩
  go_wp2_with fail
  refine hK.out _ _ ?_ (fun hHeld2 => ?_)
  · exact ⟨bstep hHeld.1 hv5, hHeld.2.1.keptB hv5, hHeld.2.2.1.keptB hv5, hHeld.2.2.2.1.keptB hv5, hHeld.2.2.2.2.1.keptB hv5, trivial⟩
  clear hK K hHeld
  have hHeld := hHeld2
  clear hHeld2 hv5
  try simp only [Act.put, List.setIfInBounds_toArray, List.set_cons_zero, List.set_cons_succ]
  refine wpAnyH_take (i := 15) (v := .bool false) (at_list rfl) (by kernel_rfl) (by kernel_rfl) (by kernel_rfl) (fun _ _ _ h => h) (Or.inl ⟨by rfl, ?_⟩) hHeld ?_
  · intro v hSv
    clear hHeld
    clear hSv
    have q := HNL.out
    rw [← q]
    go_simp
  try simp only [Act.put, List.setIfInBounds_toArray, List.set_cons_zero, List.set_cons_succ]
  refine wpAnyH_take (i := 16) (v := .bool false) (at_list rfl) (by kernel_rfl) (by kernel_rfl) (by kernel_rfl) (fun _ _ _ h => h) (Or.inl ⟨by rfl, ?_⟩) hHeld ?_
  · intro v hSv
    clear hHeld
    go_simp
  try simp only [Act.put, List.setIfInBounds_toArray, List.set_cons_zero, List.set_cons_succ]
  refine wpAnyH_done (by kernel_rfl) ?_ _
  have HB := Lib.hid hHeld.1
  have LN := Lib.hid hHeld.2.1
  have K1 := Lib.hid hHeld.2.2.1
  have BX := Lib.hid hHeld.2.2.2.1
  have K7 := Lib.hid hHeld.2.2.2.2.1
  clear hHeld
  go_wp2_with fail
  refine ((C7.out) _ HB.out LN.out).mono ?_
  rintro e c6 ⟨rfl, hc6⟩
  replace LN := Lib.hid ((LN.out).keptB hc6)
  replace K1 := Lib.hid ((K1.out).keptB hc6)
  replace BX := Lib.hid ((BX.out).keptB hc6)
  replace K7 := Lib.hid ((K7.out).keptB hc6)
  replace HB := Lib.hid (bstep HB.out hc6)
  clear hc6
  go_wp2_with (first | (refine big_fill rfl 42 _ _ rfl gK9 (msA zeroM) rfl rfl K9.out (by kernel_rfl) (by kernel_rfl) (by kernel_rfl) ?_; intro vK9 nK9 tK9; have hbK9 := btouch AK9.out tK9 LK9.out; replace LN := Lib.hid ((LN.out).keptB hbK9); replace K1 := Lib.hid ((K1.out).keptB hbK9); replace BX := Lib.hid ((BX.out).keptB hbK9); replace K7 := Lib.hid ((K7.out).keptB hbK9); replace HB := Lib.hid (bstep HB.out hbK9); replace K9 := Lib.hid nK9; clear nK9 tK9 hbK9 AK9 LK9) | (refine big_alloc rfl 42 rfl (msA zeroM) (by kernel_rfl) ?_; intro gK9 wK9 hlK9 nK9 hbK9; have K9 := Lib.hid nK9; have AK9 := Lib.hid hbK9; have LK9 := Lib.hid hlK9; clear hlK9 nK9 hbK9))
  refine (alive6_any _ LN.out).mono ?_
  rintro e c7 ⟨rfl, hc7⟩
  replace LN := Lib.hid ((LN.out).keptB hc7)
  replace K1 := Lib.hid ((K1.out).keptB hc7)
  replace BX := Lib.hid ((BX.out).keptB hc7)
  replace K7 := Lib.hid ((K7.out).keptB hc7)
  replace K9 := Lib.hid ((K9.out).keptB hc7)
  replace HB := Lib.hid (bstep HB.out hc7)
  clear hc7
  go_wp2_with (first | (refine big_cmp rfl .eql 42 _ _ _ rfl (msA zeroM) (msA zeroM) rfl rfl (by kernel_rfl) true (fun v => (eql_msg zeroM zeroM v).trans (by rw [eqM_self])) ?_) | (refine big_build rfl 42 _ rfl (msA zeroM) (by kernel_rfl) ?_) | (refine big_whole rfl 42 _ rfl gK9 rfl K9.out Tryd.underlying42 rfl (by kernel_rfl) ?_))
  go_ret
  exact ⟨rfl, HB.out⟩
set_option maxHeartbeats 4000000 in
theorem back6_yg (m : Ms) (fm0 : -9223372036854775808 ≤ m.h.f) (fm1 : m.h.f ≤ 9223372036854775807) (cm0 : -9223372036854775808 ≤ m.h.c) (cm1 : m.h.c ≤ 9223372036854775807) (om1 : m.h.p.c.ok) (om2 : m.ak.c.ok) (om3 : m.gr.ok) (A : Option Addr) (L C : Nat) (n : Int) (G : Ms) (w : World) (hl : Lens w) (hr : m.right = true) (hC7 : ∀ v, Below w.heap.size w v → Lens v → Calls Tryd.prog 17 #[.slice A L C] v fun e w' => e = .returned (.tuple #[.agg (msA G), .int .i64 n]) ∧ Below v.heap.size v w') (hn : n = 0) (hGr : G.right = true) (hGf : -9223372036854775808 ≤ G.h.f ∧ G.h.f ≤ 9223372036854775807) (hGa : ∃ a, A = some a ∧ BytesAt w a (encM G) ∧ (encM G).length = L) :
    Calls Tryd.prog 5 #[.agg (msA m), .slice A L C] w fun e w' => e = .returned (.bool true) ∧ Below w.heap.size w w' := by
  have HB := Lib.hid (Below.refl w.heap.size w)
  have LN := Lib.hid hl
  have HMR := Lib.hid hr
  have C7 := Lib.hid hC7
  have HMB := Lib.hid (encM_byte hr om1 om2 om3)
  obtain ⟨zs, hzs⟩ : ∃ zs, encM m = zs := ⟨_, rfl⟩
  obtain ⟨N, hN⟩ : ∃ N, zs.length = N := ⟨_, rfl⟩
  have HME := Lib.hid hzs
  have HMN := Lib.hid hN
  have hNl : (N : Int) = longN m.h.t := by rw [← hN, ← hzs]; exact encM_length (Hd.right_iff.1 (Ms.right_iff.1 hr).1).1
  have HNL := Lib.hid hNl
  clear hzs hN hNl
  clear hl hr hC7
  subst hn
  have HGR := Lib.hid hGr
  obtain ⟨a, rfl, hga, hgl⟩ := hGa
  obtain ⟨ys, hys⟩ : ∃ ys, encM G = ys := ⟨_, rfl⟩
  rw [hys] at hga hgl
  have HGE := Lib.hid hys
  have HGL := Lib.hid hgl
  have BZ := Lib.hid hga
  obtain ⟨S, hS⟩ : ∃ S, strOfNums ys = S := ⟨_, rfl⟩
  have HS := Lib.hid hS
  obtain ⟨fG0, fG1⟩ := hGf
  clear hGr hys hga hgl hS
  go_enter Tryd.func5, Tryd.ntmps5
  go_wp2_with (first | (refine big_whole rfl 35 _ rfl gK1 rfl K1.out Tryd.underlying35 rfl (by kernel_rfl) ?_) | (refine big_box rfl 35 _ rfl (msA m) rfl (by kernel_rfl) ?_; intro gK1 wK1 hlK1 nK1 hbK1; replace LN := Lib.hid ((LN.out).keptB hbK1); replace BZ := Lib.hid ((BZ.out).keptB hbK1); replace HB := Lib.hid (bstep HB.out hbK1); have K1 := Lib.hid nK1; clear hlK1 nK1 hbK1))
  refine (own6_any m _).mono ?_
  rintro e c1 ⟨rfl, hc1⟩
  replace LN := Lib.hid ((LN.out).keptB hc1)
  replace BZ := Lib.hid ((BZ.out).keptB hc1)
  replace K1 := Lib.hid ((K1.out).keptB hc1)
  replace HB := Lib.hid (bstep HB.out hc1)
  clear hc1
  go_wp2_with fail
  refine (enc6_yes m _ LN.out fm0 fm1 HMR.out zs HME.out N HMN.out).mono ?_
  rintro e c2 ⟨gX, capX, -, rfl, nBX, hc0, hc1, hc2⟩
  replace LN := Lib.hid ((LN.out).keptB hc2)
  replace BZ := Lib.hid ((BZ.out).keptB hc2)
  replace K1 := Lib.hid ((K1.out).keptB hc2)
  replace HB := Lib.hid (bstep HB.out hc2)
  have BX := Lib.hid nBX
  clear nBX
  clear hc2
  have CX : Hid (N ≤ capX ∧ capX ≤ maxLen) := ⟨hc0, hc1⟩
  clear hc0 hc1
  go_wp2_with fail
  refine (dec6_own m _ LN.out HMR.out cm0 cm1 HMB.out zs HME.out N HMN.out gX capX CX.out.1 CX.out.2 BX.out).mono ?_
  rintro e c3 ⟨rfl, hc3⟩
  replace LN := Lib.hid ((LN.out).keptB hc3)
  replace BZ := Lib.hid ((BZ.out).keptB hc3)
  replace K1 := Lib.hid ((K1.out).keptB hc3)
  replace BX := Lib.hid ((BX.out).keptB hc3)
  replace HB := Lib.hid (bstep HB.out hc3)
  clear hc3
  go_upto_region 4 with (first | (refine big_fill rfl 42 _ _ rfl gK7 (msA m) rfl rfl K7.out (by kernel_rfl) (by kernel_rfl) (by kernel_rfl) ?_; intro vK7 nK7 tK7; have hbK7 := btouch AK7.out tK7 LK7.out; replace LN := Lib.hid ((LN.out).keptB hbK7); replace BZ := Lib.hid ((BZ.out).keptB hbK7); replace K1 := Lib.hid ((K1.out).keptB hbK7); replace BX := Lib.hid ((BX.out).keptB hbK7); replace HB := Lib.hid (bstep HB.out hbK7); replace K7 := Lib.hid nK7; clear nK7 tK7 hbK7 AK7 LK7) | (refine big_alloc rfl 42 rfl (msA zeroM) (by kernel_rfl) ?_; intro gK7 wK7 hlK7 nK7 hbK7; have K7 := Lib.hid nK7; have AK7 := Lib.hid hbK7; have LK7 := Lib.hid hlK7; clear hlK7 nK7 hbK7))
  refine wp_region_held_drew (S := fun v => Below w.heap.size w v ∧ Lens v ∧ BytesAt v a ys ∧ Holds v gK1 35 (msA m) ∧ BytesAt v ⟨gX, 0, none⟩ zs ∧ Holds v gK7 42 (msA m) ∧ True) (by kernel_rfl) ?_ (fun hHeld => ?_)
  · exact ⟨bdrew HB.out, (LN.out).drew, (BZ.out).drew, (K1.out).drew, (BX.out).drew, (K7.out).drew, trivial⟩
  clear HB LN BZ K1 BX K7
  refine wpAnyH_take (i := 0) (v := .int .i64 0) (at_list rfl) (by kernel_rfl) (by kernel_rfl) (by kernel_rfl) (fun _ _ _ h => h) (Or.inl ⟨by rfl, ?_⟩) hHeld ?_
  · intro v hSv
    clear hHeld
    go_simp
  try simp only [Act.put, List.setIfInBounds_toArray, List.set_cons_zero, List.set_cons_succ]
  refine wpAnyH_take (i := 1) (v := .bool false) (at_list rfl) (by kernel_rfl) (by kernel_rfl) (by kernel_rfl) (fun _ _ _ h => h) (Or.inl ⟨by rfl, ?_⟩) hHeld ?_
  · intro v hSv
    clear hHeld
    go_simp
  try simp only [Act.put, List.setIfInBounds_toArray, List.set_cons_zero, List.set_cons_succ]
  refine wpAnyH_take (i := 2) (v := .bool false) (at_list rfl) (by kernel_rfl) (by kernel_rfl) (by kernel_rfl) (fun _ _ _ h => h) (Or.inl ⟨by rfl, ?_⟩) hHeld ?_
  · intro v hSv
    clear hHeld
    go_simp
  try simp only [Act.put, List.setIfInBounds_toArray, List.set_cons_zero, List.set_cons_succ]
  refine wpAnyH_take (i := 3) (v := .agg (msA m)) (at_list rfl) (by kernel_rfl) (by kernel_rfl) (by kernel_rfl) (fun _ _ _ h => h) (yields_whole (by rfl) 42 _ rfl gK7 rfl (fun v hv => hv.2.2.2.2.2.1) Tryd.underlying42 rfl (by kernel_rfl)) hHeld ?_
  try simp only [Act.put, List.setIfInBounds_toArray, List.set_cons_zero, List.set_cons_succ]
  refine wpAnyH_take (i := 5) (v := .agg (msA m)) (at_list rfl) (by kernel_rfl) (by kernel_rfl) (by kernel_rfl) (fun _ _ _ h => h) (yields_whole (by rfl) 35 _ rfl gK1 rfl (fun v hv => hv.2.2.2.1) Tryd.underlying35 rfl (by kernel_rfl)) hHeld ?_
  try simp only [Act.put, List.setIfInBounds_toArray, List.set_cons_zero, List.set_cons_succ]
  refine wpAnyH_ready (rs := [4]) (by kernel_rfl) (by simp) ?_
  refine AllReadyH.cons (at_list rfl) (fun K hK => ?_) AllReadyH.nil
  go_simp
  refine (plain6_any m _).mono ?_
  rintro e v4 ⟨rfl, hv4⟩
  go_wp2_with fail
  refine hK.out _ _ ?_ (fun hHeld2 => ?_)
  · exact ⟨bstep hHeld.1 hv4, hHeld.2.1.keptB hv4, hHeld.2.2.1.keptB hv4, hHeld.2.2.2.1.keptB hv4, hHeld.2.2.2.2.1.keptB hv4, hHeld.2.2.2.2.2.1.keptB hv4, trivial⟩
  clear hK K hHeld
  have hHeld := hHeld2
  clear hHeld2 hv4
  try simp only [Act.put, List.setIfInBounds_toArray, List.set_cons_zero, List.set_cons_succ]
  refine wpAnyH_take (i := 6) (v := .bool false) (at_list rfl) (by kernel_rfl) (by kernel_rfl) (by kernel_rfl) (fun _ _ _ h => h) (yields_cmp (by rfl) .neq 35 _ _ _ rfl (msA m) (msA m) rfl rfl (by kernel_rfl) false (fun v => (neq_rmsg m m v).trans (by rw [eqM_self]; rfl))) hHeld ?_
  try simp only [Act.put, List.setIfInBounds_toArray, List.set_cons_zero, List.set_cons_succ]
  refine wpAnyH_take (i := 7) (v := .bool false) (at_list rfl) (by kernel_rfl) (by kernel_rfl) (by kernel_rfl) (fun _ _ _ h => h) (Or.inl ⟨by rfl, ?_⟩) hHeld ?_
  · intro v hSv
    clear hHeld
    go_simp
  try simp only [Act.put, List.setIfInBounds_toArray, List.set_cons_zero, List.set_cons_succ]
  refine wpAnyH_take (i := 8) (v := .bool false) (at_list rfl) (by kernel_rfl) (by kernel_rfl) (by kernel_rfl) (fun _ _ _ h => h) (Or.inl ⟨by rfl, ?_⟩) hHeld ?_
  · intro v hSv
    clear hHeld
    go_simp
  try simp only [Act.put, List.setIfInBounds_toArray, List.set_cons_zero, List.set_cons_succ]
  refine wpAnyH_take (i := 9) (v := .slice (some ⟨gX, 0, none⟩) N capX) (at_list rfl) (by kernel_rfl) (by kernel_rfl) (by kernel_rfl) (fun _ _ _ h => h) (Or.inl ⟨by rfl, ?_⟩) hHeld ?_
  · intro v hSv
    clear hHeld
    go_simp
  try simp only [Act.put, List.setIfInBounds_toArray, List.set_cons_zero, List.set_cons_succ]
  refine wpAnyH_take (i := 10) (v := .int .i64 N) (at_list rfl) (by kernel_rfl) (by kernel_rfl) (by kernel_rfl) (fun _ _ _ h => h) (Or.inl ⟨by rfl, ?_⟩) hHeld ?_
  · intro v hSv
    clear hHeld
    go_simp
  try simp only [Act.put, List.setIfInBounds_toArray, List.set_cons_zero, List.set_cons_succ]
  refine wpAnyH_take (i := 11) (v := .pointer (some ⟨gK1, 0, none⟩)) (at_list rfl) (by kernel_rfl) (by kernel_rfl) (by kernel_rfl) (fun _ _ _ h => h) (Or.inl ⟨by rfl, ?_⟩) hHeld ?_
  · intro v hSv
    clear hHeld
    go_simp
  try simp only [Act.put, List.setIfInBounds_toArray, List.set_cons_zero, List.set_cons_succ]
  refine wpAnyH_take (i := 12) (v := .pointer (some ⟨gK1, 0, none⟩)) (at_list rfl) (by kernel_rfl) (by kernel_rfl) (by kernel_rfl) (fun _ _ _ h => h) (Or.inl ⟨by rfl, ?_⟩) hHeld ?_
  · intro v hSv
    clear hHeld
    go_simp
  try simp only [Act.put, List.setIfInBounds_toArray, List.set_cons_zero, List.set_cons_succ]
  refine wpAnyH_take (i := 13) (v := .int .i64 m.h.t) (at_list rfl) (by kernel_rfl) (by kernel_rfl) (by kernel_rfl) (fun _ _ _ h => h) (Or.inl ⟨by rfl, ?_⟩) hHeld ?_
  · intro v hSv
    clear hHeld
    have q := hSv.2.2.2.1.reads (i := 0) (x := .int .i64 m.h.t) rfl
    clear hSv
    go_simp
  try simp only [Act.put, List.setIfInBounds_toArray, List.set_cons_zero, List.set_cons_succ]
  refine wpAnyH_ready (rs := [14]) (by kernel_rfl) (by simp) ?_
  refine AllReadyH.cons (at_list rfl) (fun K hK => ?_) AllReadyH.nil
  go_simp
  refine (flong m.h.t _ hHeld.2.1).mono ?_
  rintro e v5 ⟨rfl, hv5⟩
  go_wp2_with fail
  refine hK.out _ _ ?_ (fun hHeld2 => ?_)
  · exact ⟨bstep hHeld.1 hv5, hHeld.2.1.keptB hv5, hHeld.2.2.1.keptB hv5, hHeld.2.2.2.1.keptB hv5, hHeld.2.2.2.2.1.keptB hv5, hHeld.2.2.2.2.2.1.keptB hv5, trivial⟩
  clear hK K hHeld
  have hHeld := hHeld2
  clear hHeld2 hv5
  try simp only [Act.put, List.setIfInBounds_toArray, List.set_cons_zero, List.set_cons_succ]
  refine wpAnyH_take (i := 15) (v := .bool false) (at_list rfl) (by kernel_rfl) (by kernel_rfl) (by kernel_rfl) (fun _ _ _ h => h) (Or.inl ⟨by rfl, ?_⟩) hHeld ?_
  · intro v hSv
    clear hHeld
    clear hSv
    have q := HNL.out
    rw [← q]
    go_simp
  try simp only [Act.put, List.setIfInBounds_toArray, List.set_cons_zero, List.set_cons_succ]
  refine wpAnyH_take (i := 16) (v := .bool false) (at_list rfl) (by kernel_rfl) (by kernel_rfl) (by kernel_rfl) (fun _ _ _ h => h) (Or.inl ⟨by rfl, ?_⟩) hHeld ?_
  · intro v hSv
    clear hHeld
    go_simp
  try simp only [Act.put, List.setIfInBounds_toArray, List.set_cons_zero, List.set_cons_succ]
  refine wpAnyH_done (by kernel_rfl) ?_ _
  have HB := Lib.hid hHeld.1
  have LN := Lib.hid hHeld.2.1
  have BZ := Lib.hid hHeld.2.2.1
  have K1 := Lib.hid hHeld.2.2.2.1
  have BX := Lib.hid hHeld.2.2.2.2.1
  have K7 := Lib.hid hHeld.2.2.2.2.2.1
  clear hHeld
  go_wp2_with fail
  refine ((C7.out) _ HB.out LN.out).mono ?_
  rintro e c6 ⟨rfl, hc6⟩
  replace LN := Lib.hid ((LN.out).keptB hc6)
  replace BZ := Lib.hid ((BZ.out).keptB hc6)
  replace K1 := Lib.hid ((K1.out).keptB hc6)
  replace BX := Lib.hid ((BX.out).keptB hc6)
  replace K7 := Lib.hid ((K7.out).keptB hc6)
  replace HB := Lib.hid (bstep HB.out hc6)
  clear hc6
  go_wp2_with (first | (refine big_whole rfl 42 _ rfl gK9 rfl K9.out Tryd.underlying42 rfl (by kernel_rfl) ?_) | (refine big_fill rfl 42 _ _ rfl gK9 (msA G) rfl rfl K9.out (by kernel_rfl) (by kernel_rfl) (by kernel_rfl) ?_; intro vK9 nK9 tK9; have hbK9 := btouch AK9.out tK9 LK9.out; replace LN := Lib.hid ((LN.out).keptB hbK9); replace BZ := Lib.hid ((BZ.out).keptB hbK9); replace K1 := Lib.hid ((K1.out).keptB hbK9); replace BX := Lib.hid ((BX.out).keptB hbK9); replace K7 := Lib.hid ((K7.out).keptB hbK9); replace HB := Lib.hid (bstep HB.out hbK9); replace K9 := Lib.hid nK9; clear nK9 tK9 hbK9 AK9 LK9) | (refine big_alloc rfl 42 rfl (msA zeroM) (by kernel_rfl) ?_; intro gK9 wK9 hlK9 nK9 hbK9; have K9 := Lib.hid nK9; have AK9 := Lib.hid hbK9; have LK9 := Lib.hid hlK9; clear hlK9 nK9 hbK9))
  refine (enc6_yes G _ LN.out fG0 fG1 HGR.out ys HGE.out L HGL.out).mono ?_
  rintro e c7 ⟨gD, capD, -, rfl, nBD, -, -, hc7⟩
  replace LN := Lib.hid ((LN.out).keptB hc7)
  replace BZ := Lib.hid ((BZ.out).keptB hc7)
  replace K1 := Lib.hid ((K1.out).keptB hc7)
  replace BX := Lib.hid ((BX.out).keptB hc7)
  replace K7 := Lib.hid ((K7.out).keptB hc7)
  replace K9 := Lib.hid ((K9.out).keptB hc7)
  replace HB := Lib.hid (bstep HB.out hc7)
  have BD := Lib.hid nBD
  clear nBD
  clear hc7
  go_wp2_with fail
  refine (alive6_any _ LN.out).mono ?_
  rintro e c8 ⟨rfl, hc8⟩
  replace LN := Lib.hid ((LN.out).keptB hc8)
  replace BZ := Lib.hid ((BZ.out).keptB hc8)
  replace K1 := Lib.hid ((K1.out).keptB hc8)
  replace BX := Lib.hid ((BX.out).keptB hc8)
  replace K7 := Lib.hid ((K7.out).keptB hc8)
  replace K9 := Lib.hid ((K9.out).keptB hc8)
  replace BD := Lib.hid ((BD.out).keptB hc8)
  replace HB := Lib.hid (bstep HB.out hc8)
  clear hc8
  have q1 := conv_at _ ⟨gD, 0, none⟩ L capD ys HGL.out BD.out
  have q2 := conv_at _ a L C ys HGL.out BZ.out
  rw [HS.out] at q1 q2
  go_wp2_with ((refine big_whole rfl 42 _ rfl gK9 rfl K9.out Tryd.underlying42 rfl (by kernel_rfl) ?_))
  refine (fright_any G _ LN.out fG0 fG1).mono ?_
  rintro e c9 ⟨rfl, hc9⟩
  rw [HGR.out]
  clear q1 q2
  replace LN := Lib.hid ((LN.out).keptB hc9)
  replace BZ := Lib.hid ((BZ.out).keptB hc9)
  replace K1 := Lib.hid ((K1.out).keptB hc9)
  replace BX := Lib.hid ((BX.out).keptB hc9)
  replace K7 := Lib.hid ((K7.out).keptB hc9)
  replace K9 := Lib.hid ((K9.out).keptB hc9)
  replace BD := Lib.hid ((BD.out).keptB hc9)
  replace HB := Lib.hid (bstep HB.out hc9)
  clear hc9
  go_wp2
  go_ret
  exact ⟨rfl, HB.out⟩
theorem back6_walk (m : Ms) (fm0 : -9223372036854775808 ≤ m.h.f) (fm1 : m.h.f ≤ 9223372036854775807) (cm0 : -9223372036854775808 ≤ m.h.c) (cm1 : m.h.c ≤ 9223372036854775807) (om1 : m.h.p.c.ok) (om2 : m.ak.c.ok) (om3 : m.gr.ok) (A : Option Addr) (L C : Nat) (zs : List Int) (w : World) (hs : sliceOk .u8 w A L C zs) (hl : Lens w) :
    Calls Tryd.prog 5 #[.agg (msA m), .slice A L C] w fun e w' => e = .returned (.bool true) ∧ Below w.heap.size w w' := by
  obtain ⟨n, G, hC7, hG⟩ := decM_slice A L C zs w hs
  rcases hG with ⟨hn, hz⟩ | ⟨hn, h1, h2, h3⟩
  · cases hr : m.right
    · exact back6_nb m fm0 fm1 cm0 cm1 om1 om2 om3 A L C n G w hl hr hC7 hn hz
    · exact back6_yb m fm0 fm1 cm0 cm1 om1 om2 om3 A L C n G w hl hr hC7 hn hz
  · cases hr : m.right
    · exact back6_ng m fm0 fm1 cm0 cm1 om1 om2 om3 A L C n G w hl hr hC7 hn h1 h2 h3
    · exact back6_yg m fm0 fm1 cm0 cm1 om1 om2 om3 A L C n G w hl hr hC7 hn h1 h2 h3

end Go.Proofs.YtnmpfemmeblnlaaDoor
