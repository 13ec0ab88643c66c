/- The walk over the law HeadBack. -/
import Derived.Test.YtfjbghenlchphaaDoorHeadWords2
import Derived.Test.YtfjbghenlchphaaDoorByHand
namespace Go.Proofs.YtfjbghenlchphaaDoor
open Go.RowKit
set_option linter.unusedVariables false

set_option maxRecDepth 100000 in
set_option maxHeartbeats 4000000 in
theorem back5_nn (h : Hd) (hok : h.p.c.ok) (hf : In64 h.f) (hc : In64 h.c) (A : Option Addr) (L C : Nat) (q : Int) (w : World) (hl : Lens w) (hq : q ≠ 0) (hR : h.right = false) (hG : ∀ v, Below w.heap.size w v → Lens v → Calls Tryd.prog 17 #[.slice A L C] v fun e w' => e = .returned (.tuple #[.agg #[.int .i64 0, .int .i64 0, .int .i64 0, .int .i64 0, .int .u8 0, .int .u8 0, .int .u8 0, .int .u8 0, .int .u8 0, .int .u8 0, .int .u8 0, .int .u8 0, .int .i64 0, .int .i64 0, .int .i64 0], .int .i64 q]) ∧ Below v.heap.size v w') :
    Calls Tryd.prog 5 #[.agg #[.int .i64 h.t, .int .i64 h.d, .int .i64 h.f, .int .i64 h.c, .int .u8 h.p.c.b0, .int .u8 h.p.c.b1, .int .u8 h.p.c.b2, .int .u8 h.p.c.b3, .int .u8 h.p.c.b4, .int .u8 h.p.c.b5, .int .u8 h.p.c.b6, .int .u8 h.p.c.b7, .int .i64 h.p.n, .int .i64 h.s, .int .i64 h.l], .slice A L C] w fun e w' => e = .returned (.bool true) ∧ Below w.heap.size w w' := by
  have GD := Lib.hid hG
  have HL := Lib.hid hl
  clear hG hl
  have dq : (q == 0) = false := by simpa using hq
  clear hq
  have C0 := Lib.hid (fun v (hv : Lens v) => encode_no h v hv hf.1 hf.2 hR)
  clear hok hf hc hR
  replace HL := Lib.hid ((HL.out).laid (.cells #[.int .i64 h.t, .int .i64 h.d, .int .i64 h.f, .int .i64 h.c, .int .u8 h.p.c.b0, .int .u8 h.p.c.b1, .int .u8 h.p.c.b2, .int .u8 h.p.c.b3, .int .u8 h.p.c.b4, .int .u8 h.p.c.b5, .int .u8 h.p.c.b6, .int .u8 h.p.c.b7, .int .i64 h.p.n, .int .i64 h.s, .int .i64 h.l] 27))
  have KH := Lib.hid (Holds.fresh w 27 #[.int .i64 h.t, .int .i64 h.d, .int .i64 h.f, .int .i64 h.c, .int .u8 h.p.c.b0, .int .u8 h.p.c.b1, .int .u8 h.p.c.b2, .int .u8 h.p.c.b3, .int .u8 h.p.c.b4, .int .u8 h.p.c.b5, .int .u8 h.p.c.b6, .int .u8 h.p.c.b7, .int .i64 h.p.n, .int .i64 h.s, .int .i64 h.l] (g := w.heap.size) (by simp))
  have HB := Lib.hid (bnew w (.cells #[.int .i64 h.t, .int .i64 h.d, .int .i64 h.f, .int .i64 h.c, .int .u8 h.p.c.b0, .int .u8 h.p.c.b1, .int .u8 h.p.c.b2, .int .u8 h.p.c.b3, .int .u8 h.p.c.b4, .int .u8 h.p.c.b5, .int .u8 h.p.c.b6, .int .u8 h.p.c.b7, .int .i64 h.p.n, .int .i64 h.s, .int .i64 h.l] 27))
  go_enter Tryd.func5, Tryd.ntmps5
  go_wp2_with fail
  generalize (w.alloc (.cells #[.int .i64 h.t, .int .i64 h.d, .int .i64 h.f, .int .i64 h.c, .int .u8 h.p.c.b0, .int .u8 h.p.c.b1, .int .u8 h.p.c.b2, .int .u8 h.p.c.b3, .int .u8 h.p.c.b4, .int .u8 h.p.c.b5, .int .u8 h.p.c.b6, .int .u8 h.p.c.b7, .int .i64 h.p.n, .int .i64 h.s, .int .i64 h.l] 27)) = W0 at *
  have x1_0 := (KH.out).reads (i := 0) rfl
  have x1_1 := (KH.out).reads (i := 1) rfl
  have x1_2 := (KH.out).reads (i := 2) rfl
  have x1_3 := (KH.out).reads (i := 3) rfl
  have x1_4 := (KH.out).reads (i := 4) rfl
  have x1_5 := (KH.out).reads (i := 5) rfl
  have x1_6 := (KH.out).reads (i := 6) rfl
  have x1_7 := (KH.out).reads (i := 7) rfl
  have x1_8 := (KH.out).reads (i := 8) rfl
  have x1_9 := (KH.out).reads (i := 9) rfl
  have x1_10 := (KH.out).reads (i := 10) rfl
  have x1_11 := (KH.out).reads (i := 11) rfl
  have x1_12 := (KH.out).reads (i := 12) rfl
  have x1_13 := (KH.out).reads (i := 13) rfl
  have x1_14 := (KH.out).reads (i := 14) rfl
  refine (C0.out _ HL.out).mono ?_
  rintro e w2 ⟨rfl, hw2⟩
  clear x1_0 x1_1 x1_2 x1_3 x1_4 x1_5 x1_6 x1_7 x1_8 x1_9 x1_10 x1_11 x1_12 x1_13 x1_14
  replace HL := Lib.hid ((HL.out).keptB hw2)
  replace KH := Lib.hid ((KH.out).keptB hw2)
  replace HB := Lib.hid (bstep HB.out hw2)
  clear hw2
  go_wp2_with fail
  refine (GD.out _ HB.out HL.out).mono ?_
  rintro e w3 ⟨rfl, hw3⟩
  replace HL := Lib.hid ((HL.out).keptB hw3)
  replace KH := Lib.hid ((KH.out).keptB hw3)
  replace HB := Lib.hid (bstep HB.out hw3)
  clear hw3
  have hz := zero_eq
  replace HL := Lib.hid ((HL.out).laid (.cells #[.int .i64 0, .int .i64 0, .int .i64 0, .int .i64 0, .int .u8 0, .int .u8 0, .int .u8 0, .int .u8 0, .int .u8 0, .int .u8 0, .int .u8 0, .int .u8 0, .int .i64 0, .int .i64 0, .int .i64 0] 31))
  replace KH := Lib.hid ((KH.out).laid (.cells #[.int .i64 0, .int .i64 0, .int .i64 0, .int .i64 0, .int .u8 0, .int .u8 0, .int .u8 0, .int .u8 0, .int .u8 0, .int .u8 0, .int .u8 0, .int .u8 0, .int .i64 0, .int .i64 0, .int .i64 0] 31))
  have KD := Lib.hid (Holds.fresh w3 31 #[.int .i64 0, .int .i64 0, .int .i64 0, .int .i64 0, .int .u8 0, .int .u8 0, .int .u8 0, .int .u8 0, .int .u8 0, .int .u8 0, .int .u8 0, .int .u8 0, .int .i64 0, .int .i64 0, .int .i64 0] (g := (w3).heap.size) rfl)
  replace HB := Lib.hid (bstep HB.out (bnew _ (.cells #[.int .i64 0, .int .i64 0, .int .i64 0, .int .i64 0, .int .u8 0, .int .u8 0, .int .u8 0, .int .u8 0, .int .u8 0, .int .u8 0, .int .u8 0, .int .u8 0, .int .i64 0, .int .i64 0, .int .i64 0] 31)))
  go_wp2_with fail
  refine (alive5_any _ HL.out).mono ?_
  rintro e w4 ⟨rfl, hw4⟩
  replace HL := Lib.hid ((HL.out).keptB hw4)
  replace KH := Lib.hid ((KH.out).keptB hw4)
  replace KD := Lib.hid ((KD.out).keptB hw4)
  replace HB := Lib.hid (bstep HB.out hw4)
  clear hw4
  have x5_0 := (KD.out).reads (i := 0) rfl
  have x5_1 := (KD.out).reads (i := 1) rfl
  have x5_2 := (KD.out).reads (i := 2) rfl
  have x5_3 := (KD.out).reads (i := 3) rfl
  have x5_4 := (KD.out).reads (i := 4) rfl
  have x5_5 := (KD.out).reads (i := 5) rfl
  have x5_6 := (KD.out).reads (i := 6) rfl
  have x5_7 := (KD.out).reads (i := 7) rfl
  have x5_8 := (KD.out).reads (i := 8) rfl
  have x5_9 := (KD.out).reads (i := 9) rfl
  have x5_10 := (KD.out).reads (i := 10) rfl
  have x5_11 := (KD.out).reads (i := 11) rfl
  have x5_12 := (KD.out).reads (i := 12) rfl
  have x5_13 := (KD.out).reads (i := 13) rfl
  have x5_14 := (KD.out).reads (i := 14) rfl
  go_wp2
  go_ret
  exact ⟨rfl, HB.out⟩
set_option maxRecDepth 100000 in
set_option maxHeartbeats 4000000 in
theorem back5_ny (h : Hd) (hok : h.p.c.ok) (hf : In64 h.f) (hc : In64 h.c) (a : Addr) (L C : Nat) (G : Hd) (w : World) (hl : Lens w) (hGr : G.right = true) (l1 : 34 ≤ L) (l2 : L ≤ C) (l3 : C ≤ maxLen) (hz : BytesAt w a (encL G)) (hR : h.right = false) (hG : ∀ v, Below w.heap.size w v → Lens v → Calls Tryd.prog 17 #[.slice (some a) L C] v fun e w' => e = .returned (.tuple #[.agg #[.int .i64 G.t, .int .i64 G.d, .int .i64 G.f, .int .i64 G.c, .int .u8 G.p.c.b0, .int .u8 G.p.c.b1, .int .u8 G.p.c.b2, .int .u8 G.p.c.b3, .int .u8 G.p.c.b4, .int .u8 G.p.c.b5, .int .u8 G.p.c.b6, .int .u8 G.p.c.b7, .int .i64 G.p.n, .int .i64 G.s, .int .i64 G.l], .int .i64 0]) ∧ Below v.heap.size v w') :
    Calls Tryd.prog 5 #[.agg #[.int .i64 h.t, .int .i64 h.d, .int .i64 h.f, .int .i64 h.c, .int .u8 h.p.c.b0, .int .u8 h.p.c.b1, .int .u8 h.p.c.b2, .int .u8 h.p.c.b3, .int .u8 h.p.c.b4, .int .u8 h.p.c.b5, .int .u8 h.p.c.b6, .int .u8 h.p.c.b7, .int .i64 h.p.n, .int .i64 h.s, .int .i64 h.l], .slice (some a) L C] w fun e w' => e = .returned (.bool true) ∧ Below w.heap.size w w' := by
  have GD := Lib.hid hG
  have HL := Lib.hid hl
  clear hG hl
  have HZ := Lib.hid hz
  clear hz
  obtain ⟨S, HS⟩ : ∃ S, Hid (strOfNums (encL G) = S) := ⟨_, Lib.hid rfl⟩
  have EG := Lib.hid (fun v (hv : Lens v) => encode_yes G v hv hGr)
  clear hGr
  have V1 : Hid (∀ v g, Holds v g 5 (byteCells (encL G)) → (convert 28 9 (.slice (some ⟨g, 0, none⟩) 34 34)).run Tryd.prog v = .ok (.string S) v) := fun v g hh => by rw [← HS.out]; exact conv_whole v g 34 (encL G) (encL_length G) hh
  have V2 : Hid (∀ v, BytesAt v a (encL G) → (convert 28 9 (.slice (some a) 34 C)).run Tryd.prog v = .ok (.string S) v) := fun v hh => by rw [← HS.out]; exact conv_at v a 34 C (encL G) (encL_length G) hh
  have C0 := Lib.hid (fun v (hv : Lens v) => encode_no h v hv hf.1 hf.2 hR)
  clear hok hf hc hR
  replace HL := Lib.hid ((HL.out).laid (.cells #[.int .i64 h.t, .int .i64 h.d, .int .i64 h.f, .int .i64 h.c, .int .u8 h.p.c.b0, .int .u8 h.p.c.b1, .int .u8 h.p.c.b2, .int .u8 h.p.c.b3, .int .u8 h.p.c.b4, .int .u8 h.p.c.b5, .int .u8 h.p.c.b6, .int .u8 h.p.c.b7, .int .i64 h.p.n, .int .i64 h.s, .int .i64 h.l] 27))
  have KH := Lib.hid (Holds.fresh w 27 #[.int .i64 h.t, .int .i64 h.d, .int .i64 h.f, .int .i64 h.c, .int .u8 h.p.c.b0, .int .u8 h.p.c.b1, .int .u8 h.p.c.b2, .int .u8 h.p.c.b3, .int .u8 h.p.c.b4, .int .u8 h.p.c.b5, .int .u8 h.p.c.b6, .int .u8 h.p.c.b7, .int .i64 h.p.n, .int .i64 h.s, .int .i64 h.l] (g := w.heap.size) (by simp))
  have HB := Lib.hid (bnew w (.cells #[.int .i64 h.t, .int .i64 h.d, .int .i64 h.f, .int .i64 h.c, .int .u8 h.p.c.b0, .int .u8 h.p.c.b1, .int .u8 h.p.c.b2, .int .u8 h.p.c.b3, .int .u8 h.p.c.b4, .int .u8 h.p.c.b5, .int .u8 h.p.c.b6, .int .u8 h.p.c.b7, .int .i64 h.p.n, .int .i64 h.s, .int .i64 h.l] 27))
  go_enter Tryd.func5, Tryd.ntmps5
  go_wp2_with fail
  generalize (w.alloc (.cells #[.int .i64 h.t, .int .i64 h.d, .int .i64 h.f, .int .i64 h.c, .int .u8 h.p.c.b0, .int .u8 h.p.c.b1, .int .u8 h.p.c.b2, .int .u8 h.p.c.b3, .int .u8 h.p.c.b4, .int .u8 h.p.c.b5, .int .u8 h.p.c.b6, .int .u8 h.p.c.b7, .int .i64 h.p.n, .int .i64 h.s, .int .i64 h.l] 27)) = W0 at *
  have x1_0 := (KH.out).reads (i := 0) rfl
  have x1_1 := (KH.out).reads (i := 1) rfl
  have x1_2 := (KH.out).reads (i := 2) rfl
  have x1_3 := (KH.out).reads (i := 3) rfl
  have x1_4 := (KH.out).reads (i := 4) rfl
  have x1_5 := (KH.out).reads (i := 5) rfl
  have x1_6 := (KH.out).reads (i := 6) rfl
  have x1_7 := (KH.out).reads (i := 7) rfl
  have x1_8 := (KH.out).reads (i := 8) rfl
  have x1_9 := (KH.out).reads (i := 9) rfl
  have x1_10 := (KH.out).reads (i := 10) rfl
  have x1_11 := (KH.out).reads (i := 11) rfl
  have x1_12 := (KH.out).reads (i := 12) rfl
  have x1_13 := (KH.out).reads (i := 13) rfl
  have x1_14 := (KH.out).reads (i := 14) rfl
  refine (C0.out _ HL.out).mono ?_
  rintro e w2 ⟨rfl, hw2⟩
  clear x1_0 x1_1 x1_2 x1_3 x1_4 x1_5 x1_6 x1_7 x1_8 x1_9 x1_10 x1_11 x1_12 x1_13 x1_14
  replace HL := Lib.hid ((HL.out).keptB hw2)
  replace KH := Lib.hid ((KH.out).keptB hw2)
  replace HB := Lib.hid (bstep HB.out hw2)
  clear hw2
  go_wp2_with fail
  refine (GD.out _ HB.out HL.out).mono ?_
  rintro e w3 ⟨rfl, hw3⟩
  replace HL := Lib.hid ((HL.out).keptB hw3)
  replace KH := Lib.hid ((KH.out).keptB hw3)
  replace HB := Lib.hid (bstep HB.out hw3)
  clear hw3
  replace HL := Lib.hid ((HL.out).laid (.cells #[.int .i64 G.t, .int .i64 G.d, .int .i64 G.f, .int .i64 G.c, .int .u8 G.p.c.b0, .int .u8 G.p.c.b1, .int .u8 G.p.c.b2, .int .u8 G.p.c.b3, .int .u8 G.p.c.b4, .int .u8 G.p.c.b5, .int .u8 G.p.c.b6, .int .u8 G.p.c.b7, .int .i64 G.p.n, .int .i64 G.s, .int .i64 G.l] 31))
  replace KH := Lib.hid ((KH.out).laid (.cells #[.int .i64 G.t, .int .i64 G.d, .int .i64 G.f, .int .i64 G.c, .int .u8 G.p.c.b0, .int .u8 G.p.c.b1, .int .u8 G.p.c.b2, .int .u8 G.p.c.b3, .int .u8 G.p.c.b4, .int .u8 G.p.c.b5, .int .u8 G.p.c.b6, .int .u8 G.p.c.b7, .int .i64 G.p.n, .int .i64 G.s, .int .i64 G.l] 31))
  have KD := Lib.hid (Holds.fresh w3 31 #[.int .i64 G.t, .int .i64 G.d, .int .i64 G.f, .int .i64 G.c, .int .u8 G.p.c.b0, .int .u8 G.p.c.b1, .int .u8 G.p.c.b2, .int .u8 G.p.c.b3, .int .u8 G.p.c.b4, .int .u8 G.p.c.b5, .int .u8 G.p.c.b6, .int .u8 G.p.c.b7, .int .i64 G.p.n, .int .i64 G.s, .int .i64 G.l] (g := (w3).heap.size) rfl)
  replace HB := Lib.hid (bstep HB.out (bnew _ (.cells #[.int .i64 G.t, .int .i64 G.d, .int .i64 G.f, .int .i64 G.c, .int .u8 G.p.c.b0, .int .u8 G.p.c.b1, .int .u8 G.p.c.b2, .int .u8 G.p.c.b3, .int .u8 G.p.c.b4, .int .u8 G.p.c.b5, .int .u8 G.p.c.b6, .int .u8 G.p.c.b7, .int .i64 G.p.n, .int .i64 G.s, .int .i64 G.l] 31)))
  have x4_0 := (KD.out).reads (i := 0) rfl
  have x4_1 := (KD.out).reads (i := 1) rfl
  have x4_2 := (KD.out).reads (i := 2) rfl
  have x4_3 := (KD.out).reads (i := 3) rfl
  have x4_4 := (KD.out).reads (i := 4) rfl
  have x4_5 := (KD.out).reads (i := 5) rfl
  have x4_6 := (KD.out).reads (i := 6) rfl
  have x4_7 := (KD.out).reads (i := 7) rfl
  have x4_8 := (KD.out).reads (i := 8) rfl
  have x4_9 := (KD.out).reads (i := 9) rfl
  have x4_10 := (KD.out).reads (i := 10) rfl
  have x4_11 := (KD.out).reads (i := 11) rfl
  have x4_12 := (KD.out).reads (i := 12) rfl
  have x4_13 := (KD.out).reads (i := 13) rfl
  have x4_14 := (KD.out).reads (i := 14) rfl
  go_wp2_with fail
  refine (EG.out _ HL.out).mono ?_
  rintro e w5 ⟨g3, -, rfl, n_KE, hw5⟩
  clear x4_0 x4_1 x4_2 x4_3 x4_4 x4_5 x4_6 x4_7 x4_8 x4_9 x4_10 x4_11 x4_12 x4_13 x4_14
  replace HL := Lib.hid ((HL.out).keptB hw5)
  replace KH := Lib.hid ((KH.out).keptB hw5)
  replace KD := Lib.hid ((KD.out).keptB hw5)
  replace HB := Lib.hid (bstep HB.out hw5)
  have KE := Lib.hid (show Holds w5 g3 5 (byteCells (encL G)) from n_KE)
  clear n_KE
  clear hw5
  have KZ : Hid (BytesAt w5 a (encL G)) := fun i hi => keepc (HB.out) (HZ.out i hi)
  go_wp2_with fail
  refine wp_region_noPanic ?_
  refine wp_region_held_drew (S := fun v => Below w.heap.size w v ∧ Lens v ∧ Holds v g3 5 (byteCells (encL G)) ∧ BytesAt v a (encL G) ∧ True) (by kernel_rfl) ?_ (fun hHeld => ?_)
  · exact ⟨bdrew HB.out, (HL.out).drew, (KE.out).drew, (KZ.out).drew, trivial⟩
  refine wpAnyH_ready (rs := [0]) (by kernel_rfl) (by simp) ?_
  refine AllReadyH.cons (at_list rfl) (fun K hK => ?_) AllReadyH.nil
  go_simp
  refine (alive5_any _ hHeld.2.1).mono ?_
  rintro e v6 ⟨rfl, hv6⟩
  go_wp2_with fail
  refine hK.out _ _ ?_ (fun hHeld2 => ?_)
  · exact ⟨bstep hHeld.1 hv6, hHeld.2.1.keptB hv6, hHeld.2.2.1.keptB hv6, hHeld.2.2.2.1.keptB hv6, trivial⟩
  clear hK K hHeld
  have hHeld := hHeld2
  clear hHeld2 hv6
  try simp only [Act.put, List.setIfInBounds_toArray, List.set_cons_zero, List.set_cons_succ]
  refine wpAnyH_take (i := 1) (v := .bool true) (at_list rfl) (by kernel_rfl) (by kernel_rfl) (by kernel_rfl) (fun _ _ _ h => h) (Or.inl ⟨by rfl, ?_⟩) (by assumption) ?_
  · intro v hSv
    clear hHeld
    obtain ⟨qHB, qHL, qKE, qKZ, -⟩ := hSv
    clear qHB qHL qKE qKZ
    go_simp
  try simp only [Act.put, List.setIfInBounds_toArray, List.set_cons_zero, List.set_cons_succ]
  refine wpAnyH_take (i := 2) (v := .bool true) (at_list rfl) (by kernel_rfl) (by kernel_rfl) (by kernel_rfl) (fun _ _ _ h => h) (Or.inl ⟨by rfl, ?_⟩) (by assumption) ?_
  · intro v hSv
    clear hHeld
    obtain ⟨qHB, qHL, qKE, qKZ, -⟩ := hSv
    clear qHB qHL qKE qKZ
    go_simp
  try simp only [Act.put, List.setIfInBounds_toArray, List.set_cons_zero, List.set_cons_succ]
  refine wpAnyH_take (i := 3) (v := .bool true) (at_list rfl) (by kernel_rfl) (by kernel_rfl) (by kernel_rfl) (fun _ _ _ h => h) (Or.inl ⟨by rfl, ?_⟩) (by assumption) ?_
  · intro v hSv
    clear hHeld
    obtain ⟨qHB, qHL, qKE, qKZ, -⟩ := hSv
    clear qHB qHL qKE qKZ
    go_simp
  try simp only [Act.put, List.setIfInBounds_toArray, List.set_cons_zero, List.set_cons_succ]
  refine wpAnyH_take (i := 4) (v := .bool true) (at_list rfl) (by kernel_rfl) (by kernel_rfl) (by kernel_rfl) (fun _ _ _ h => h) (Or.inl ⟨by rfl, ?_⟩) (by assumption) ?_
  · intro v hSv
    clear hHeld
    obtain ⟨qHB, qHL, qKE, qKZ, -⟩ := hSv
    clear qHB qHL qKE qKZ
    go_simp
  try simp only [Act.put, List.setIfInBounds_toArray, List.set_cons_zero, List.set_cons_succ]
  refine wpAnyH_take (i := 5) (v := .slice (some ⟨g3, 0, none⟩) 34 34) (at_list rfl) (by kernel_rfl) (by kernel_rfl) (by kernel_rfl) (fun _ _ _ h => h) (Or.inl ⟨by rfl, ?_⟩) (by assumption) ?_
  · intro v hSv
    clear hHeld
    obtain ⟨qHB, qHL, qKE, qKZ, -⟩ := hSv
    clear qHB qHL qKE qKZ
    go_simp
  try simp only [Act.put, List.setIfInBounds_toArray, List.set_cons_zero, List.set_cons_succ]
  refine wpAnyH_take (i := 6) (v := .string S) (at_list rfl) (by kernel_rfl) (by kernel_rfl) (by kernel_rfl) (fun _ _ _ h => h) (Or.inl ⟨by rfl, ?_⟩) (by assumption) ?_
  · intro v hSv
    clear hHeld
    obtain ⟨qHB, qHL, qKE, qKZ, -⟩ := hSv
    clear qHB qHL qKZ
    have cv := V1.out v g3 qKE
    go_simp
  try simp only [Act.put, List.setIfInBounds_toArray, List.set_cons_zero, List.set_cons_succ]
  refine wpAnyH_take (i := 7) (v := .slice (some a) L C) (at_list rfl) (by kernel_rfl) (by kernel_rfl) (by kernel_rfl) (fun _ _ _ h => h) (Or.inl ⟨by rfl, ?_⟩) (by assumption) ?_
  · intro v hSv
    clear hHeld
    obtain ⟨qHB, qHL, qKE, qKZ, -⟩ := hSv
    clear qHB qHL qKE qKZ
    go_simp
  try simp only [Act.put, List.setIfInBounds_toArray, List.set_cons_zero, List.set_cons_succ]
  refine wpAnyH_take (i := 8) (v := .slice (some a) 34 C) (at_list rfl) (by kernel_rfl) (by kernel_rfl) (by kernel_rfl) (fun _ _ _ h => h) (Or.inl ⟨by rfl, ?_⟩) (by assumption) ?_
  · intro v hSv
    clear hHeld
    obtain ⟨qHB, qHL, qKE, qKZ, -⟩ := hSv
    clear qHB qHL qKE qKZ
    go_simp
    first | done | (rw [if_pos (by omega)]; done) | (intro h; exfalso; omega) | (rw [if_pos (by omega), if_neg (by omega)]; done) | (rw [if_pos (by omega), if_pos (by omega)]; done)
  try simp only [Act.put, List.setIfInBounds_toArray, List.set_cons_zero, List.set_cons_succ]
  refine wpAnyH_take (i := 9) (v := .string S) (at_list rfl) (by kernel_rfl) (by kernel_rfl) (by kernel_rfl) (fun _ _ _ h => h) (Or.inl ⟨by rfl, ?_⟩) (by assumption) ?_
  · intro v hSv
    clear hHeld
    obtain ⟨qHB, qHL, qKE, qKZ, -⟩ := hSv
    clear qHB qHL qKE
    have cv := V2.out v qKZ
    go_simp
  try simp only [Act.put, List.setIfInBounds_toArray, List.set_cons_zero, List.set_cons_succ]
  refine wpAnyH_take (i := 10) (v := .bool true) (at_list rfl) (by kernel_rfl) (by kernel_rfl) (by kernel_rfl) (fun _ _ _ h => h) (Or.inl ⟨by rfl, ?_⟩) (by assumption) ?_
  · intro v hSv
    clear hHeld
    obtain ⟨qHB, qHL, qKE, qKZ, -⟩ := hSv
    clear qHB qHL qKE qKZ
    go_simp
  try simp only [Act.put, List.setIfInBounds_toArray, List.set_cons_zero, List.set_cons_succ]
  refine wpAnyH_take (i := 11) (v := .bool true) (at_list rfl) (by kernel_rfl) (by kernel_rfl) (by kernel_rfl) (fun _ _ _ h => h) (Or.inl ⟨by rfl, ?_⟩) (by assumption) ?_
  · intro v hSv
    clear hHeld
    obtain ⟨qHB, qHL, qKE, qKZ, -⟩ := hSv
    clear qHB qHL qKE qKZ
    go_simp
  try simp only [Act.put, List.setIfInBounds_toArray, List.set_cons_zero, List.set_cons_succ]
  refine wpAnyH_take (i := 12) (v := .bool true) (at_list rfl) (by kernel_rfl) (by kernel_rfl) (by kernel_rfl) (fun _ _ _ h => h) (Or.inl ⟨by rfl, ?_⟩) (by assumption) ?_
  · intro v hSv
    clear hHeld
    obtain ⟨qHB, qHL, qKE, qKZ, -⟩ := hSv
    clear qHB qHL qKE qKZ
    go_simp
  try simp only [Act.put, List.setIfInBounds_toArray, List.set_cons_zero, List.set_cons_succ]
  refine wpAnyH_done (by kernel_rfl) ?_ _
  refine NoPanic.normal ?_
  replace HB := Lib.hid hHeld.1
  replace HL := Lib.hid hHeld.2.1
  replace KE := Lib.hid hHeld.2.2.1
  replace KZ := Lib.hid hHeld.2.2.2.1
  clear hHeld
  go_wp2
  go_ret
  exact ⟨rfl, HB.out⟩
set_option maxRecDepth 100000 in
set_option maxHeartbeats 4000000 in
theorem back5_yn (h : Hd) (hok : h.p.c.ok) (hf : In64 h.f) (hc : In64 h.c) (A : Option Addr) (L C : Nat) (q : Int) (w : World) (hl : Lens w) (hq : q ≠ 0) (hR : h.right = true) (hG : ∀ v, Below w.heap.size w v → Lens v → Calls Tryd.prog 17 #[.slice A L C] v fun e w' => e = .returned (.tuple #[.agg #[.int .i64 0, .int .i64 0, .int .i64 0, .int .i64 0, .int .u8 0, .int .u8 0, .int .u8 0, .int .u8 0, .int .u8 0, .int .u8 0, .int .u8 0, .int .u8 0, .int .i64 0, .int .i64 0, .int .i64 0], .int .i64 q]) ∧ Below v.heap.size v w') :
    Calls Tryd.prog 5 #[.agg #[.int .i64 h.t, .int .i64 h.d, .int .i64 h.f, .int .i64 h.c, .int .u8 h.p.c.b0, .int .u8 h.p.c.b1, .int .u8 h.p.c.b2, .int .u8 h.p.c.b3, .int .u8 h.p.c.b4, .int .u8 h.p.c.b5, .int .u8 h.p.c.b6, .int .u8 h.p.c.b7, .int .i64 h.p.n, .int .i64 h.s, .int .i64 h.l], .slice A L C] w fun e w' => e = .returned (.bool true) ∧ Below w.heap.size w w' := by
  have GD := Lib.hid hG
  have HL := Lib.hid hl
  clear hG hl
  have dq : (q == 0) = false := by simpa using hq
  clear hq
  obtain ⟨hln, _⟩ := Hd.right_iff.1 hR
  have hlb := longN_bd h.t
  have hlg := (longN_ne hln).2
  obtain ⟨n, hn⟩ : ∃ n : Nat, longN h.t = (n : Int) + 34 := ⟨(longN h.t - 34).toNat, by omega⟩
  have hn1 : 10 ≤ n := by omega
  have hn2 : n ≤ 30 := by omega
  have C0 := Lib.hid (fun v (hv : Lens v) => encode_yes h v hv hR)
  have C4 : Hid (∀ v, Calls Tryd.prog 16 #[.int .i64 h.t] v fun e w' => e = .returned (.int .i64 ((n : Int) + 34)) ∧ Below v.heap.size v w') := fun v => (rlong_any h.t v).mono fun _ _ ⟨he, hw⟩ => ⟨by rw [he, hn], hw ▸ Below.refl _ _⟩
  have C6 : Hid (∀ v g c, 34 + n ≤ c → c ≤ maxLen → Lens v → BytesAt v ⟨g, 0, none⟩ (encL h ++ List.replicate n 0) → Calls Tryd.prog 17 #[.slice (some ⟨g, 0, none⟩) (34 + n) c] v fun e w' => e = .returned (.tuple #[.agg #[.int .i64 h.t, .int .i64 h.d, .int .i64 h.f, .int .i64 h.c, .int .u8 h.p.c.b0, .int .u8 h.p.c.b1, .int .u8 h.p.c.b2, .int .u8 h.p.c.b3, .int .u8 h.p.c.b4, .int .u8 h.p.c.b5, .int .u8 h.p.c.b6, .int .u8 h.p.c.b7, .int .i64 h.p.n, .int .i64 h.s, .int .i64 h.l], .int .i64 0]) ∧ Below v.heap.size v w') := fun v g c h1 h2 hv hh => by
    have hlen : (encL h ++ List.replicate n 0).length = 34 + n := by rw [List.length_append, encL_length, List.length_replicate]
    have hq := decode_any ⟨g, 0, none⟩ (34 + n) c _ v hlen (by omega) h1 h2 (app_byte (encL_byte hR hok) (rep_byte n)) hh hv
    have hd := dec_enc h (List.replicate n 0) ((34 + n : Nat) : Int) (by omega) hR hc.1 hc.2 (by omega)
    rw [hd.1, hd.2] at hq
    exact hq
  have hneq := neq_rhead h h
  rw [eqH_self] at hneq
  clear hln hlb hlg hn
  clear hok hf hc hR
  replace HL := Lib.hid ((HL.out).laid (.cells #[.int .i64 h.t, .int .i64 h.d, .int .i64 h.f, .int .i64 h.c, .int .u8 h.p.c.b0, .int .u8 h.p.c.b1, .int .u8 h.p.c.b2, .int .u8 h.p.c.b3, .int .u8 h.p.c.b4, .int .u8 h.p.c.b5, .int .u8 h.p.c.b6, .int .u8 h.p.c.b7, .int .i64 h.p.n, .int .i64 h.s, .int .i64 h.l] 27))
  have KH := Lib.hid (Holds.fresh w 27 #[.int .i64 h.t, .int .i64 h.d, .int .i64 h.f, .int .i64 h.c, .int .u8 h.p.c.b0, .int .u8 h.p.c.b1, .int .u8 h.p.c.b2, .int .u8 h.p.c.b3, .int .u8 h.p.c.b4, .int .u8 h.p.c.b5, .int .u8 h.p.c.b6, .int .u8 h.p.c.b7, .int .i64 h.p.n, .int .i64 h.s, .int .i64 h.l] (g := w.heap.size) (by simp))
  have HB := Lib.hid (bnew w (.cells #[.int .i64 h.t, .int .i64 h.d, .int .i64 h.f, .int .i64 h.c, .int .u8 h.p.c.b0, .int .u8 h.p.c.b1, .int .u8 h.p.c.b2, .int .u8 h.p.c.b3, .int .u8 h.p.c.b4, .int .u8 h.p.c.b5, .int .u8 h.p.c.b6, .int .u8 h.p.c.b7, .int .i64 h.p.n, .int .i64 h.s, .int .i64 h.l] 27))
  go_enter Tryd.func5, Tryd.ntmps5
  go_wp2_with fail
  generalize (w.alloc (.cells #[.int .i64 h.t, .int .i64 h.d, .int .i64 h.f, .int .i64 h.c, .int .u8 h.p.c.b0, .int .u8 h.p.c.b1, .int .u8 h.p.c.b2, .int .u8 h.p.c.b3, .int .u8 h.p.c.b4, .int .u8 h.p.c.b5, .int .u8 h.p.c.b6, .int .u8 h.p.c.b7, .int .i64 h.p.n, .int .i64 h.s, .int .i64 h.l] 27)) = W0 at *
  have x1_0 := (KH.out).reads (i := 0) rfl
  have x1_1 := (KH.out).reads (i := 1) rfl
  have x1_2 := (KH.out).reads (i := 2) rfl
  have x1_3 := (KH.out).reads (i := 3) rfl
  have x1_4 := (KH.out).reads (i := 4) rfl
  have x1_5 := (KH.out).reads (i := 5) rfl
  have x1_6 := (KH.out).reads (i := 6) rfl
  have x1_7 := (KH.out).reads (i := 7) rfl
  have x1_8 := (KH.out).reads (i := 8) rfl
  have x1_9 := (KH.out).reads (i := 9) rfl
  have x1_10 := (KH.out).reads (i := 10) rfl
  have x1_11 := (KH.out).reads (i := 11) rfl
  have x1_12 := (KH.out).reads (i := 12) rfl
  have x1_13 := (KH.out).reads (i := 13) rfl
  have x1_14 := (KH.out).reads (i := 14) rfl
  refine (C0.out _ HL.out).mono ?_
  rintro e w2 ⟨g1, -, rfl, n_KG, hw2⟩
  clear x1_0 x1_1 x1_2 x1_3 x1_4 x1_5 x1_6 x1_7 x1_8 x1_9 x1_10 x1_11 x1_12 x1_13 x1_14
  replace HL := Lib.hid ((HL.out).keptB hw2)
  replace KH := Lib.hid ((KH.out).keptB hw2)
  replace HB := Lib.hid (bstep HB.out hw2)
  have KG := Lib.hid (show Holds w2 g1 5 (byteCells (encL h)) from n_KG)
  clear n_KG
  clear hw2
  have x3_0 := (KH.out).reads (i := 0) rfl
  have x3_1 := (KH.out).reads (i := 1) rfl
  have x3_2 := (KH.out).reads (i := 2) rfl
  have x3_3 := (KH.out).reads (i := 3) rfl
  have x3_4 := (KH.out).reads (i := 4) rfl
  have x3_5 := (KH.out).reads (i := 5) rfl
  have x3_6 := (KH.out).reads (i := 6) rfl
  have x3_7 := (KH.out).reads (i := 7) rfl
  have x3_8 := (KH.out).reads (i := 8) rfl
  have x3_9 := (KH.out).reads (i := 9) rfl
  have x3_10 := (KH.out).reads (i := 10) rfl
  have x3_11 := (KH.out).reads (i := 11) rfl
  have x3_12 := (KH.out).reads (i := 12) rfl
  have x3_13 := (KH.out).reads (i := 13) rfl
  have x3_14 := (KH.out).reads (i := 14) rfl
  go_wp2_with fail
  refine (C4.out _).mono ?_
  rintro e w4 ⟨rfl, hw4⟩
  clear x3_0 x3_1 x3_2 x3_3 x3_4 x3_5 x3_6 x3_7 x3_8 x3_9 x3_10 x3_11 x3_12 x3_13 x3_14
  replace HL := Lib.hid ((HL.out).keptB hw4)
  replace KH := Lib.hid ((KH.out).keptB hw4)
  replace KG := Lib.hid ((KG.out).keptB hw4)
  replace HB := Lib.hid (bstep HB.out hw4)
  clear hw4
  go_wp2_with (at_builtin; refine wpList_append_zeros rfl _ _ rfl g1 34 (encL h) (encL_length h) (by omega) KG.out n (by omega) (by omega) rfl (by first | rfl | (go_simp; done) | (congr 1; rw [IntKind.wrap_i64]; omega) | (congr 1; omega)) ?_; intro cap w8 hcap1 hcap2 hrow hb8)
  replace HL := Lib.hid ((HL.out).keptB hb8)
  replace KH := Lib.hid ((KH.out).keptB hb8)
  replace KG := Lib.hid ((KG.out).keptB hb8)
  replace HB := Lib.hid (bstep HB.out hb8)
  rw [enc_zeros h cap n hcap1] at hrow
  have HR := Lib.hid (row_bytes hrow).front
  clear hrow hb8 KG
  go_wp2_with fail
  refine (C6.out _ _ cap hcap1 hcap2 HL.out HR.out).mono ?_
  rintro e w5 ⟨rfl, hw5⟩
  replace HL := Lib.hid ((HL.out).keptB hw5)
  replace KH := Lib.hid ((KH.out).keptB hw5)
  replace HB := Lib.hid (bstep HB.out hw5)
  clear hw5
  clear HR
  replace HL := Lib.hid ((HL.out).laid (.cells #[.int .i64 h.t, .int .i64 h.d, .int .i64 h.f, .int .i64 h.c, .int .u8 h.p.c.b0, .int .u8 h.p.c.b1, .int .u8 h.p.c.b2, .int .u8 h.p.c.b3, .int .u8 h.p.c.b4, .int .u8 h.p.c.b5, .int .u8 h.p.c.b6, .int .u8 h.p.c.b7, .int .i64 h.p.n, .int .i64 h.s, .int .i64 h.l] 31))
  replace KH := Lib.hid ((KH.out).laid (.cells #[.int .i64 h.t, .int .i64 h.d, .int .i64 h.f, .int .i64 h.c, .int .u8 h.p.c.b0, .int .u8 h.p.c.b1, .int .u8 h.p.c.b2, .int .u8 h.p.c.b3, .int .u8 h.p.c.b4, .int .u8 h.p.c.b5, .int .u8 h.p.c.b6, .int .u8 h.p.c.b7, .int .i64 h.p.n, .int .i64 h.s, .int .i64 h.l] 31))
  have KB := Lib.hid (Holds.fresh w5 31 #[.int .i64 h.t, .int .i64 h.d, .int .i64 h.f, .int .i64 h.c, .int .u8 h.p.c.b0, .int .u8 h.p.c.b1, .int .u8 h.p.c.b2, .int .u8 h.p.c.b3, .int .u8 h.p.c.b4, .int .u8 h.p.c.b5, .int .u8 h.p.c.b6, .int .u8 h.p.c.b7, .int .i64 h.p.n, .int .i64 h.s, .int .i64 h.l] (g := (w5).heap.size) rfl)
  replace HB := Lib.hid (bstep HB.out (bnew _ (.cells #[.int .i64 h.t, .int .i64 h.d, .int .i64 h.f, .int .i64 h.c, .int .u8 h.p.c.b0, .int .u8 h.p.c.b1, .int .u8 h.p.c.b2, .int .u8 h.p.c.b3, .int .u8 h.p.c.b4, .int .u8 h.p.c.b5, .int .u8 h.p.c.b6, .int .u8 h.p.c.b7, .int .i64 h.p.n, .int .i64 h.s, .int .i64 h.l] 31)))
  have x6_0 := (KH.out).reads (i := 0) rfl
  have x6_1 := (KH.out).reads (i := 1) rfl
  have x6_2 := (KH.out).reads (i := 2) rfl
  have x6_3 := (KH.out).reads (i := 3) rfl
  have x6_4 := (KH.out).reads (i := 4) rfl
  have x6_5 := (KH.out).reads (i := 5) rfl
  have x6_6 := (KH.out).reads (i := 6) rfl
  have x6_7 := (KH.out).reads (i := 7) rfl
  have x6_8 := (KH.out).reads (i := 8) rfl
  have x6_9 := (KH.out).reads (i := 9) rfl
  have x6_10 := (KH.out).reads (i := 10) rfl
  have x6_11 := (KH.out).reads (i := 11) rfl
  have x6_12 := (KH.out).reads (i := 12) rfl
  have x6_13 := (KH.out).reads (i := 13) rfl
  have x6_14 := (KH.out).reads (i := 14) rfl
  have x7_0 := (KB.out).reads (i := 0) rfl
  have x7_1 := (KB.out).reads (i := 1) rfl
  have x7_2 := (KB.out).reads (i := 2) rfl
  have x7_3 := (KB.out).reads (i := 3) rfl
  have x7_4 := (KB.out).reads (i := 4) rfl
  have x7_5 := (KB.out).reads (i := 5) rfl
  have x7_6 := (KB.out).reads (i := 6) rfl
  have x7_7 := (KB.out).reads (i := 7) rfl
  have x7_8 := (KB.out).reads (i := 8) rfl
  have x7_9 := (KB.out).reads (i := 9) rfl
  have x7_10 := (KB.out).reads (i := 10) rfl
  have x7_11 := (KB.out).reads (i := 11) rfl
  have x7_12 := (KB.out).reads (i := 12) rfl
  have x7_13 := (KB.out).reads (i := 13) rfl
  have x7_14 := (KB.out).reads (i := 14) rfl
  go_wp2_with fail
  refine (GD.out _ HB.out HL.out).mono ?_
  rintro e w8 ⟨rfl, hw8⟩
  clear x6_0 x6_1 x6_2 x6_3 x6_4 x6_5 x6_6 x6_7 x6_8 x6_9 x6_10 x6_11 x6_12 x6_13 x6_14 x7_0 x7_1 x7_2 x7_3 x7_4 x7_5 x7_6 x7_7 x7_8 x7_9 x7_10 x7_11 x7_12 x7_13 x7_14
  replace HL := Lib.hid ((HL.out).keptB hw8)
  replace KH := Lib.hid ((KH.out).keptB hw8)
  replace KB := Lib.hid ((KB.out).keptB hw8)
  replace HB := Lib.hid (bstep HB.out hw8)
  clear hw8
  have hz := zero_eq
  replace HL := Lib.hid ((HL.out).laid (.cells #[.int .i64 0, .int .i64 0, .int .i64 0, .int .i64 0, .int .u8 0, .int .u8 0, .int .u8 0, .int .u8 0, .int .u8 0, .int .u8 0, .int .u8 0, .int .u8 0, .int .i64 0, .int .i64 0, .int .i64 0] 31))
  replace KH := Lib.hid ((KH.out).laid (.cells #[.int .i64 0, .int .i64 0, .int .i64 0, .int .i64 0, .int .u8 0, .int .u8 0, .int .u8 0, .int .u8 0, .int .u8 0, .int .u8 0, .int .u8 0, .int .u8 0, .int .i64 0, .int .i64 0, .int .i64 0] 31))
  replace KB := Lib.hid ((KB.out).laid (.cells #[.int .i64 0, .int .i64 0, .int .i64 0, .int .i64 0, .int .u8 0, .int .u8 0, .int .u8 0, .int .u8 0, .int .u8 0, .int .u8 0, .int .u8 0, .int .u8 0, .int .i64 0, .int .i64 0, .int .i64 0] 31))
  have KD := Lib.hid (Holds.fresh w8 31 #[.int .i64 0, .int .i64 0, .int .i64 0, .int .i64 0, .int .u8 0, .int .u8 0, .int .u8 0, .int .u8 0, .int .u8 0, .int .u8 0, .int .u8 0, .int .u8 0, .int .i64 0, .int .i64 0, .int .i64 0] (g := (w8).heap.size) rfl)
  replace HB := Lib.hid (bstep HB.out (bnew _ (.cells #[.int .i64 0, .int .i64 0, .int .i64 0, .int .i64 0, .int .u8 0, .int .u8 0, .int .u8 0, .int .u8 0, .int .u8 0, .int .u8 0, .int .u8 0, .int .u8 0, .int .i64 0, .int .i64 0, .int .i64 0] 31)))
  go_wp2_with fail
  refine (alive5_any _ HL.out).mono ?_
  rintro e w9 ⟨rfl, hw9⟩
  replace HL := Lib.hid ((HL.out).keptB hw9)
  replace KH := Lib.hid ((KH.out).keptB hw9)
  replace KB := Lib.hid ((KB.out).keptB hw9)
  replace KD := Lib.hid ((KD.out).keptB hw9)
  replace HB := Lib.hid (bstep HB.out hw9)
  clear hw9
  have x10_0 := (KD.out).reads (i := 0) rfl
  have x10_1 := (KD.out).reads (i := 1) rfl
  have x10_2 := (KD.out).reads (i := 2) rfl
  have x10_3 := (KD.out).reads (i := 3) rfl
  have x10_4 := (KD.out).reads (i := 4) rfl
  have x10_5 := (KD.out).reads (i := 5) rfl
  have x10_6 := (KD.out).reads (i := 6) rfl
  have x10_7 := (KD.out).reads (i := 7) rfl
  have x10_8 := (KD.out).reads (i := 8) rfl
  have x10_9 := (KD.out).reads (i := 9) rfl
  have x10_10 := (KD.out).reads (i := 10) rfl
  have x10_11 := (KD.out).reads (i := 11) rfl
  have x10_12 := (KD.out).reads (i := 12) rfl
  have x10_13 := (KD.out).reads (i := 13) rfl
  have x10_14 := (KD.out).reads (i := 14) rfl
  go_wp2
  go_ret
  exact ⟨rfl, HB.out⟩
set_option maxRecDepth 100000 in
set_option maxHeartbeats 4000000 in
theorem back5_yy (h : Hd) (hok : h.p.c.ok) (hf : In64 h.f) (hc : In64 h.c) (a : Addr) (L C : Nat) (G : Hd) (w : World) (hl : Lens w) (hGr : G.right = true) (l1 : 34 ≤ L) (l2 : L ≤ C) (l3 : C ≤ maxLen) (hz : BytesAt w a (encL G)) (hR : h.right = true) (hG : ∀ v, Below w.heap.size w v → Lens v → Calls Tryd.prog 17 #[.slice (some a) L C] v fun e w' => e = .returned (.tuple #[.agg #[.int .i64 G.t, .int .i64 G.d, .int .i64 G.f, .int .i64 G.c, .int .u8 G.p.c.b0, .int .u8 G.p.c.b1, .int .u8 G.p.c.b2, .int .u8 G.p.c.b3, .int .u8 G.p.c.b4, .int .u8 G.p.c.b5, .int .u8 G.p.c.b6, .int .u8 G.p.c.b7, .int .i64 G.p.n, .int .i64 G.s, .int .i64 G.l], .int .i64 0]) ∧ Below v.heap.size v w') :
    Calls Tryd.prog 5 #[.agg #[.int .i64 h.t, .int .i64 h.d, .int .i64 h.f, .int .i64 h.c, .int .u8 h.p.c.b0, .int .u8 h.p.c.b1, .int .u8 h.p.c.b2, .int .u8 h.p.c.b3, .int .u8 h.p.c.b4, .int .u8 h.p.c.b5, .int .u8 h.p.c.b6, .int .u8 h.p.c.b7, .int .i64 h.p.n, .int .i64 h.s, .int .i64 h.l], .slice (some a) L C] w fun e w' => e = .returned (.bool true) ∧ Below w.heap.size w w' := by
  have GD := Lib.hid hG
  have HL := Lib.hid hl
  clear hG hl
  have HZ := Lib.hid hz
  clear hz
  obtain ⟨S, HS⟩ : ∃ S, Hid (strOfNums (encL G) = S) := ⟨_, Lib.hid rfl⟩
  have EG := Lib.hid (fun v (hv : Lens v) => encode_yes G v hv hGr)
  clear hGr
  have V1 : Hid (∀ v g, Holds v g 5 (byteCells (encL G)) → (convert 28 9 (.slice (some ⟨g, 0, none⟩) 34 34)).run Tryd.prog v = .ok (.string S) v) := fun v g hh => by rw [← HS.out]; exact conv_whole v g 34 (encL G) (encL_length G) hh
  have V2 : Hid (∀ v, BytesAt v a (encL G) → (convert 28 9 (.slice (some a) 34 C)).run Tryd.prog v = .ok (.string S) v) := fun v hh => by rw [← HS.out]; exact conv_at v a 34 C (encL G) (encL_length G) hh
  obtain ⟨hln, _⟩ := Hd.right_iff.1 hR
  have hlb := longN_bd h.t
  have hlg := (longN_ne hln).2
  obtain ⟨n, hn⟩ : ∃ n : Nat, longN h.t = (n : Int) + 34 := ⟨(longN h.t - 34).toNat, by omega⟩
  have hn1 : 10 ≤ n := by omega
  have hn2 : n ≤ 30 := by omega
  have C0 := Lib.hid (fun v (hv : Lens v) => encode_yes h v hv hR)
  have C4 : Hid (∀ v, Calls Tryd.prog 16 #[.int .i64 h.t] v fun e w' => e = .returned (.int .i64 ((n : Int) + 34)) ∧ Below v.heap.size v w') := fun v => (rlong_any h.t v).mono fun _ _ ⟨he, hw⟩ => ⟨by rw [he, hn], hw ▸ Below.refl _ _⟩
  have C6 : Hid (∀ v g c, 34 + n ≤ c → c ≤ maxLen → Lens v → BytesAt v ⟨g, 0, none⟩ (encL h ++ List.replicate n 0) → Calls Tryd.prog 17 #[.slice (some ⟨g, 0, none⟩) (34 + n) c] v fun e w' => e = .returned (.tuple #[.agg #[.int .i64 h.t, .int .i64 h.d, .int .i64 h.f, .int .i64 h.c, .int .u8 h.p.c.b0, .int .u8 h.p.c.b1, .int .u8 h.p.c.b2, .int .u8 h.p.c.b3, .int .u8 h.p.c.b4, .int .u8 h.p.c.b5, .int .u8 h.p.c.b6, .int .u8 h.p.c.b7, .int .i64 h.p.n, .int .i64 h.s, .int .i64 h.l], .int .i64 0]) ∧ Below v.heap.size v w') := fun v g c h1 h2 hv hh => by
    have hlen : (encL h ++ List.replicate n 0).length = 34 + n := by rw [List.length_append, encL_length, List.length_replicate]
    have hq := decode_any ⟨g, 0, none⟩ (34 + n) c _ v hlen (by omega) h1 h2 (app_byte (encL_byte hR hok) (rep_byte n)) hh hv
    have hd := dec_enc h (List.replicate n 0) ((34 + n : Nat) : Int) (by omega) hR hc.1 hc.2 (by omega)
    rw [hd.1, hd.2] at hq
    exact hq
  have hneq := neq_rhead h h
  rw [eqH_self] at hneq
  clear hln hlb hlg hn
  clear hok hf hc hR
  replace HL := Lib.hid ((HL.out).laid (.cells #[.int .i64 h.t, .int .i64 h.d, .int .i64 h.f, .int .i64 h.c, .int .u8 h.p.c.b0, .int .u8 h.p.c.b1, .int .u8 h.p.c.b2, .int .u8 h.p.c.b3, .int .u8 h.p.c.b4, .int .u8 h.p.c.b5, .int .u8 h.p.c.b6, .int .u8 h.p.c.b7, .int .i64 h.p.n, .int .i64 h.s, .int .i64 h.l] 27))
  have KH := Lib.hid (Holds.fresh w 27 #[.int .i64 h.t, .int .i64 h.d, .int .i64 h.f, .int .i64 h.c, .int .u8 h.p.c.b0, .int .u8 h.p.c.b1, .int .u8 h.p.c.b2, .int .u8 h.p.c.b3, .int .u8 h.p.c.b4, .int .u8 h.p.c.b5, .int .u8 h.p.c.b6, .int .u8 h.p.c.b7, .int .i64 h.p.n, .int .i64 h.s, .int .i64 h.l] (g := w.heap.size) (by simp))
  have HB := Lib.hid (bnew w (.cells #[.int .i64 h.t, .int .i64 h.d, .int .i64 h.f, .int .i64 h.c, .int .u8 h.p.c.b0, .int .u8 h.p.c.b1, .int .u8 h.p.c.b2, .int .u8 h.p.c.b3, .int .u8 h.p.c.b4, .int .u8 h.p.c.b5, .int .u8 h.p.c.b6, .int .u8 h.p.c.b7, .int .i64 h.p.n, .int .i64 h.s, .int .i64 h.l] 27))
  go_enter Tryd.func5, Tryd.ntmps5
  go_wp2_with fail
  generalize (w.alloc (.cells #[.int .i64 h.t, .int .i64 h.d, .int .i64 h.f, .int .i64 h.c, .int .u8 h.p.c.b0, .int .u8 h.p.c.b1, .int .u8 h.p.c.b2, .int .u8 h.p.c.b3, .int .u8 h.p.c.b4, .int .u8 h.p.c.b5, .int .u8 h.p.c.b6, .int .u8 h.p.c.b7, .int .i64 h.p.n, .int .i64 h.s, .int .i64 h.l] 27)) = W0 at *
  have x1_0 := (KH.out).reads (i := 0) rfl
  have x1_1 := (KH.out).reads (i := 1) rfl
  have x1_2 := (KH.out).reads (i := 2) rfl
  have x1_3 := (KH.out).reads (i := 3) rfl
  have x1_4 := (KH.out).reads (i := 4) rfl
  have x1_5 := (KH.out).reads (i := 5) rfl
  have x1_6 := (KH.out).reads (i := 6) rfl
  have x1_7 := (KH.out).reads (i := 7) rfl
  have x1_8 := (KH.out).reads (i := 8) rfl
  have x1_9 := (KH.out).reads (i := 9) rfl
  have x1_10 := (KH.out).reads (i := 10) rfl
  have x1_11 := (KH.out).reads (i := 11) rfl
  have x1_12 := (KH.out).reads (i := 12) rfl
  have x1_13 := (KH.out).reads (i := 13) rfl
  have x1_14 := (KH.out).reads (i := 14) rfl
  refine (C0.out _ HL.out).mono ?_
  rintro e w2 ⟨g1, -, rfl, n_KG, hw2⟩
  clear x1_0 x1_1 x1_2 x1_3 x1_4 x1_5 x1_6 x1_7 x1_8 x1_9 x1_10 x1_11 x1_12 x1_13 x1_14
  replace HL := Lib.hid ((HL.out).keptB hw2)
  replace KH := Lib.hid ((KH.out).keptB hw2)
  replace HB := Lib.hid (bstep HB.out hw2)
  have KG := Lib.hid (show Holds w2 g1 5 (byteCells (encL h)) from n_KG)
  clear n_KG
  clear hw2
  have x3_0 := (KH.out).reads (i := 0) rfl
  have x3_1 := (KH.out).reads (i := 1) rfl
  have x3_2 := (KH.out).reads (i := 2) rfl
  have x3_3 := (KH.out).reads (i := 3) rfl
  have x3_4 := (KH.out).reads (i := 4) rfl
  have x3_5 := (KH.out).reads (i := 5) rfl
  have x3_6 := (KH.out).reads (i := 6) rfl
  have x3_7 := (KH.out).reads (i := 7) rfl
  have x3_8 := (KH.out).reads (i := 8) rfl
  have x3_9 := (KH.out).reads (i := 9) rfl
  have x3_10 := (KH.out).reads (i := 10) rfl
  have x3_11 := (KH.out).reads (i := 11) rfl
  have x3_12 := (KH.out).reads (i := 12) rfl
  have x3_13 := (KH.out).reads (i := 13) rfl
  have x3_14 := (KH.out).reads (i := 14) rfl
  go_wp2_with fail
  refine (C4.out _).mono ?_
  rintro e w4 ⟨rfl, hw4⟩
  clear x3_0 x3_1 x3_2 x3_3 x3_4 x3_5 x3_6 x3_7 x3_8 x3_9 x3_10 x3_11 x3_12 x3_13 x3_14
  replace HL := Lib.hid ((HL.out).keptB hw4)
  replace KH := Lib.hid ((KH.out).keptB hw4)
  replace KG := Lib.hid ((KG.out).keptB hw4)
  replace HB := Lib.hid (bstep HB.out hw4)
  clear hw4
  go_wp2_with (at_builtin; refine wpList_append_zeros rfl _ _ rfl g1 34 (encL h) (encL_length h) (by omega) KG.out n (by omega) (by omega) rfl (by first | rfl | (go_simp; done) | (congr 1; rw [IntKind.wrap_i64]; omega) | (congr 1; omega)) ?_; intro cap w8 hcap1 hcap2 hrow hb8)
  replace HL := Lib.hid ((HL.out).keptB hb8)
  replace KH := Lib.hid ((KH.out).keptB hb8)
  replace KG := Lib.hid ((KG.out).keptB hb8)
  replace HB := Lib.hid (bstep HB.out hb8)
  rw [enc_zeros h cap n hcap1] at hrow
  have HR := Lib.hid (row_bytes hrow).front
  clear hrow hb8 KG
  go_wp2_with fail
  refine (C6.out _ _ cap hcap1 hcap2 HL.out HR.out).mono ?_
  rintro e w5 ⟨rfl, hw5⟩
  replace HL := Lib.hid ((HL.out).keptB hw5)
  replace KH := Lib.hid ((KH.out).keptB hw5)
  replace HB := Lib.hid (bstep HB.out hw5)
  clear hw5
  clear HR
  replace HL := Lib.hid ((HL.out).laid (.cells #[.int .i64 h.t, .int .i64 h.d, .int .i64 h.f, .int .i64 h.c, .int .u8 h.p.c.b0, .int .u8 h.p.c.b1, .int .u8 h.p.c.b2, .int .u8 h.p.c.b3, .int .u8 h.p.c.b4, .int .u8 h.p.c.b5, .int .u8 h.p.c.b6, .int .u8 h.p.c.b7, .int .i64 h.p.n, .int .i64 h.s, .int .i64 h.l] 31))
  replace KH := Lib.hid ((KH.out).laid (.cells #[.int .i64 h.t, .int .i64 h.d, .int .i64 h.f, .int .i64 h.c, .int .u8 h.p.c.b0, .int .u8 h.p.c.b1, .int .u8 h.p.c.b2, .int .u8 h.p.c.b3, .int .u8 h.p.c.b4, .int .u8 h.p.c.b5, .int .u8 h.p.c.b6, .int .u8 h.p.c.b7, .int .i64 h.p.n, .int .i64 h.s, .int .i64 h.l] 31))
  have KB := Lib.hid (Holds.fresh w5 31 #[.int .i64 h.t, .int .i64 h.d, .int .i64 h.f, .int .i64 h.c, .int .u8 h.p.c.b0, .int .u8 h.p.c.b1, .int .u8 h.p.c.b2, .int .u8 h.p.c.b3, .int .u8 h.p.c.b4, .int .u8 h.p.c.b5, .int .u8 h.p.c.b6, .int .u8 h.p.c.b7, .int .i64 h.p.n, .int .i64 h.s, .int .i64 h.l] (g := (w5).heap.size) rfl)
  replace HB := Lib.hid (bstep HB.out (bnew _ (.cells #[.int .i64 h.t, .int .i64 h.d, .int .i64 h.f, .int .i64 h.c, .int .u8 h.p.c.b0, .int .u8 h.p.c.b1, .int .u8 h.p.c.b2, .int .u8 h.p.c.b3, .int .u8 h.p.c.b4, .int .u8 h.p.c.b5, .int .u8 h.p.c.b6, .int .u8 h.p.c.b7, .int .i64 h.p.n, .int .i64 h.s, .int .i64 h.l] 31)))
  have x6_0 := (KH.out).reads (i := 0) rfl
  have x6_1 := (KH.out).reads (i := 1) rfl
  have x6_2 := (KH.out).reads (i := 2) rfl
  have x6_3 := (KH.out).reads (i := 3) rfl
  have x6_4 := (KH.out).reads (i := 4) rfl
  have x6_5 := (KH.out).reads (i := 5) rfl
  have x6_6 := (KH.out).reads (i := 6) rfl
  have x6_7 := (KH.out).reads (i := 7) rfl
  have x6_8 := (KH.out).reads (i := 8) rfl
  have x6_9 := (KH.out).reads (i := 9) rfl
  have x6_10 := (KH.out).reads (i := 10) rfl
  have x6_11 := (KH.out).reads (i := 11) rfl
  have x6_12 := (KH.out).reads (i := 12) rfl
  have x6_13 := (KH.out).reads (i := 13) rfl
  have x6_14 := (KH.out).reads (i := 14) rfl
  have x7_0 := (KB.out).reads (i := 0) rfl
  have x7_1 := (KB.out).reads (i := 1) rfl
  have x7_2 := (KB.out).reads (i := 2) rfl
  have x7_3 := (KB.out).reads (i := 3) rfl
  have x7_4 := (KB.out).reads (i := 4) rfl
  have x7_5 := (KB.out).reads (i := 5) rfl
  have x7_6 := (KB.out).reads (i := 6) rfl
  have x7_7 := (KB.out).reads (i := 7) rfl
  have x7_8 := (KB.out).reads (i := 8) rfl
  have x7_9 := (KB.out).reads (i := 9) rfl
  have x7_10 := (KB.out).reads (i := 10) rfl
  have x7_11 := (KB.out).reads (i := 11) rfl
  have x7_12 := (KB.out).reads (i := 12) rfl
  have x7_13 := (KB.out).reads (i := 13) rfl
  have x7_14 := (KB.out).reads (i := 14) rfl
  go_wp2_with fail
  refine (GD.out _ HB.out HL.out).mono ?_
  rintro e w8 ⟨rfl, hw8⟩
  clear x6_0 x6_1 x6_2 x6_3 x6_4 x6_5 x6_6 x6_7 x6_8 x6_9 x6_10 x6_11 x6_12 x6_13 x6_14 x7_0 x7_1 x7_2 x7_3 x7_4 x7_5 x7_6 x7_7 x7_8 x7_9 x7_10 x7_11 x7_12 x7_13 x7_14
  replace HL := Lib.hid ((HL.out).keptB hw8)
  replace KH := Lib.hid ((KH.out).keptB hw8)
  replace KB := Lib.hid ((KB.out).keptB hw8)
  replace HB := Lib.hid (bstep HB.out hw8)
  clear hw8
  replace HL := Lib.hid ((HL.out).laid (.cells #[.int .i64 G.t, .int .i64 G.d, .int .i64 G.f, .int .i64 G.c, .int .u8 G.p.c.b0, .int .u8 G.p.c.b1, .int .u8 G.p.c.b2, .int .u8 G.p.c.b3, .int .u8 G.p.c.b4, .int .u8 G.p.c.b5, .int .u8 G.p.c.b6, .int .u8 G.p.c.b7, .int .i64 G.p.n, .int .i64 G.s, .int .i64 G.l] 31))
  replace KH := Lib.hid ((KH.out).laid (.cells #[.int .i64 G.t, .int .i64 G.d, .int .i64 G.f, .int .i64 G.c, .int .u8 G.p.c.b0, .int .u8 G.p.c.b1, .int .u8 G.p.c.b2, .int .u8 G.p.c.b3, .int .u8 G.p.c.b4, .int .u8 G.p.c.b5, .int .u8 G.p.c.b6, .int .u8 G.p.c.b7, .int .i64 G.p.n, .int .i64 G.s, .int .i64 G.l] 31))
  replace KB := Lib.hid ((KB.out).laid (.cells #[.int .i64 G.t, .int .i64 G.d, .int .i64 G.f, .int .i64 G.c, .int .u8 G.p.c.b0, .int .u8 G.p.c.b1, .int .u8 G.p.c.b2, .int .u8 G.p.c.b3, .int .u8 G.p.c.b4, .int .u8 G.p.c.b5, .int .u8 G.p.c.b6, .int .u8 G.p.c.b7, .int .i64 G.p.n, .int .i64 G.s, .int .i64 G.l] 31))
  have KD := Lib.hid (Holds.fresh w8 31 #[.int .i64 G.t, .int .i64 G.d, .int .i64 G.f, .int .i64 G.c, .int .u8 G.p.c.b0, .int .u8 G.p.c.b1, .int .u8 G.p.c.b2, .int .u8 G.p.c.b3, .int .u8 G.p.c.b4, .int .u8 G.p.c.b5, .int .u8 G.p.c.b6, .int .u8 G.p.c.b7, .int .i64 G.p.n, .int .i64 G.s, .int .i64 G.l] (g := (w8).heap.size) rfl)
  replace HB := Lib.hid (bstep HB.out (bnew _ (.cells #[.int .i64 G.t, .int .i64 G.d, .int .i64 G.f, .int .i64 G.c, .int .u8 G.p.c.b0, .int .u8 G.p.c.b1, .int .u8 G.p.c.b2, .int .u8 G.p.c.b3, .int .u8 G.p.c.b4, .int .u8 G.p.c.b5, .int .u8 G.p.c.b6, .int .u8 G.p.c.b7, .int .i64 G.p.n, .int .i64 G.s, .int .i64 G.l] 31)))
  have x9_0 := (KD.out).reads (i := 0) rfl
  have x9_1 := (KD.out).reads (i := 1) rfl
  have x9_2 := (KD.out).reads (i := 2) rfl
  have x9_3 := (KD.out).reads (i := 3) rfl
  have x9_4 := (KD.out).reads (i := 4) rfl
  have x9_5 := (KD.out).reads (i := 5) rfl
  have x9_6 := (KD.out).reads (i := 6) rfl
  have x9_7 := (KD.out).reads (i := 7) rfl
  have x9_8 := (KD.out).reads (i := 8) rfl
  have x9_9 := (KD.out).reads (i := 9) rfl
  have x9_10 := (KD.out).reads (i := 10) rfl
  have x9_11 := (KD.out).reads (i := 11) rfl
  have x9_12 := (KD.out).reads (i := 12) rfl
  have x9_13 := (KD.out).reads (i := 13) rfl
  have x9_14 := (KD.out).reads (i := 14) rfl
  go_wp2_with fail
  refine (EG.out _ HL.out).mono ?_
  rintro e w10 ⟨g3, -, rfl, n_KE, hw10⟩
  clear x9_0 x9_1 x9_2 x9_3 x9_4 x9_5 x9_6 x9_7 x9_8 x9_9 x9_10 x9_11 x9_12 x9_13 x9_14
  replace HL := Lib.hid ((HL.out).keptB hw10)
  replace KH := Lib.hid ((KH.out).keptB hw10)
  replace KB := Lib.hid ((KB.out).keptB hw10)
  replace KD := Lib.hid ((KD.out).keptB hw10)
  replace HB := Lib.hid (bstep HB.out hw10)
  have KE := Lib.hid (show Holds w10 g3 5 (byteCells (encL G)) from n_KE)
  clear n_KE
  clear hw10
  have KZ : Hid (BytesAt w10 a (encL G)) := fun i hi => keepc (HB.out) (HZ.out i hi)
  go_wp2_with fail
  refine wp_region_noPanic ?_
  refine wp_region_held_drew (S := fun v => Below w.heap.size w v ∧ Lens v ∧ Holds v g3 5 (byteCells (encL G)) ∧ BytesAt v a (encL G) ∧ True) (by kernel_rfl) ?_ (fun hHeld => ?_)
  · exact ⟨bdrew HB.out, (HL.out).drew, (KE.out).drew, (KZ.out).drew, trivial⟩
  refine wpAnyH_ready (rs := [0]) (by kernel_rfl) (by simp) ?_
  refine AllReadyH.cons (at_list rfl) (fun K hK => ?_) AllReadyH.nil
  go_simp
  refine (alive5_any _ hHeld.2.1).mono ?_
  rintro e v11 ⟨rfl, hv11⟩
  go_wp2_with fail
  refine hK.out _ _ ?_ (fun hHeld2 => ?_)
  · exact ⟨bstep hHeld.1 hv11, hHeld.2.1.keptB hv11, hHeld.2.2.1.keptB hv11, hHeld.2.2.2.1.keptB hv11, trivial⟩
  clear hK K hHeld
  have hHeld := hHeld2
  clear hHeld2 hv11
  try simp only [Act.put, List.setIfInBounds_toArray, List.set_cons_zero, List.set_cons_succ]
  refine wpAnyH_take (i := 1) (v := .bool true) (at_list rfl) (by kernel_rfl) (by kernel_rfl) (by kernel_rfl) (fun _ _ _ h => h) (Or.inl ⟨by rfl, ?_⟩) (by assumption) ?_
  · intro v hSv
    clear hHeld
    obtain ⟨qHB, qHL, qKE, qKZ, -⟩ := hSv
    clear qHB qHL qKE qKZ
    go_simp
  try simp only [Act.put, List.setIfInBounds_toArray, List.set_cons_zero, List.set_cons_succ]
  refine wpAnyH_take (i := 2) (v := .bool true) (at_list rfl) (by kernel_rfl) (by kernel_rfl) (by kernel_rfl) (fun _ _ _ h => h) (Or.inl ⟨by rfl, ?_⟩) (by assumption) ?_
  · intro v hSv
    clear hHeld
    obtain ⟨qHB, qHL, qKE, qKZ, -⟩ := hSv
    clear qHB qHL qKE qKZ
    go_simp
  try simp only [Act.put, List.setIfInBounds_toArray, List.set_cons_zero, List.set_cons_succ]
  refine wpAnyH_take (i := 3) (v := .bool true) (at_list rfl) (by kernel_rfl) (by kernel_rfl) (by kernel_rfl) (fun _ _ _ h => h) (Or.inl ⟨by rfl, ?_⟩) (by assumption) ?_
  · intro v hSv
    clear hHeld
    obtain ⟨qHB, qHL, qKE, qKZ, -⟩ := hSv
    clear qHB qHL qKE qKZ
    go_simp
  try simp only [Act.put, List.setIfInBounds_toArray, List.set_cons_zero, List.set_cons_succ]
  refine wpAnyH_take (i := 4) (v := .bool true) (at_list rfl) (by kernel_rfl) (by kernel_rfl) (by kernel_rfl) (fun _ _ _ h => h) (Or.inl ⟨by rfl, ?_⟩) (by assumption) ?_
  · intro v hSv
    clear hHeld
    obtain ⟨qHB, qHL, qKE, qKZ, -⟩ := hSv
    clear qHB qHL qKE qKZ
    go_simp
  try simp only [Act.put, List.setIfInBounds_toArray, List.set_cons_zero, List.set_cons_succ]
  refine wpAnyH_take (i := 5) (v := .slice (some ⟨g3, 0, none⟩) 34 34) (at_list rfl) (by kernel_rfl) (by kernel_rfl) (by kernel_rfl) (fun _ _ _ h => h) (Or.inl ⟨by rfl, ?_⟩) (by assumption) ?_
  · intro v hSv
    clear hHeld
    obtain ⟨qHB, qHL, qKE, qKZ, -⟩ := hSv
    clear qHB qHL qKE qKZ
    go_simp
  try simp only [Act.put, List.setIfInBounds_toArray, List.set_cons_zero, List.set_cons_succ]
  refine wpAnyH_take (i := 6) (v := .string S) (at_list rfl) (by kernel_rfl) (by kernel_rfl) (by kernel_rfl) (fun _ _ _ h => h) (Or.inl ⟨by rfl, ?_⟩) (by assumption) ?_
  · intro v hSv
    clear hHeld
    obtain ⟨qHB, qHL, qKE, qKZ, -⟩ := hSv
    clear qHB qHL qKZ
    have cv := V1.out v g3 qKE
    go_simp
  try simp only [Act.put, List.setIfInBounds_toArray, List.set_cons_zero, List.set_cons_succ]
  refine wpAnyH_take (i := 7) (v := .slice (some a) L C) (at_list rfl) (by kernel_rfl) (by kernel_rfl) (by kernel_rfl) (fun _ _ _ h => h) (Or.inl ⟨by rfl, ?_⟩) (by assumption) ?_
  · intro v hSv
    clear hHeld
    obtain ⟨qHB, qHL, qKE, qKZ, -⟩ := hSv
    clear qHB qHL qKE qKZ
    go_simp
  try simp only [Act.put, List.setIfInBounds_toArray, List.set_cons_zero, List.set_cons_succ]
  refine wpAnyH_take (i := 8) (v := .slice (some a) 34 C) (at_list rfl) (by kernel_rfl) (by kernel_rfl) (by kernel_rfl) (fun _ _ _ h => h) (Or.inl ⟨by rfl, ?_⟩) (by assumption) ?_
  · intro v hSv
    clear hHeld
    obtain ⟨qHB, qHL, qKE, qKZ, -⟩ := hSv
    clear qHB qHL qKE qKZ
    go_simp
    first | done | (rw [if_pos (by omega)]; done) | (intro h; exfalso; omega) | (rw [if_pos (by omega), if_neg (by omega)]; done) | (rw [if_pos (by omega), if_pos (by omega)]; done)
  try simp only [Act.put, List.setIfInBounds_toArray, List.set_cons_zero, List.set_cons_succ]
  refine wpAnyH_take (i := 9) (v := .string S) (at_list rfl) (by kernel_rfl) (by kernel_rfl) (by kernel_rfl) (fun _ _ _ h => h) (Or.inl ⟨by rfl, ?_⟩) (by assumption) ?_
  · intro v hSv
    clear hHeld
    obtain ⟨qHB, qHL, qKE, qKZ, -⟩ := hSv
    clear qHB qHL qKE
    have cv := V2.out v qKZ
    go_simp
  try simp only [Act.put, List.setIfInBounds_toArray, List.set_cons_zero, List.set_cons_succ]
  refine wpAnyH_take (i := 10) (v := .bool true) (at_list rfl) (by kernel_rfl) (by kernel_rfl) (by kernel_rfl) (fun _ _ _ h => h) (Or.inl ⟨by rfl, ?_⟩) (by assumption) ?_
  · intro v hSv
    clear hHeld
    obtain ⟨qHB, qHL, qKE, qKZ, -⟩ := hSv
    clear qHB qHL qKE qKZ
    go_simp
  try simp only [Act.put, List.setIfInBounds_toArray, List.set_cons_zero, List.set_cons_succ]
  refine wpAnyH_take (i := 11) (v := .bool true) (at_list rfl) (by kernel_rfl) (by kernel_rfl) (by kernel_rfl) (fun _ _ _ h => h) (Or.inl ⟨by rfl, ?_⟩) (by assumption) ?_
  · intro v hSv
    clear hHeld
    obtain ⟨qHB, qHL, qKE, qKZ, -⟩ := hSv
    clear qHB qHL qKE qKZ
    go_simp
  try simp only [Act.put, List.setIfInBounds_toArray, List.set_cons_zero, List.set_cons_succ]
  refine wpAnyH_take (i := 12) (v := .bool true) (at_list rfl) (by kernel_rfl) (by kernel_rfl) (by kernel_rfl) (fun _ _ _ h => h) (Or.inl ⟨by rfl, ?_⟩) (by assumption) ?_
  · intro v hSv
    clear hHeld
    obtain ⟨qHB, qHL, qKE, qKZ, -⟩ := hSv
    clear qHB qHL qKE qKZ
    go_simp
  try simp only [Act.put, List.setIfInBounds_toArray, List.set_cons_zero, List.set_cons_succ]
  refine wpAnyH_done (by kernel_rfl) ?_ _
  refine NoPanic.normal ?_
  replace HB := Lib.hid hHeld.1
  replace HL := Lib.hid hHeld.2.1
  replace KE := Lib.hid hHeld.2.2.1
  replace KZ := Lib.hid hHeld.2.2.2.1
  clear hHeld
  go_wp2
  go_ret
  exact ⟨rfl, HB.out⟩
theorem back5_walk (h : Hd) (hok : h.p.c.ok) (hf : In64 h.f) (hc : In64 h.c) (A : Option Addr) (L C : Nat) (zs : List Int) (w : World) (hs : sliceOk .u8 w A L C zs) (hl : Lens w) :
    Calls Tryd.prog 5 #[.agg #[.int .i64 h.t, .int .i64 h.d, .int .i64 h.f, .int .i64 h.c, .int .u8 h.p.c.b0, .int .u8 h.p.c.b1, .int .u8 h.p.c.b2, .int .u8 h.p.c.b3, .int .u8 h.p.c.b4, .int .u8 h.p.c.b5, .int .u8 h.p.c.b6, .int .u8 h.p.c.b7, .int .i64 h.p.n, .int .i64 h.s, .int .i64 h.l], .slice A L C] w fun e w' => e = .returned (.bool true) ∧ Below w.heap.size w w' := by
  obtain ⟨q, G, hG, g2⟩ := dec_slice A L C zs w hs
  rcases g2 with ⟨hq, rfl⟩ | ⟨rfl, hGr, a, rfl, l1, l2, l3, hz⟩
  · cases hR : h.right
    · exact back5_nn h hok hf hc A L C q w hl hq hR hG
    · exact back5_yn h hok hf hc A L C q w hl hq hR hG
  · cases hR : h.right
    · exact back5_ny h hok hf hc a L C G w hl hGr l1 l2 l3 hz hR hG
    · exact back5_yy h hok hf hc a L C G w hl hGr l1 l2 l3 hz hR hG

end Go.Proofs.YtfjbghenlchphaaDoor
