/- Parts of this proof, one behind the other: FrameAnn, FrameEncode, FrameDecode, FrameAlive. -/
import Derived.Test.YtifhjmhekapaoaaDoorFrameB
import Derived.Test.YtifhjmhekapaoaaDoorStampAll
import Derived.Test.YtifhjmhekapaoaaDoorHeadEncode
import Derived.Test.YtifhjmhekapaoaaDoorFrameA
import Derived.Test.YtifhjmhekapaoaaDoorHeadDecode

/- The walk over frame.announced. -/
namespace Go.Proofs.YtifhjmhekapaoaaDoor
set_option maxRecDepth 100000
open Go.RowKit
set_option linter.unusedVariables false

/-- where the orders of the first assignment meet -/
def AnnCut (m : Ms) (w : World) (gK1 : Nat) (s3 s4 s6 s7 s8 s9 s10 : Value) (v : World) : Prop := ∃ g3 g4, s3 = .pointer (some ⟨g3, 0, none⟩) ∧ s4 = .pointer (some ⟨g4, 0, none⟩) ∧ s6 = .pointer (some ⟨gK1, 27, none⟩) ∧ s7 = .agg #[.int .i64 m.p1, .int .i64 m.p2, .int .i64 m.q1, .int .i64 m.q2, .int .i64 m.q3, .int .u8 m.gr.b0, .int .u8 m.gr.b1, .int .u8 m.gr.b2, .int .u8 m.gr.b3, .int .u8 m.gr.b4, .int .u8 m.gr.b5, .int .u8 m.gr.b6, .int .u8 m.gr.b7, .int .i64 m.st, .int .u8 m.sn.c.b0, .int .u8 m.sn.c.b1, .int .u8 m.sn.c.b2, .int .u8 m.sn.c.b3, .int .u8 m.sn.c.b4, .int .u8 m.sn.c.b5, .int .u8 m.sn.c.b6, .int .u8 m.sn.c.b7, .int .i64 m.sn.n, .int .u8 m.rc.c.b0, .int .u8 m.rc.c.b1, .int .u8 m.rc.c.b2, .int .u8 m.rc.c.b3, .int .u8 m.rc.c.b4, .int .u8 m.rc.c.b5, .int .u8 m.rc.c.b6, .int .u8 m.rc.c.b7, .int .i64 m.rc.n] ∧ s8 = .pointer (some ⟨gK1, 27, none⟩) ∧ s9 = .pointer (some ⟨gK1, 29, none⟩) ∧ s10 = .agg #[.int .i64 m.q1, .int .i64 m.q2, .int .i64 m.q3] ∧
  Below w.heap.size w v ∧ Holds v gK1 49 (msA m) ∧ Holds v g3 42 (setA m) ∧ Holds v g4 40 #[.int .i64 m.q1, .int .i64 m.q2, .int .i64 m.q3] ∧ w.heap.size ≤ g3
theorem size_of {w : World} {g : Nat} {t : TypeId} {cs : Array Value} (h : Holds w g t cs) : ∃ B, w.heap.size = B := ⟨_, rfl⟩
theorem gr_bytes {w : World} {g : Nat} {t : TypeId} {m : Ms} (h : Holds w g t (setA m)) : BytesAt w ⟨g, 5, none⟩ m.gr.l := by
  intro i hi
  rw [Addr.add_lit]
  refine h.reads ?_
  have hi' : i < 8 := hi
  match i, hi' with
  | 0, _ => rfl
  | 1, _ => rfl
  | 2, _ => rfl
  | 3, _ => rfl
  | 4, _ => rfl
  | 5, _ => rfl
  | 6, _ => rfl
  | 7, _ => rfl
theorem own_at {w : World} {base g n cap size : Nat} {e : TypeId} {xs : List Value} (h : w.ownsRow base e size (.slice (some ⟨g, 0, none⟩) n cap) n xs) : base ≤ g := by
  rcases h.2 with ⟨h0, _⟩ | ⟨g', cap', cur, hv, hbg, _⟩
  · cases h0
  · cases hv; exact hbg
set_option maxHeartbeats 4000000 in
theorem announced_any (m : Ms) (w : World) (hs : setB m = true) (s0 : 0 ≤ m.src) (s1 : m.src ≤ 255) :
    Calls Tryd.prog 34 #[.agg (msA m)] w fun e w' => ∃ g cap, w.heap.size ≤ g ∧ e = .returned (.slice (some ⟨g, 0, none⟩) 20 cap) ∧ BytesAt w' ⟨g, 0, none⟩ (annL m) ∧ Below w.heap.size w w' := by
  have HX : Hid ((((((beL 2 m.o ++ [0, m.p1 % 256, m.q1 % 256, m.q2 % 256]) ++ beL 2 m.q3) ++ [m.p2 % 256]) ++ m.gr.l) ++ beL 2 m.st) ++ [m.src % 256] = annL m) := by
    obtain ⟨b1, b2, b3, b4, b5, b6, b7⟩ := setB_iff.1 hs
    unfold annL
    rw [show m.p1 % 256 = m.p1 by omega, show m.q1 % 256 = m.q1 by omega, show m.q2 % 256 = m.q2 by omega, show m.p2 % 256 = m.p2 by omega, show m.src % 256 = m.src by omega]
    exact rfl
  clear hs s0 s1
  have HB := Lib.hid (Below.refl w.heap.size w)
  go_enter Tryd.func34, Tryd.ntmps34
  go_upto_region 1 with (refine big_box rfl 49 _ rfl (msA m) rfl (by kernel_rfl) ?_; intro gK1 wK1 hlK1 nK1 hbK1; have K1 := Lib.hid nK1; have LK1 := Lib.hid (Nat.le_trans (HB.out).size hlK1); replace HB := Lib.hid (bstep HB.out hbK1); clear hlK1 nK1 hbK1)
  go_cut [3, 4, 6, 7, 8, 9, 10] (fun s3 s4 s6 s7 s8 s9 s10 wx => AnnCut m w gK1 s3 s4 s6 s7 s8 s9 s10 wx)
  case first =>
    refine wp_region_held_drew (S := fun v => Below w.heap.size w v ∧ Holds v gK1 49 (msA m)) (by kernel_rfl) ?_ (fun hHeld => ?_)
    · exact ⟨bdrew HB.out, (K1.out).drew⟩
    clear K1 HB
    refine wpAnyH_take (i := 0) (v := .pointer (some ⟨gK1, 27, none⟩)) (at_list rfl) (by kernel_rfl) (by kernel_rfl) (by kernel_rfl) (fun _ _ _ h => h) (Or.inl ⟨by rfl, ?_⟩) hHeld ?_
    · intro v hSv
      clear hHeld
      go_simp
    try simp only [Act.put, List.setIfInBounds_toArray, List.set_cons_zero, List.set_cons_succ]
    refine wpAnyH_take (i := 1) (v := .agg #[.int .i64 m.p1, .int .i64 m.p2, .int .i64 m.q1, .int .i64 m.q2, .int .i64 m.q3, .int .u8 m.gr.b0, .int .u8 m.gr.b1, .int .u8 m.gr.b2, .int .u8 m.gr.b3, .int .u8 m.gr.b4, .int .u8 m.gr.b5, .int .u8 m.gr.b6, .int .u8 m.gr.b7, .int .i64 m.st, .int .u8 m.sn.c.b0, .int .u8 m.sn.c.b1, .int .u8 m.sn.c.b2, .int .u8 m.sn.c.b3, .int .u8 m.sn.c.b4, .int .u8 m.sn.c.b5, .int .u8 m.sn.c.b6, .int .u8 m.sn.c.b7, .int .i64 m.sn.n, .int .u8 m.rc.c.b0, .int .u8 m.rc.c.b1, .int .u8 m.rc.c.b2, .int .u8 m.rc.c.b3, .int .u8 m.rc.c.b4, .int .u8 m.rc.c.b5, .int .u8 m.rc.c.b6, .int .u8 m.rc.c.b7, .int .i64 m.rc.n]) (at_list rfl) (by kernel_rfl) (by kernel_rfl) (by kernel_rfl) (fun _ _ _ h => h) (yieldsIf_load_mid (by rfl) 42 _ rfl gK1 27 rfl [.int .i64 m.p1, .int .i64 m.p2, .int .i64 m.q1, .int .i64 m.q2, .int .i64 m.q3, .int .u8 m.gr.b0, .int .u8 m.gr.b1, .int .u8 m.gr.b2, .int .u8 m.gr.b3, .int .u8 m.gr.b4, .int .u8 m.gr.b5, .int .u8 m.gr.b6, .int .u8 m.gr.b7, .int .i64 m.st, .int .u8 m.sn.c.b0, .int .u8 m.sn.c.b1, .int .u8 m.sn.c.b2, .int .u8 m.sn.c.b3, .int .u8 m.sn.c.b4, .int .u8 m.sn.c.b5, .int .u8 m.sn.c.b6, .int .u8 m.sn.c.b7, .int .i64 m.sn.n, .int .u8 m.rc.c.b0, .int .u8 m.rc.c.b1, .int .u8 m.rc.c.b2, .int .u8 m.rc.c.b3, .int .u8 m.rc.c.b4, .int .u8 m.rc.c.b5, .int .u8 m.rc.c.b6, .int .u8 m.rc.c.b7, .int .i64 m.rc.n] _ (fun v hv => Holds.range hv.2 rfl) Tryd.underlying42 rfl (by kernel_rfl)) hHeld ?_
    try simp only [Act.put, List.setIfInBounds_toArray, List.set_cons_zero, List.set_cons_succ]
    refine wpAnyH_take (i := 2) (v := .pointer (some ⟨gK1, 27, none⟩)) (at_list rfl) (by kernel_rfl) (by kernel_rfl) (by kernel_rfl) (fun _ _ _ h => h) (Or.inl ⟨by rfl, ?_⟩) hHeld ?_
    · intro v hSv
      clear hHeld
      go_simp
    try simp only [Act.put, List.setIfInBounds_toArray, List.set_cons_zero, List.set_cons_succ]
    refine wpAnyH_take (i := 3) (v := .pointer (some ⟨gK1, 29, none⟩)) (at_list rfl) (by kernel_rfl) (by kernel_rfl) (by kernel_rfl) (fun _ _ _ h => h) (Or.inl ⟨by rfl, ?_⟩) hHeld ?_
    · intro v hSv
      clear hHeld
      go_simp
    try simp only [Act.put, List.setIfInBounds_toArray, List.set_cons_zero, List.set_cons_succ]
    refine wpAnyH_take (i := 4) (v := .agg #[.int .i64 m.q1, .int .i64 m.q2, .int .i64 m.q3]) (at_list rfl) (by kernel_rfl) (by kernel_rfl) (by kernel_rfl) (fun _ _ _ h => h) (yieldsIf_load_mid (by rfl) 40 _ rfl gK1 29 rfl [.int .i64 m.q1, .int .i64 m.q2, .int .i64 m.q3] _ (fun v hv => Holds.range hv.2 rfl) Tryd.underlying40 rfl (by kernel_rfl)) hHeld ?_
    try simp only [Act.put, List.setIfInBounds_toArray, List.set_cons_zero, List.set_cons_succ]
    refine wpAnyH_ready (rs := [5, 6]) (by kernel_rfl) (by simp) ?_
    refine AllReadyH.cons (at_list rfl) (fun K hK => ?_) (AllReadyH.cons (at_list rfl) (fun K hK => ?_) (AllReadyH.nil))
    · refine step_alloc (by rfl) 42 rfl #[.int .i64 0, .int .i64 0, .int .i64 0, .int .i64 0, .int .i64 0, .int .u8 0, .int .u8 0, .int .u8 0, .int .u8 0, .int .u8 0, .int .u8 0, .int .u8 0, .int .u8 0, .int .i64 0, .int .u8 0, .int .u8 0, .int .u8 0, .int .u8 0, .int .u8 0, .int .u8 0, .int .u8 0, .int .u8 0, .int .i64 0, .int .u8 0, .int .u8 0, .int .u8 0, .int .u8 0, .int .u8 0, .int .u8 0, .int .u8 0, .int .u8 0, .int .i64 0] (by kernel_rfl) ?_
      intro gK3 v5 hlK3 nK3 hbK3
      have K3 := Lib.hid nK3
      have LK3 := Lib.hid (show w.heap.size ≤ gK3 from Nat.le_trans hHeld.1.size hlK3)
      have NK3 := Lib.hid (show gK1 ≠ gK3 by have := hHeld.2.inside; omega)
      refine hK.out _ _ ?_ (fun hHeld2 => ?_)
      · exact ⟨bstep hHeld.1 hbK3, hHeld.2.keptB hbK3⟩
      clear hK K hHeld
      have hHeld := hHeld2
      clear hHeld2
      try simp only [Act.put]
      try simp only [List.setIfInBounds_toArray, List.set_cons_zero, List.set_cons_succ]
      clear hlK3 nK3 hbK3
      refine wpAnyH_ready (rs := [6]) (by kernel_rfl) (by simp) ?_
      refine AllReadyH.cons (at_list rfl) (fun K hK => ?_) (AllReadyH.nil)
      refine step_alloc (by rfl) 40 rfl #[.int .i64 0, .int .i64 0, .int .i64 0] (by kernel_rfl) ?_
      intro gK4 v6 hlK4 nK4 hbK4
      have K4 := Lib.hid nK4
      have LK4 := Lib.hid (show w.heap.size ≤ gK4 from Nat.le_trans hHeld.1.size hlK4)
      have NK4 := Lib.hid (show gK1 ≠ gK4 by have := hHeld.2.inside; omega)
      have NN := Lib.hid (show gK3 ≠ gK4 by have := (K3.out).inside; omega)
      replace K3 := Lib.hid ((K3.out).keptB hbK4)
      refine hK.out _ _ ?_ (fun hHeld2 => ?_)
      · exact ⟨bstep hHeld.1 hbK4, hHeld.2.keptB hbK4⟩
      clear hK K hHeld
      have hHeld := hHeld2
      clear hHeld2
      try simp only [Act.put]
      try simp only [List.setIfInBounds_toArray, List.set_cons_zero, List.set_cons_succ]
      clear hlK4 nK4 hbK4
      refine wpAnyH_ready (rs := [7]) (by kernel_rfl) (by simp) ?_
      refine AllReadyH.cons (at_list rfl) (fun K hK => ?_) (AllReadyH.nil)
      refine step_store (by rfl) 42 _ _ rfl gK3 0 [.int .i64 m.p1, .int .i64 m.p2, .int .i64 m.q1, .int .i64 m.q2, .int .i64 m.q3, .int .u8 m.gr.b0, .int .u8 m.gr.b1, .int .u8 m.gr.b2, .int .u8 m.gr.b3, .int .u8 m.gr.b4, .int .u8 m.gr.b5, .int .u8 m.gr.b6, .int .u8 m.gr.b7, .int .i64 m.st, .int .u8 m.sn.c.b0, .int .u8 m.sn.c.b1, .int .u8 m.sn.c.b2, .int .u8 m.sn.c.b3, .int .u8 m.sn.c.b4, .int .u8 m.sn.c.b5, .int .u8 m.sn.c.b6, .int .u8 m.sn.c.b7, .int .i64 m.sn.n, .int .u8 m.rc.c.b0, .int .u8 m.rc.c.b1, .int .u8 m.rc.c.b2, .int .u8 m.rc.c.b3, .int .u8 m.rc.c.b4, .int .u8 m.rc.c.b5, .int .u8 m.rc.c.b6, .int .u8 m.rc.c.b7, .int .i64 m.rc.n] rfl rfl K3.out (by kernel_rfl) (by kernel_rfl) (of_decide_eq_true (by kernel_rfl)) (setA m) (by kernel_rfl) ?_
      intro u7 nK3 htK3
      replace K3 := Lib.hid nK3
      replace K4 := Lib.hid ((K4.out).touch htK3 (by have := NN.out; omega))
      refine hK.out _ _ ?_ (fun hHeld2 => ?_)
      · exact ⟨btouch hHeld.1 htK3 LK3.out, hHeld.2.touch htK3 NK3.out⟩
      clear hK K hHeld
      have hHeld := hHeld2
      clear hHeld2
      try simp only [Act.put]
      clear nK3 htK3
      refine wpAnyH_ready (rs := [8]) (by kernel_rfl) (by simp) ?_
      refine AllReadyH.cons (at_list rfl) (fun K hK => ?_) (AllReadyH.nil)
      refine step_store (by rfl) 40 _ _ rfl gK4 0 [.int .i64 m.q1, .int .i64 m.q2, .int .i64 m.q3] rfl rfl K4.out (by kernel_rfl) (by kernel_rfl) (of_decide_eq_true (by kernel_rfl)) (#[.int .i64 m.q1, .int .i64 m.q2, .int .i64 m.q3]) (by kernel_rfl) ?_
      intro u8 nK4 htK4
      replace K4 := Lib.hid nK4
      replace K3 := Lib.hid ((K3.out).touch htK4 (by have := NN.out; omega))
      refine hK.out _ _ ?_ (fun hHeld2 => ?_)
      · exact ⟨btouch hHeld.1 htK4 LK4.out, hHeld.2.touch htK4 NK4.out⟩
      clear hK K hHeld
      have hHeld := hHeld2
      clear hHeld2
      try simp only [Act.put]
      clear nK4 htK4
      refine wpAnyH_done (by kernel_rfl) ?_ _
      go_wp2_with fail
      go_meet
      exact ⟨gK3, gK4, rfl, rfl, rfl, rfl, rfl, rfl, rfl, hHeld.1, hHeld.2, K3.out, K4.out, LK3.out⟩
    · refine step_alloc (by rfl) 40 rfl #[.int .i64 0, .int .i64 0, .int .i64 0] (by kernel_rfl) ?_
      intro gK4 v6 hlK4 nK4 hbK4
      have K4 := Lib.hid nK4
      have LK4 := Lib.hid (show w.heap.size ≤ gK4 from Nat.le_trans hHeld.1.size hlK4)
      have NK4 := Lib.hid (show gK1 ≠ gK4 by have := hHeld.2.inside; omega)
      refine hK.out _ _ ?_ (fun hHeld2 => ?_)
      · exact ⟨bstep hHeld.1 hbK4, hHeld.2.keptB hbK4⟩
      clear hK K hHeld
      have hHeld := hHeld2
      clear hHeld2
      try simp only [Act.put]
      try simp only [List.setIfInBounds_toArray, List.set_cons_zero, List.set_cons_succ]
      clear hlK4 nK4 hbK4
      refine wpAnyH_ready (rs := [5]) (by kernel_rfl) (by simp) ?_
      refine AllReadyH.cons (at_list rfl) (fun K hK => ?_) (AllReadyH.nil)
      refine step_alloc (by rfl) 42 rfl #[.int .i64 0, .int .i64 0, .int .i64 0, .int .i64 0, .int .i64 0, .int .u8 0, .int .u8 0, .int .u8 0, .int .u8 0, .int .u8 0, .int .u8 0, .int .u8 0, .int .u8 0, .int .i64 0, .int .u8 0, .int .u8 0, .int .u8 0, .int .u8 0, .int .u8 0, .int .u8 0, .int .u8 0, .int .u8 0, .int .i64 0, .int .u8 0, .int .u8 0, .int .u8 0, .int .u8 0, .int .u8 0, .int .u8 0, .int .u8 0, .int .u8 0, .int .i64 0] (by kernel_rfl) ?_
      intro gK3 v5 hlK3 nK3 hbK3
      have K3 := Lib.hid nK3
      have LK3 := Lib.hid (show w.heap.size ≤ gK3 from Nat.le_trans hHeld.1.size hlK3)
      have NK3 := Lib.hid (show gK1 ≠ gK3 by have := hHeld.2.inside; omega)
      have NN := Lib.hid (show gK4 ≠ gK3 by have := (K4.out).inside; omega)
      replace K4 := Lib.hid ((K4.out).keptB hbK3)
      refine hK.out _ _ ?_ (fun hHeld2 => ?_)
      · exact ⟨bstep hHeld.1 hbK3, hHeld.2.keptB hbK3⟩
      clear hK K hHeld
      have hHeld := hHeld2
      clear hHeld2
      try simp only [Act.put]
      try simp only [List.setIfInBounds_toArray, List.set_cons_zero, List.set_cons_succ]
      clear hlK3 nK3 hbK3
      refine wpAnyH_ready (rs := [7]) (by kernel_rfl) (by simp) ?_
      refine AllReadyH.cons (at_list rfl) (fun K hK => ?_) (AllReadyH.nil)
      refine step_store (by rfl) 42 _ _ rfl gK3 0 [.int .i64 m.p1, .int .i64 m.p2, .int .i64 m.q1, .int .i64 m.q2, .int .i64 m.q3, .int .u8 m.gr.b0, .int .u8 m.gr.b1, .int .u8 m.gr.b2, .int .u8 m.gr.b3, .int .u8 m.gr.b4, .int .u8 m.gr.b5, .int .u8 m.gr.b6, .int .u8 m.gr.b7, .int .i64 m.st, .int .u8 m.sn.c.b0, .int .u8 m.sn.c.b1, .int .u8 m.sn.c.b2, .int .u8 m.sn.c.b3, .int .u8 m.sn.c.b4, .int .u8 m.sn.c.b5, .int .u8 m.sn.c.b6, .int .u8 m.sn.c.b7, .int .i64 m.sn.n, .int .u8 m.rc.c.b0, .int .u8 m.rc.c.b1, .int .u8 m.rc.c.b2, .int .u8 m.rc.c.b3, .int .u8 m.rc.c.b4, .int .u8 m.rc.c.b5, .int .u8 m.rc.c.b6, .int .u8 m.rc.c.b7, .int .i64 m.rc.n] rfl rfl K3.out (by kernel_rfl) (by kernel_rfl) (of_decide_eq_true (by kernel_rfl)) (setA m) (by kernel_rfl) ?_
      intro u7 nK3 htK3
      replace K3 := Lib.hid nK3
      replace K4 := Lib.hid ((K4.out).touch htK3 (by have := NN.out; omega))
      refine hK.out _ _ ?_ (fun hHeld2 => ?_)
      · exact ⟨btouch hHeld.1 htK3 LK3.out, hHeld.2.touch htK3 NK3.out⟩
      clear hK K hHeld
      have hHeld := hHeld2
      clear hHeld2
      try simp only [Act.put]
      clear nK3 htK3
      refine wpAnyH_ready (rs := [8]) (by kernel_rfl) (by simp) ?_
      refine AllReadyH.cons (at_list rfl) (fun K hK => ?_) (AllReadyH.nil)
      refine step_store (by rfl) 40 _ _ rfl gK4 0 [.int .i64 m.q1, .int .i64 m.q2, .int .i64 m.q3] rfl rfl K4.out (by kernel_rfl) (by kernel_rfl) (of_decide_eq_true (by kernel_rfl)) (#[.int .i64 m.q1, .int .i64 m.q2, .int .i64 m.q3]) (by kernel_rfl) ?_
      intro u8 nK4 htK4
      replace K4 := Lib.hid nK4
      replace K3 := Lib.hid ((K3.out).touch htK4 (by have := NN.out; omega))
      refine hK.out _ _ ?_ (fun hHeld2 => ?_)
      · exact ⟨btouch hHeld.1 htK4 LK4.out, hHeld.2.touch htK4 NK4.out⟩
      clear hK K hHeld
      have hHeld := hHeld2
      clear hHeld2
      try simp only [Act.put]
      clear nK4 htK4
      refine wpAnyH_done (by kernel_rfl) ?_ _
      go_wp2_with fail
      go_meet
      exact ⟨gK3, gK4, rfl, rfl, rfl, rfl, rfl, rfl, rfl, hHeld.1, hHeld.2, K3.out, K4.out, LK3.out⟩
  case rest =>
    obtain ⟨gK3, gK4, rfl, rfl, rfl, rfl, rfl, rfl, rfl, hb, h1, h3, h4, hl3⟩ := hcut
    have HB := Lib.hid hb
    have K1 := Lib.hid h1
    have K3 := Lib.hid h3
    have K4 := Lib.hid h4
    clear hb h1 h3 h4 hl3
    have x26 := (K1.out).reads (i := 26) (x := .int .i64 m.o) rfl
    go_wp2_with fail
    obtain ⟨B, hB⟩ := size_of K1.out
    have TK1 := Lib.hid (show gK1 < B from by rw [← hB]; exact (K1.out).inside)
    have TK3 := Lib.hid (show gK3 < B from by rw [← hB]; exact (K3.out).inside)
    have TK4 := Lib.hid (show gK4 < B from by rw [← hB]; exact (K4.out).inside)
    have HW := Lib.hid (show w.heap.size ≤ B by rw [← hB]; exact (HB.out).size)
    have HS0 := Lib.hid (Nat.le_of_eq hB.symm)
    refine (pair_any m.o _).mono ?_
    rintro e wA ⟨gA, hggA, rfl, ngA, hwA⟩
    clear x26
    replace K1 := Lib.hid ((K1.out).keptB hwA)
    replace K3 := Lib.hid ((K3.out).keptB hwA)
    replace K4 := Lib.hid ((K4.out).keptB hwA)
    replace HB := Lib.hid (bstep HB.out hwA)
    have HS := Lib.hid (Nat.le_trans HS0.out (hwA).size)
    have HO := Lib.hid (own_row ngA (base := B) (by omega) (n := 2) rfl (by omega))
    clear ngA hggA hwA hB HS0
    have x0 := (K3.out).reads (i := 0) (x := .int .i64 m.p1) rfl
    have y0 := (K4.out).reads (i := 0) (x := .int .i64 m.q1) rfl
    have y1 := (K4.out).reads (i := 1) (x := .int .i64 m.q2) rfl
    go_wp2_with (first | (at_builtin; refine wpList_appendB rfl _ _ rfl B rfl HO.out ⟨gY, 0, none⟩ 4 4 ([0, m.p1 % 256, m.q1 % 256, m.q2 % 256]) rfl (row_bytes KY.out) rfl (by omega) (by omega) HS.out 6 rfl ?_; intro g1 cap1 w1 hown1 hb1; replace HO := Lib.hid hown1; replace K1 := Lib.hid ((K1.out).kept hb1 TK1.out); replace K3 := Lib.hid ((K3.out).kept hb1 TK3.out); replace K4 := Lib.hid ((K4.out).kept hb1 TK4.out); replace HB := Lib.hid (bbelow HB.out hb1 HW.out); replace HS := Lib.hid (Nat.le_trans HS.out (hb1).size); clear hown1 hb1 KY x0 y0 y1; have y2 := (K4.out).reads (i := 2) (x := .int .i64 m.q3) rfl) | (refine big_bytes rfl 4 _ rfl [0, m.p1 % 256, m.q1 % 256, m.q2 % 256] rfl rfl (by kernel_rfl) ?_; intro gY wY hlY nY hbY; replace HO := Lib.hid (own_below HO.out hbY); replace HS := Lib.hid (Nat.le_trans HS.out (hbY).size); replace K1 := Lib.hid ((K1.out).keptB hbY); replace K3 := Lib.hid ((K3.out).keptB hbY); replace K4 := Lib.hid ((K4.out).keptB hbY); replace HB := Lib.hid (bstep HB.out hbY); have KY := Lib.hid nY; clear nY hbY hlY))
    refine (pair_any m.q3 _).mono ?_
    rintro e wC ⟨gC, hggC, rfl, ngC, hwC⟩
    clear y2
    replace K1 := Lib.hid ((K1.out).keptB hwC)
    replace K3 := Lib.hid ((K3.out).keptB hwC)
    replace K4 := Lib.hid ((K4.out).keptB hwC)
    replace HO := Lib.hid (own_below HO.out hwC)
    replace HS := Lib.hid (Nat.le_trans HS.out (hwC).size)
    replace HB := Lib.hid (bstep HB.out hwC)
    have KY := Lib.hid ngC
    clear ngC hggC hwC
    go_wp2_with (first | (at_builtin; refine wpList_appendB rfl _ _ rfl B rfl HO.out ⟨gY, 0, none⟩ 1 1 ([m.p2 % 256]) rfl (row_bytes KY.out) rfl (by omega) (by omega) HS.out 9 rfl ?_; intro g3 cap3 w3 hown3 hb3; replace HO := Lib.hid hown3; replace K1 := Lib.hid ((K1.out).kept hb3 TK1.out); replace K3 := Lib.hid ((K3.out).kept hb3 TK3.out); replace K4 := Lib.hid ((K4.out).kept hb3 TK4.out); replace HB := Lib.hid (bbelow HB.out hb3 HW.out); replace HS := Lib.hid (Nat.le_trans HS.out (hb3).size); clear hown3 hb3 KY) | (at_builtin; refine wpList_appendB rfl _ _ rfl B rfl HO.out ⟨gK3, 5, none⟩ 8 8 (m.gr.l) rfl (gr_bytes K3.out) rfl (by omega) (by omega) HS.out 17 rfl ?_; intro g4 cap4 w4 hown4 hb4; replace HO := Lib.hid hown4; replace K1 := Lib.hid ((K1.out).kept hb4 TK1.out); replace K3 := Lib.hid ((K3.out).kept hb4 TK3.out); replace K4 := Lib.hid ((K4.out).kept hb4 TK4.out); replace HB := Lib.hid (bbelow HB.out hb4 HW.out); replace HS := Lib.hid (Nat.le_trans HS.out (hb4).size); clear hown4 hb4 x1; have x13 := (K3.out).reads (i := 13) (x := .int .i64 m.st) rfl) | (refine big_bytes rfl 1 _ rfl [m.p2 % 256] rfl rfl (by kernel_rfl) ?_; intro gY wY hlY nY hbY; replace HO := Lib.hid (own_below HO.out hbY); replace HS := Lib.hid (Nat.le_trans HS.out (hbY).size); replace K1 := Lib.hid ((K1.out).keptB hbY); replace K3 := Lib.hid ((K3.out).keptB hbY); replace K4 := Lib.hid ((K4.out).keptB hbY); replace HB := Lib.hid (bstep HB.out hbY); have KY := Lib.hid nY; clear nY hbY hlY) | (at_builtin; refine wpList_appendB rfl _ _ rfl B rfl HO.out ⟨gC, 0, none⟩ 2 2 (beL 2 m.q3) rfl (row_bytes KY.out) rfl (by omega) (by omega) HS.out 8 rfl ?_; intro g2 cap2 w2 hown2 hb2; replace HO := Lib.hid hown2; replace K1 := Lib.hid ((K1.out).kept hb2 TK1.out); replace K3 := Lib.hid ((K3.out).kept hb2 TK3.out); replace K4 := Lib.hid ((K4.out).kept hb2 TK4.out); replace HB := Lib.hid (bbelow HB.out hb2 HW.out); replace HS := Lib.hid (Nat.le_trans HS.out (hb2).size); clear hown2 hb2 KY; have x1 := (K3.out).reads (i := 1) (x := .int .i64 m.p2) rfl))
    refine (pair_any m.st _).mono ?_
    rintro e wE ⟨gE, hggE, rfl, ngE, hwE⟩
    replace K1 := Lib.hid ((K1.out).keptB hwE)
    replace K3 := Lib.hid ((K3.out).keptB hwE)
    replace K4 := Lib.hid ((K4.out).keptB hwE)
    replace HO := Lib.hid (own_below HO.out hwE)
    replace HS := Lib.hid (Nat.le_trans HS.out (hwE).size)
    replace HB := Lib.hid (bstep HB.out hwE)
    have KY := Lib.hid ngE
    clear ngE hggE hwE
    go_wp2_with (first | (at_builtin; refine wpList_appendB rfl _ _ rfl B rfl HO.out ⟨gY, 0, none⟩ 1 1 ([m.src % 256]) rfl (row_bytes KY.out) rfl (by omega) (by omega) HS.out 20 rfl ?_; intro g6 cap6 w6 hown6 hb6; replace HO := Lib.hid hown6; replace K1 := Lib.hid ((K1.out).kept hb6 TK1.out); replace K3 := Lib.hid ((K3.out).kept hb6 TK3.out); replace K4 := Lib.hid ((K4.out).kept hb6 TK4.out); replace HB := Lib.hid (bbelow HB.out hb6 HW.out); replace HS := Lib.hid (Nat.le_trans HS.out (hb6).size); clear hown6 hb6 KY) | (refine big_bytes rfl 1 _ rfl [m.src % 256] rfl rfl (by kernel_rfl) ?_; intro gY wY hlY nY hbY; replace HO := Lib.hid (own_below HO.out hbY); replace HS := Lib.hid (Nat.le_trans HS.out (hbY).size); replace K1 := Lib.hid ((K1.out).keptB hbY); replace K3 := Lib.hid ((K3.out).keptB hbY); replace K4 := Lib.hid ((K4.out).keptB hbY); replace HB := Lib.hid (bstep HB.out hbY); have KY := Lib.hid nY; clear nY hbY hlY) | (at_builtin; refine wpList_appendB rfl _ _ rfl B rfl HO.out ⟨gE, 0, none⟩ 2 2 (beL 2 m.st) rfl (row_bytes KY.out) rfl (by omega) (by omega) HS.out 19 rfl ?_; intro g5 cap5 w5 hown5 hb5; replace HO := Lib.hid hown5; replace K1 := Lib.hid ((K1.out).kept hb5 TK1.out); replace K3 := Lib.hid ((K3.out).kept hb5 TK3.out); replace K4 := Lib.hid ((K4.out).kept hb5 TK4.out); replace HB := Lib.hid (bbelow HB.out hb5 HW.out); replace HS := Lib.hid (Nat.le_trans HS.out (hb5).size); clear hown5 hb5 KY; have x59 := (K1.out).reads (i := 59) (x := .int .i64 m.src) rfl))
    go_ret
    exact ⟨_, _, Nat.le_trans HW.out (own_at HO.out), rfl, by rw [← HX.out]; exact own_bytes HO.out, HB.out⟩

end Go.Proofs.YtifhjmhekapaoaaDoor

/- The walk over frame.Encode. -/
namespace Go.Proofs.YtifhjmhekapaoaaDoor
set_option maxRecDepth 100000
open Go.RowKit
set_option linter.unusedVariables false

theorem own_base {w : World} {b c size n : Nat} {e : TypeId} {v : Value} {xs : List Value} (h : w.ownsRow b e size v n xs) (hc : c ≤ b) : w.ownsRow c e size v n xs := by
  refine ⟨h.1, h.2.imp id ?_⟩
  rintro ⟨g, cap, cur, h1, h2, h3⟩
  exact ⟨g, cap, cur, h1, Nat.le_trans hc h2, h3⟩
theorem fput_yes (s n : Int) (w : World) (hR : rightB s n = true) :
    Calls Tryd.prog 32 #[.agg #[.int .i64 s, .int .i64 n]] w fun e w' => ∃ g, w.heap.size ≤ g ∧ e = .returned (.tuple #[.slice (some ⟨g, 0, none⟩) 10 10, .int .i64 0]) ∧ Holds w' g 92 (byteCells (beL 6 s ++ beL 4 n)) ∧ Below w.heap.size w w' :=
  (put_yes s n w hR).mono fun _ _ ⟨g, h1, h2, h3, h4⟩ => ⟨g, h1, h4, h2, h3⟩
theorem fidput_yes (p : Pt) (w : World) (hf : fitB p.n = true) :
    Calls Tryd.prog 33 #[.agg #[.int .u8 p.c.b0, .int .u8 p.c.b1, .int .u8 p.c.b2, .int .u8 p.c.b3, .int .u8 p.c.b4, .int .u8 p.c.b5, .int .u8 p.c.b6, .int .u8 p.c.b7, .int .i64 p.n]] w fun e w' => ∃ g, w.heap.size ≤ g ∧ e = .returned (.tuple #[.slice (some ⟨g, 0, none⟩) 10 10, .bool true]) ∧ Holds w' g 5 (byteCells (ptL p)) ∧ Below w.heap.size w w' :=
  (idput_yes p w hf).mono fun _ _ ⟨g, h1, h2, h3, h4⟩ => ⟨g, h1, h4, h2, h3⟩
/-- a message's bytes, newly laid -/
def EncYes (zs : List Int) (w : World) (e : Ending) (w' : World) : Prop := ∃ g cap, w.heap.size ≤ g ∧ e = .returned (.tuple #[.slice (some ⟨g, 0, none⟩) zs.length cap, .bool true]) ∧ w'.ownsRow w.heap.size 5 1 (.slice (some ⟨g, 0, none⟩) zs.length cap) zs.length (zs.map (Value.int .u8)) ∧ Below w.heap.size w w'
set_option maxHeartbeats 4000000 in
theorem encM_no (m : Ms) (w : World) (hl : Lens w) (f0 : -9223372036854775808 ≤ m.h.f) (f1 : m.h.f ≤ 9223372036854775807) (hr : m.right = false) :
    Calls Tryd.prog 9 #[.agg (msA m)] w fun e w' => e = .returned (.tuple #[.slice none 0 0, .bool false]) ∧ Below w.heap.size w w' := by
  have HB := Lib.hid (Below.refl w.heap.size w)
  have LN := Lib.hid hl
  have HR := Lib.hid hr
  clear hl hr
  go_enter Tryd.func9, Tryd.ntmps9
  go_wp2_with (first | (refine big_whole rfl 49 _ rfl gK1 rfl K1.out Tryd.underlying49 rfl (by kernel_rfl) ?_) | (refine big_box rfl 49 _ rfl (msA m) rfl (by kernel_rfl) ?_; intro gK1 wK1 hlK1 nK1 hbK1; have K1 := Lib.hid nK1; have LK1 := Lib.hid (Nat.le_trans (HB.out).size hlK1); replace LN := Lib.hid ((LN.out).keptB hbK1); replace HB := Lib.hid (bstep HB.out hbK1); clear hlK1 nK1 hbK1))
  refine (fright_any m _ LN.out f0 f1).mono ?_
  rintro e w1 ⟨rfl, hw1⟩
  rw [HR.out]
  replace HB := Lib.hid (bstep HB.out hw1)
  clear hw1
  go_wp2
  go_ret2
  exact ⟨rfl, HB.out⟩
set_option maxHeartbeats 4000000 in
theorem encM_yes9 (m : Ms) (w : World) (hl : Lens w) (f0 : -9223372036854775808 ≤ m.h.f) (f1 : m.h.f ≤ 9223372036854775807) (hr : m.right = true) (h9 : m.h.t = 9) :
    Calls Tryd.prog 9 #[.agg (msA m)] w (EncYes (encM m) w) := by
  have HB := Lib.hid (Below.refl w.heap.size w)
  have LN := Lib.hid hl
  clear hl
  obtain ⟨h1, h2, h3, h4⟩ := Ms.right_iff.1 hr
  have HH := Lib.hid h1
  have HT := Lib.hid h2
  have d9 : (m.h.t == 9) = true := by simp [h9]
  have HP := Lib.hid (show fitB m.ak.n = true by unfold bodyB at h4; rw [if_pos h9, inB_iff] at h4; exact fitB_iff.2 ⟨by omega, by omega⟩)
  have HE := Lib.hid (show (encL m.h ++ (beL 6 m.ts ++ beL 4 m.tn)) ++ ptL m.ak = encM m by unfold encM tailL; rw [if_pos h9, List.append_assoc])
  have HN := Lib.hid (show (encM m).length = 54 by rw [← HE.out, List.length_append, List.length_append, encL_length, ptL_length]; rfl)
  have HR := Lib.hid hr
  clear hr h1 h2 h3 h4 h9
  go_enter Tryd.func9, Tryd.ntmps9
  go_wp2_with (first | (refine big_whole rfl 49 _ rfl gK1 rfl K1.out Tryd.underlying49 rfl (by kernel_rfl) ?_) | (refine big_box rfl 49 _ rfl (msA m) rfl (by kernel_rfl) ?_; intro gK1 wK1 hlK1 nK1 hbK1; have K1 := Lib.hid nK1; have LK1 := Lib.hid (Nat.le_trans (HB.out).size hlK1); replace LN := Lib.hid ((LN.out).keptB hbK1); replace HB := Lib.hid (bstep HB.out hbK1); clear hlK1 nK1 hbK1))
  refine (fright_any m _ LN.out f0 f1).mono ?_
  rintro e w1 ⟨rfl, hw1⟩
  rw [HR.out]
  replace HB := Lib.hid (bstep HB.out hw1)
  replace LN := Lib.hid ((LN.out).keptB hw1)
  replace K1 := Lib.hid ((K1.out).keptB hw1)
  clear hw1
  go_wp2_with ((refine big_load rfl 28 _ rfl gK1 0 rfl K1.out [.int .i64 m.h.t, .int .i64 m.h.d, .int .i64 m.h.f, .int .i64 m.h.c, .int .u8 m.h.p.c.b0, .int .u8 m.h.p.c.b1, .int .u8 m.h.p.c.b2, .int .u8 m.h.p.c.b3, .int .u8 m.h.p.c.b4, .int .u8 m.h.p.c.b5, .int .u8 m.h.p.c.b6, .int .u8 m.h.p.c.b7, .int .i64 m.h.p.n, .int .i64 m.h.s, .int .i64 m.h.l] rfl Tryd.underlying28 rfl (by kernel_rfl) ?_))
  obtain ⟨B, hB⟩ := size_of K1.out
  have TK1 := Lib.hid (show gK1 < B from by rw [← hB]; exact (K1.out).inside)
  have HW := Lib.hid (show w.heap.size ≤ B by rw [← hB]; exact (HB.out).size)
  have HS0 := Lib.hid (Nat.le_of_eq hB.symm)
  refine (encode_yes m.h _ LN.out HH.out).mono ?_
  rintro e wA ⟨gA, hggA, rfl, ngA, hwA⟩
  clear LN
  replace K1 := Lib.hid ((K1.out).keptB hwA)
  replace HB := Lib.hid (bstep HB.out hwA)
  have HS := Lib.hid (Nat.le_trans HS0.out (hwA).size)
  have HO := Lib.hid (own_row ngA (base := B) (by omega) (n := 34) (encL_length _) (by omega))
  clear ngA hggA hwA hB HS0
  go_wp2_with ((refine big_load rfl 47 _ rfl gK1 15 rfl K1.out [.int .i64 m.ts, .int .i64 m.tn] rfl Tryd.underlying47 rfl (by kernel_rfl) ?_))
  refine (fput_yes m.ts m.tn _ HT.out).mono ?_
  rintro e wT ⟨gT, hggT, rfl, ngT, hwT⟩
  replace K1 := Lib.hid ((K1.out).keptB hwT)
  replace HO := Lib.hid (own_below HO.out hwT)
  replace HS := Lib.hid (Nat.le_trans HS.out (hwT).size)
  replace HB := Lib.hid (bstep HB.out hwT)
  have KY := Lib.hid ngT
  clear ngT hggT hwT
  go_wp2_with (first | (refine big_load rfl 26 _ rfl gK1 17 rfl K1.out [.int .u8 m.ak.c.b0, .int .u8 m.ak.c.b1, .int .u8 m.ak.c.b2, .int .u8 m.ak.c.b3, .int .u8 m.ak.c.b4, .int .u8 m.ak.c.b5, .int .u8 m.ak.c.b6, .int .u8 m.ak.c.b7, .int .i64 m.ak.n] rfl Tryd.underlying26 rfl (by kernel_rfl) ?_) | (at_builtin; refine wpList_appendB rfl _ _ rfl B rfl HO.out ⟨gT, 0, none⟩ 10 10 (beL 6 m.ts ++ beL 4 m.tn) rfl (row_bytes KY.out) rfl (by omega) (by omega) HS.out 44 rfl ?_; intro g1 cap1 w1 hown1 hb1; replace HO := Lib.hid hown1; replace K1 := Lib.hid ((K1.out).kept hb1 TK1.out); replace HB := Lib.hid (bbelow HB.out hb1 HW.out); replace HS := Lib.hid (Nat.le_trans HS.out (hb1).size); clear hown1 hb1 KY; have x0 := (K1.out).reads (i := 0) (x := .int .i64 m.h.t) rfl))
  refine (fidput_yes m.ak _ HP.out).mono ?_
  rintro e wP ⟨gP, hggP, rfl, ngP, hwP⟩
  clear x0
  replace K1 := Lib.hid ((K1.out).keptB hwP)
  replace HO := Lib.hid (own_below HO.out hwP)
  replace HS := Lib.hid (Nat.le_trans HS.out (hwP).size)
  replace HB := Lib.hid (bstep HB.out hwP)
  have KY := Lib.hid ngP
  clear ngP hggP hwP
  go_wp2_with ((at_builtin; refine wpList_appendB rfl _ _ rfl B rfl HO.out ⟨gP, 0, none⟩ 10 10 (ptL m.ak) rfl (row_bytes KY.out) rfl (by omega) (by omega) HS.out 54 rfl ?_; intro g2 cap2 w2 hown2 hb2; replace HO := Lib.hid hown2; replace K1 := Lib.hid ((K1.out).kept hb2 TK1.out); replace HB := Lib.hid (bbelow HB.out hb2 HW.out); replace HS := Lib.hid (Nat.le_trans HS.out (hb2).size); clear hown2 hb2 KY))
  go_ret2
  refine ⟨g2, cap2, Nat.le_trans HW.out (own_at HO.out), ?_, ?_, HB.out⟩
  · rw [HN.out]
    rfl
  · rw [HN.out, ← HE.out]
    exact own_base HO.out HW.out
set_option maxHeartbeats 4000000 in
theorem encM_yes11 (m : Ms) (w : World) (hl : Lens w) (f0 : -9223372036854775808 ≤ m.h.f) (f1 : m.h.f ≤ 9223372036854775807) (hr : m.right = true) (h9 : ¬ m.h.t = 9) (h11 : m.h.t = 11) :
    Calls Tryd.prog 9 #[.agg (msA m)] w (EncYes (encM m) w) := by
  have HB := Lib.hid (Below.refl w.heap.size w)
  have LN := Lib.hid hl
  clear hl
  obtain ⟨h1, h2, h3, h4⟩ := Ms.right_iff.1 hr
  have HH := Lib.hid h1
  have HT := Lib.hid h2
  have d9 : (m.h.t == 9) = false := by simp [h9]
  have d11 : (m.h.t == 11) = true := by simp [h11]
  have HP := Lib.hid (show setB m = true ∧ 0 ≤ m.src ∧ m.src ≤ 255 by unfold bodyB at h4; rw [if_neg h9, if_pos h11, Bool.and_eq_true, Bool.and_eq_true, inB_iff, inB_iff] at h4; exact h4.2)
  have HE := Lib.hid (show (encL m.h ++ (beL 6 m.ts ++ beL 4 m.tn)) ++ annL m = encM m by unfold encM tailL; rw [if_neg h9, if_pos h11, List.append_assoc])
  have HN := Lib.hid (show (encM m).length = 64 by rw [← HE.out, List.length_append, List.length_append, encL_length, annL_length]; rfl)
  have HR := Lib.hid hr
  clear hr h1 h2 h3 h4 h9 h11
  go_enter Tryd.func9, Tryd.ntmps9
  go_wp2_with (first | (refine big_whole rfl 49 _ rfl gK1 rfl K1.out Tryd.underlying49 rfl (by kernel_rfl) ?_) | (refine big_box rfl 49 _ rfl (msA m) rfl (by kernel_rfl) ?_; intro gK1 wK1 hlK1 nK1 hbK1; have K1 := Lib.hid nK1; have LK1 := Lib.hid (Nat.le_trans (HB.out).size hlK1); replace LN := Lib.hid ((LN.out).keptB hbK1); replace HB := Lib.hid (bstep HB.out hbK1); clear hlK1 nK1 hbK1))
  refine (fright_any m _ LN.out f0 f1).mono ?_
  rintro e w1 ⟨rfl, hw1⟩
  rw [HR.out]
  replace HB := Lib.hid (bstep HB.out hw1)
  replace LN := Lib.hid ((LN.out).keptB hw1)
  replace K1 := Lib.hid ((K1.out).keptB hw1)
  clear hw1
  go_wp2_with ((refine big_load rfl 28 _ rfl gK1 0 rfl K1.out [.int .i64 m.h.t, .int .i64 m.h.d, .int .i64 m.h.f, .int .i64 m.h.c, .int .u8 m.h.p.c.b0, .int .u8 m.h.p.c.b1, .int .u8 m.h.p.c.b2, .int .u8 m.h.p.c.b3, .int .u8 m.h.p.c.b4, .int .u8 m.h.p.c.b5, .int .u8 m.h.p.c.b6, .int .u8 m.h.p.c.b7, .int .i64 m.h.p.n, .int .i64 m.h.s, .int .i64 m.h.l] rfl Tryd.underlying28 rfl (by kernel_rfl) ?_))
  obtain ⟨B, hB⟩ := size_of K1.out
  have TK1 := Lib.hid (show gK1 < B from by rw [← hB]; exact (K1.out).inside)
  have HW := Lib.hid (show w.heap.size ≤ B by rw [← hB]; exact (HB.out).size)
  have HS0 := Lib.hid (Nat.le_of_eq hB.symm)
  refine (encode_yes m.h _ LN.out HH.out).mono ?_
  rintro e wA ⟨gA, hggA, rfl, ngA, hwA⟩
  clear LN
  replace K1 := Lib.hid ((K1.out).keptB hwA)
  replace HB := Lib.hid (bstep HB.out hwA)
  have HS := Lib.hid (Nat.le_trans HS0.out (hwA).size)
  have HO := Lib.hid (own_row ngA (base := B) (by omega) (n := 34) (encL_length _) (by omega))
  clear ngA hggA hwA hB HS0
  go_wp2_with ((refine big_load rfl 47 _ rfl gK1 15 rfl K1.out [.int .i64 m.ts, .int .i64 m.tn] rfl Tryd.underlying47 rfl (by kernel_rfl) ?_))
  refine (fput_yes m.ts m.tn _ HT.out).mono ?_
  rintro e wT ⟨gT, hggT, rfl, ngT, hwT⟩
  replace K1 := Lib.hid ((K1.out).keptB hwT)
  replace HO := Lib.hid (own_below HO.out hwT)
  replace HS := Lib.hid (Nat.le_trans HS.out (hwT).size)
  replace HB := Lib.hid (bstep HB.out hwT)
  have KY := Lib.hid ngT
  clear ngT hggT hwT
  go_wp2_with (first | (refine big_whole rfl 49 _ rfl gK1 rfl K1.out Tryd.underlying49 rfl (by kernel_rfl) ?_) | (at_builtin; refine wpList_appendB rfl _ _ rfl B rfl HO.out ⟨gT, 0, none⟩ 10 10 (beL 6 m.ts ++ beL 4 m.tn) rfl (row_bytes KY.out) rfl (by omega) (by omega) HS.out 44 rfl ?_; intro g1 cap1 w1 hown1 hb1; replace HO := Lib.hid hown1; replace K1 := Lib.hid ((K1.out).kept hb1 TK1.out); replace HB := Lib.hid (bbelow HB.out hb1 HW.out); replace HS := Lib.hid (Nat.le_trans HS.out (hb1).size); clear hown1 hb1 KY; have x0 := (K1.out).reads (i := 0) (x := .int .i64 m.h.t) rfl))
  refine (announced_any m _ HP.out.1 HP.out.2.1 HP.out.2.2).mono ?_
  rintro e wP ⟨gP, capP, hggP, rfl, ngP, hwP⟩
  clear x0
  replace K1 := Lib.hid ((K1.out).keptB hwP)
  replace HO := Lib.hid (own_below HO.out hwP)
  replace HS := Lib.hid (Nat.le_trans HS.out (hwP).size)
  replace HB := Lib.hid (bstep HB.out hwP)
  have KY := Lib.hid ngP
  clear ngP hggP hwP
  go_wp2_with ((at_builtin; refine wpList_appendB rfl _ _ rfl B rfl HO.out ⟨gP, 0, none⟩ 20 capP (annL m) rfl (KY.out) rfl (by omega) (by omega) HS.out 64 rfl ?_; intro g2 cap2 w2 hown2 hb2; replace HO := Lib.hid hown2; replace K1 := Lib.hid ((K1.out).kept hb2 TK1.out); replace HB := Lib.hid (bbelow HB.out hb2 HW.out); replace HS := Lib.hid (Nat.le_trans HS.out (hb2).size); clear hown2 hb2 KY))
  go_ret2
  refine ⟨g2, cap2, Nat.le_trans HW.out (own_at HO.out), ?_, ?_, HB.out⟩
  · rw [HN.out]
    rfl
  · rw [HN.out, ← HE.out]
    exact own_base HO.out HW.out
set_option maxHeartbeats 4000000 in
theorem encM_yes0 (m : Ms) (w : World) (hl : Lens w) (f0 : -9223372036854775808 ≤ m.h.f) (f1 : m.h.f ≤ 9223372036854775807) (hr : m.right = true) (h9 : ¬ m.h.t = 9) (h11 : ¬ m.h.t = 11) :
    Calls Tryd.prog 9 #[.agg (msA m)] w (EncYes (encM m) w) := by
  have HB := Lib.hid (Below.refl w.heap.size w)
  have LN := Lib.hid hl
  clear hl
  obtain ⟨h1, h2, h3, h4⟩ := Ms.right_iff.1 hr
  have HH := Lib.hid h1
  have HT := Lib.hid h2
  have d9 : (m.h.t == 9) = false := by simp [h9]
  have d11 : (m.h.t == 11) = false := by simp [h11]
  have HE := Lib.hid (show encL m.h ++ (beL 6 m.ts ++ beL 4 m.tn) = encM m by unfold encM tailL; rw [if_neg h9, if_neg h11, List.append_nil])
  have HN := Lib.hid (show (encM m).length = 44 by rw [← HE.out, List.length_append, encL_length]; rfl)
  have HR := Lib.hid hr
  clear hr h1 h2 h3 h4 h9 h11
  go_enter Tryd.func9, Tryd.ntmps9
  go_wp2_with (first | (refine big_whole rfl 49 _ rfl gK1 rfl K1.out Tryd.underlying49 rfl (by kernel_rfl) ?_) | (refine big_box rfl 49 _ rfl (msA m) rfl (by kernel_rfl) ?_; intro gK1 wK1 hlK1 nK1 hbK1; have K1 := Lib.hid nK1; have LK1 := Lib.hid (Nat.le_trans (HB.out).size hlK1); replace LN := Lib.hid ((LN.out).keptB hbK1); replace HB := Lib.hid (bstep HB.out hbK1); clear hlK1 nK1 hbK1))
  refine (fright_any m _ LN.out f0 f1).mono ?_
  rintro e w1 ⟨rfl, hw1⟩
  rw [HR.out]
  replace HB := Lib.hid (bstep HB.out hw1)
  replace LN := Lib.hid ((LN.out).keptB hw1)
  replace K1 := Lib.hid ((K1.out).keptB hw1)
  clear hw1
  go_wp2_with ((refine big_load rfl 28 _ rfl gK1 0 rfl K1.out [.int .i64 m.h.t, .int .i64 m.h.d, .int .i64 m.h.f, .int .i64 m.h.c, .int .u8 m.h.p.c.b0, .int .u8 m.h.p.c.b1, .int .u8 m.h.p.c.b2, .int .u8 m.h.p.c.b3, .int .u8 m.h.p.c.b4, .int .u8 m.h.p.c.b5, .int .u8 m.h.p.c.b6, .int .u8 m.h.p.c.b7, .int .i64 m.h.p.n, .int .i64 m.h.s, .int .i64 m.h.l] rfl Tryd.underlying28 rfl (by kernel_rfl) ?_))
  obtain ⟨B, hB⟩ := size_of K1.out
  have TK1 := Lib.hid (show gK1 < B from by rw [← hB]; exact (K1.out).inside)
  have HW := Lib.hid (show w.heap.size ≤ B by rw [← hB]; exact (HB.out).size)
  have HS0 := Lib.hid (Nat.le_of_eq hB.symm)
  refine (encode_yes m.h _ LN.out HH.out).mono ?_
  rintro e wA ⟨gA, hggA, rfl, ngA, hwA⟩
  clear LN
  replace K1 := Lib.hid ((K1.out).keptB hwA)
  replace HB := Lib.hid (bstep HB.out hwA)
  have HS := Lib.hid (Nat.le_trans HS0.out (hwA).size)
  have HO := Lib.hid (own_row ngA (base := B) (by omega) (n := 34) (encL_length _) (by omega))
  clear ngA hggA hwA hB HS0
  go_wp2_with ((refine big_load rfl 47 _ rfl gK1 15 rfl K1.out [.int .i64 m.ts, .int .i64 m.tn] rfl Tryd.underlying47 rfl (by kernel_rfl) ?_))
  refine (fput_yes m.ts m.tn _ HT.out).mono ?_
  rintro e wT ⟨gT, hggT, rfl, ngT, hwT⟩
  replace K1 := Lib.hid ((K1.out).keptB hwT)
  replace HO := Lib.hid (own_below HO.out hwT)
  replace HS := Lib.hid (Nat.le_trans HS.out (hwT).size)
  replace HB := Lib.hid (bstep HB.out hwT)
  have KY := Lib.hid ngT
  clear ngT hggT hwT
  go_wp2_with ((at_builtin; refine wpList_appendB rfl _ _ rfl B rfl HO.out ⟨gT, 0, none⟩ 10 10 (beL 6 m.ts ++ beL 4 m.tn) rfl (row_bytes KY.out) rfl (by omega) (by omega) HS.out 44 rfl ?_; intro g1 cap1 w1 hown1 hb1; replace HO := Lib.hid hown1; replace K1 := Lib.hid ((K1.out).kept hb1 TK1.out); replace HB := Lib.hid (bbelow HB.out hb1 HW.out); replace HS := Lib.hid (Nat.le_trans HS.out (hb1).size); clear hown1 hb1 KY; have x0 := (K1.out).reads (i := 0) (x := .int .i64 m.h.t) rfl))
  go_ret2
  refine ⟨g1, cap1, Nat.le_trans HW.out (own_at HO.out), ?_, ?_, HB.out⟩
  · rw [HN.out]
    rfl
  · rw [HN.out, ← HE.out]
    exact own_base HO.out HW.out
theorem encM_yes (m : Ms) (w : World) (hl : Lens w) (f0 : -9223372036854775808 ≤ m.h.f) (f1 : m.h.f ≤ 9223372036854775807) (hr : m.right = true) : Calls Tryd.prog 9 #[.agg (msA m)] w (EncYes (encM m) w) := by
  by_cases h9 : m.h.t = 9
  · exact encM_yes9 m w hl f0 f1 hr h9
  · by_cases h11 : m.h.t = 11
    · exact encM_yes11 m w hl f0 f1 hr h9 h11
    · exact encM_yes0 m w hl f0 f1 hr h9 h11

end Go.Proofs.YtifhjmhekapaoaaDoor

/- The walk over frame.Decode. -/
namespace Go.Proofs.YtifhjmhekapaoaaDoor
set_option maxRecDepth 100000
open Go.RowKit
set_option linter.unusedVariables false

theorem Lens.kept {w v : World} {B : Nat} (h : Lens w) (hb : Below B w v) (hg : 0 < B) : Lens v := fun k hk => by
  rw [hb.cell (p := ⟨0, k, none⟩) hg]; exact h k hk
theorem Lens.inside {w : World} (h : Lens w) : 0 < w.heap.size := World.block_lt_of_cell? w _ (h 0 (by omega))
theorem only_below {w v : World} {B g : Nat} (h : Only [g] w.heap.size w v) (hB : B ≤ w.heap.size) (hg : B ≤ g) : Below B w v :=
  ⟨h.os, h.tape, h.output, h.size, fun k hk => h.block k (by omega) (by simp; omega)⟩
theorem BytesAt.kept {w v : World} {B : Nat} {a : Addr} {zs : List Int} (h : BytesAt w a zs) (hb : Below B w v) (hg : a.block < B) : BytesAt v a zs := h.block_ (hb.block _ hg)
theorem fdec_bad (a : Addr) (L C : Nat) (zs : List Int) (w : World) (hlen : zs.length = L) (hL : 34 ≤ L) (hC : L ≤ C) (hM : C ≤ maxLen) (hb : ∀ z ∈ zs, isByte z) (hc : BytesAt w a zs) (hl : Lens w) (hf : faultN L zs ≠ 0) :
    Calls Tryd.prog 6 #[.slice (some a) L C] w fun e w' => e = .returned (.tuple #[.agg #[.int .i64 0, .int .i64 0, .int .i64 0, .int .i64 0, .int .u8 0, .int .u8 0, .int .u8 0, .int .u8 0, .int .u8 0, .int .u8 0, .int .u8 0, .int .u8 0, .int .i64 0, .int .i64 0, .int .i64 0], .int .i64 (faultN L zs)]) ∧ Below w.heap.size w w' := by
  have h := decode_any a L C zs w hlen hL hC hM hb hc hl
  have e : decH L zs = zeroH := by unfold decH; rw [if_neg hf]
  rw [e] at h
  exact h
theorem fdec_ok (a : Addr) (L C : Nat) (zs : List Int) (w : World) (hlen : zs.length = L) (hL : 34 ≤ L) (hC : L ≤ C) (hM : C ≤ maxLen) (hb : ∀ z ∈ zs, isByte z) (hc : BytesAt w a zs) (hl : Lens w) (hf : faultN L zs = 0) (hd : Hd) (hh : hdOf zs = hd) :
    Calls Tryd.prog 6 #[.slice (some a) L C] w fun e w' => e = .returned (.tuple #[.agg #[.int .i64 hd.t, .int .i64 hd.d, .int .i64 hd.f, .int .i64 hd.c, .int .u8 hd.p.c.b0, .int .u8 hd.p.c.b1, .int .u8 hd.p.c.b2, .int .u8 hd.p.c.b3, .int .u8 hd.p.c.b4, .int .u8 hd.p.c.b5, .int .u8 hd.p.c.b6, .int .u8 hd.p.c.b7, .int .i64 hd.p.n, .int .i64 hd.s, .int .i64 hd.l], .int .i64 0]) ∧ Below w.heap.size w w' := by
  have h := decode_any a L C zs w hlen hL hC hM hb hc hl
  have e : decH L zs = hd := by unfold decH; rw [if_pos hf, hh]
  rw [e, hf] at h
  exact h
theorem lens_touch {w v : World} {g : Nat} (h : Lens w) (ht : Touch g w v) (hg : 0 ≠ g) : Lens v := fun k hk => by
  rw [World.cell?_of_block (w := w) (a := ⟨0, k, none⟩) (ht.block _ hg)]; exact h k hk
theorem size_is {w : World} {g : Nat} {t : TypeId} {cs : Array Value} (h : Holds w g t cs) : ∃ B, w.heap.size = B := ⟨_, rfl⟩
theorem size_drew (w : World) : w.heap.size = w.drew.heap.size := rfl
/-- what read tells -/
def readM (zs : List Int) : Ms := if rightB (tsOf zs) (tnOf zs) = true then mOf zs else zeroM
def readB (zs : List Int) : Bool := rightB (tsOf zs) (tnOf zs) && spareB zs
theorem read_any6 (gB : Nat) (a : Addr) (L C : Nat) (zs : List Int) (hd : Hd) (w : World) (hb : Body w gB a 34 L C) (hC : L ≤ C) (hM : C ≤ maxLen) (hz : zs.length = L) (hc : BytesAt w a zs) (hby : ∀ z ∈ zs, isByte z) (hab : a.block ≠ gB) (hf : faultN zs.length zs = 0) (hh : hdOf zs = hd) :
    Calls Tryd.prog 48 #[.agg #[.int .i64 hd.t, .int .i64 hd.d, .int .i64 hd.f, .int .i64 hd.c, .int .u8 hd.p.c.b0, .int .u8 hd.p.c.b1, .int .u8 hd.p.c.b2, .int .u8 hd.p.c.b3, .int .u8 hd.p.c.b4, .int .u8 hd.p.c.b5, .int .u8 hd.p.c.b6, .int .u8 hd.p.c.b7, .int .i64 hd.p.n, .int .i64 hd.s, .int .i64 hd.l], .func (.func 68) #[] #[.pointer (some ⟨gB, 0, none⟩)]] w fun e w' => e = .returned (.tuple #[.agg (msA (readM zs)), .bool (readB zs)]) ∧ Only [gB] w.heap.size w w' := by
  obtain ⟨h1, h2, h3⟩ := fault_long hf
  unfold readM readB spareB mOf
  subst hh
  by_cases ht : rightB (tsOf zs) (tnOf zs) = true
  · rw [if_pos ht, ht, Bool.true_and]
    by_cases h9 : (hdOf zs).t = 9
    · rw [if_pos h9, if_neg (by omega)]
      have : longN 9 = 54 := rfl
      rw [h9] at h1
      exact read_9 gB a L C zs _ w hb (by omega) hC hM hz hc hby hab ht h9
    · rw [if_neg h9]
      by_cases h11 : (hdOf zs).t = 11
      · rw [if_pos h11, if_pos h11]
        have : longN 11 = 64 := rfl
        rw [h11] at h1
        exact read_11 gB a L C zs _ w hb (by omega) hC hM hz hc hby hab ht h9 h11
      · rw [if_neg h11, if_neg h11]
        exact read_0 gB a L C zs _ w hb (by omega) hC hM hz hc hby hab ht h9 h11
  · rw [if_neg ht]
    have ht' : rightB (tsOf zs) (tnOf zs) = false := by simpa using ht
    rw [ht', Bool.false_and]
    exact read_no gB a L C zs _ w hb (by omega) hC hM hz hc hby hab ht'
theorem readM_f (zs : List Int) (hby : ∀ z ∈ zs, isByte z) : -9223372036854775808 ≤ (readM zs).h.f ∧ (readM zs).h.f ≤ 9223372036854775807 := by
  unfold readM
  split
  · rw [mOf_h]
    have h6 := getD_byte hby 6
    have h7 := getD_byte hby 7
    unfold isByte at h6 h7
    show _ ≤ zs.getD 6 0 * 256 + zs.getD 7 0 ∧ zs.getD 6 0 * 256 + zs.getD 7 0 ≤ _
    omega
  · decide
/-- where the orders of reading meet -/
def DecCut (a : Addr) (L C : Nat) (hd : Hd) (rm : Ms) (rb : Bool) (w : World) (gKR : Nat) (s6 s7 s17 s18 s19 s20 s21 s22 s23 s24 : Value) (v : World) : Prop := ∃ gB g6, s6 = .pointer (some ⟨g6, 0, none⟩) ∧ s7 = .bool rb ∧ s17 = .tuple #[.agg (msA rm), .bool rb] ∧ s18 = .agg #[.int .i64 hd.t, .int .i64 hd.d, .int .i64 hd.f, .int .i64 hd.c, .int .u8 hd.p.c.b0, .int .u8 hd.p.c.b1, .int .u8 hd.p.c.b2, .int .u8 hd.p.c.b3, .int .u8 hd.p.c.b4, .int .u8 hd.p.c.b5, .int .u8 hd.p.c.b6, .int .u8 hd.p.c.b7, .int .i64 hd.p.n, .int .i64 hd.s, .int .i64 hd.l] ∧ s19 = .slice (some a) L C ∧ s20 = .slice (some (a.add 34)) (L - 34) (C - 34) ∧ s21 = .func (.func 68) #[] #[.pointer (some ⟨gB, 0, none⟩)] ∧ s22 = .tuple #[.agg (msA rm), .bool rb] ∧ s23 = .agg (msA rm) ∧ s24 = .bool rb ∧
  Below w.heap.size w v ∧ Lens v ∧ Holds v gKR 49 (msA zeroM) ∧ Holds v g6 49 (msA rm) ∧ gKR ≠ g6 ∧ w.heap.size ≤ g6
set_option maxHeartbeats 4000000 in
theorem decM_short (A : Option Addr) (L C : Nat) (w : World) (hL : L < 34) :
    Calls Tryd.prog 15 #[.slice A L C] w fun e w' => e = .returned (.tuple #[.agg (msA zeroM), .int .i64 50]) ∧ Below w.heap.size w w' := by
  have HB := Lib.hid (Below.refl w.heap.size w)
  have C1 : Hid (∀ v, Calls Tryd.prog 6 #[.slice A L C] v fun e w' => e = .returned (.tuple #[.agg #[.int .i64 0, .int .i64 0, .int .i64 0, .int .i64 0, .int .u8 0, .int .u8 0, .int .u8 0, .int .u8 0, .int .u8 0, .int .u8 0, .int .u8 0, .int .u8 0, .int .i64 0, .int .i64 0, .int .i64 0], .int .i64 50]) ∧ Below v.heap.size v w') := fun v => decode_short A L C v hL
  clear hL
  go_enter Tryd.func15, Tryd.ntmps15
  go_wp2_with ((refine big_alloc rfl 49 rfl (msA zeroM) (by kernel_rfl) ?_; intro gKR wKR hlKR nKR hbKR; have KR := Lib.hid nKR; have LKR := Lib.hid (Nat.le_trans (HB.out).size hlKR); replace HB := Lib.hid (bstep HB.out hbKR); clear hlKR nKR hbKR))
  refine ((C1.out) _).mono ?_
  rintro e w1 ⟨rfl, hw1⟩
  replace KR := Lib.hid ((KR.out).keptB hw1)
  replace HB := Lib.hid (bstep HB.out hw1)
  clear hw1
  go_wp2_with (first | (refine big_fill rfl 49 _ _ rfl gKR (msA zeroM) rfl rfl KR.out (by kernel_rfl) (by kernel_rfl) (by kernel_rfl) ?_; intro vKR3 nKR htKR; replace KR := Lib.hid nKR; replace KH := Lib.hid ((KH.out).touch htKR (by have := NKRKH.out; omega)); replace HB := Lib.hid (btouch HB.out htKR LKR.out); clear nKR htKR) | (refine big_build rfl 49 _ rfl (msA zeroM) (by kernel_rfl) ?_) | (refine big_fill rfl 28 _ _ rfl gKH (#[.int .i64 0, .int .i64 0, .int .i64 0, .int .i64 0, .int .u8 0, .int .u8 0, .int .u8 0, .int .u8 0, .int .u8 0, .int .u8 0, .int .u8 0, .int .u8 0, .int .i64 0, .int .i64 0, .int .i64 0]) rfl rfl KH.out (by kernel_rfl) (by kernel_rfl) (by kernel_rfl) ?_; intro vKH0 nKH htKH; replace KH := Lib.hid nKH; replace KR := Lib.hid ((KR.out).touch htKH (by have := NKRKH.out; omega)); replace HB := Lib.hid (btouch HB.out htKH LKH.out); clear nKH htKH) | (refine big_alloc rfl 28 rfl (#[.int .i64 0, .int .i64 0, .int .i64 0, .int .i64 0, .int .u8 0, .int .u8 0, .int .u8 0, .int .u8 0, .int .u8 0, .int .u8 0, .int .u8 0, .int .u8 0, .int .i64 0, .int .i64 0, .int .i64 0]) (by kernel_rfl) ?_; intro gKH wKH hlKH nKH hbKH; have KH := Lib.hid nKH; have LKH := Lib.hid (Nat.le_trans (HB.out).size hlKH); have NKRKH := Lib.hid (show gKR ≠ gKH by have := (KR.out).inside; omega); replace KR := Lib.hid ((KR.out).keptB hbKH); replace HB := Lib.hid (bstep HB.out hbKH); clear hlKH nKH hbKH))
  refine bodyPost_ret (results_two rfl _ _ gKR _ (msA zeroM) (.int .i64 (50)) _ rfl rfl KR.out Tryd.underlying49 rfl (by kernel_rfl)) rfl ⟨?_, HB.out⟩
  rfl
set_option maxHeartbeats 4000000 in
theorem decM_bad (a : Addr) (L C : Nat) (zs : List Int) (w : World) (hlen : zs.length = L) (hL : 34 ≤ L) (hC : L ≤ C) (hM : C ≤ maxLen) (hb : ∀ z ∈ zs, isByte z) (hc : BytesAt w a zs) (hl : Lens w) (hf : faultN L zs ≠ 0) :
    Calls Tryd.prog 15 #[.slice (some a) L C] w fun e w' => e = .returned (.tuple #[.agg (msA zeroM), .int .i64 (faultN L zs)]) ∧ Below w.heap.size w w' := by
  have HB := Lib.hid (Below.refl w.heap.size w)
  have C1 : Hid (∀ v, BytesAt v a zs → Lens v → Calls Tryd.prog 6 #[.slice (some a) L C] v fun e w' => e = .returned (.tuple #[.agg #[.int .i64 0, .int .i64 0, .int .i64 0, .int .i64 0, .int .u8 0, .int .u8 0, .int .u8 0, .int .u8 0, .int .u8 0, .int .u8 0, .int .u8 0, .int .u8 0, .int .i64 0, .int .i64 0, .int .i64 0], .int .i64 (faultN L zs)]) ∧ Below v.heap.size v w') := fun v h1 h2 => fdec_bad a L C zs v hlen hL hC hM hb h1 h2 hf
  have BA := Lib.hid hc
  have LN := Lib.hid hl
  obtain ⟨n, hn⟩ : ∃ n, faultN L zs = n := ⟨_, rfl⟩
  rw [hn] at hf C1 ⊢
  have dn : (n != 0) = true := by simpa using hf
  clear hlen hL hC hM hb hc hl hf hn
  go_enter Tryd.func15, Tryd.ntmps15
  go_wp2_with ((refine big_alloc rfl 49 rfl (msA zeroM) (by kernel_rfl) ?_; intro gKR wKR hlKR nKR hbKR; have KR := Lib.hid nKR; have LKR := Lib.hid (Nat.le_trans (HB.out).size hlKR); replace BA := Lib.hid ((BA.out).keptB hbKR); replace LN := Lib.hid ((LN.out).keptB hbKR); replace HB := Lib.hid (bstep HB.out hbKR); clear hlKR nKR hbKR))
  refine ((C1.out) _ BA.out LN.out).mono ?_
  rintro e w1 ⟨rfl, hw1⟩
  replace KR := Lib.hid ((KR.out).keptB hw1)
  replace HB := Lib.hid (bstep HB.out hw1)
  clear hw1
  go_wp2_with (first | (refine big_fill rfl 49 _ _ rfl gKR (msA zeroM) rfl rfl KR.out (by kernel_rfl) (by kernel_rfl) (by kernel_rfl) ?_; intro vKR3 nKR htKR; replace KR := Lib.hid nKR; replace KH := Lib.hid ((KH.out).touch htKR (by have := NKRKH.out; omega)); replace HB := Lib.hid (btouch HB.out htKR LKR.out); clear nKR htKR) | (refine big_build rfl 49 _ rfl (msA zeroM) (by kernel_rfl) ?_) | (refine big_fill rfl 28 _ _ rfl gKH (#[.int .i64 0, .int .i64 0, .int .i64 0, .int .i64 0, .int .u8 0, .int .u8 0, .int .u8 0, .int .u8 0, .int .u8 0, .int .u8 0, .int .u8 0, .int .u8 0, .int .i64 0, .int .i64 0, .int .i64 0]) rfl rfl KH.out (by kernel_rfl) (by kernel_rfl) (by kernel_rfl) ?_; intro vKH0 nKH htKH; replace KH := Lib.hid nKH; replace KR := Lib.hid ((KR.out).touch htKH (by have := NKRKH.out; omega)); replace HB := Lib.hid (btouch HB.out htKH LKH.out); clear nKH htKH) | (refine big_alloc rfl 28 rfl (#[.int .i64 0, .int .i64 0, .int .i64 0, .int .i64 0, .int .u8 0, .int .u8 0, .int .u8 0, .int .u8 0, .int .u8 0, .int .u8 0, .int .u8 0, .int .u8 0, .int .i64 0, .int .i64 0, .int .i64 0]) (by kernel_rfl) ?_; intro gKH wKH hlKH nKH hbKH; have KH := Lib.hid nKH; have LKH := Lib.hid (Nat.le_trans (HB.out).size hlKH); have NKRKH := Lib.hid (show gKR ≠ gKH by have := (KR.out).inside; omega); replace KR := Lib.hid ((KR.out).keptB hbKH); replace HB := Lib.hid (bstep HB.out hbKH); clear hlKH nKH hbKH))
  refine bodyPost_ret (results_two rfl _ _ gKR _ (msA zeroM) (.int .i64 (n)) _ rfl rfl KR.out Tryd.underlying49 rfl (by kernel_rfl)) rfl ⟨?_, HB.out⟩
  rfl
set_option maxHeartbeats 4000000 in
theorem decM_wayA (a : Addr) (L C : Nat) (zs : List Int) (w : World) (hd : Hd) (rm : Ms) (rb : Bool) (E : Value) (hE : E = .tuple #[.agg (msA zeroM), .int .i64 60]) (hz : zs.length = L) (hL : 44 ≤ L) (hC : L ≤ C) (hM : C ≤ maxLen) (hc : BytesAt w a zs) (hl : Lens w) (f0 : -9223372036854775808 ≤ rm.h.f) (f1 : rm.h.f ≤ 9223372036854775807)
    (hC1 : ∀ v, BytesAt v a zs → Lens v → Calls Tryd.prog 6 #[.slice (some a) L C] v fun e w' => e = .returned (.tuple #[.agg #[.int .i64 hd.t, .int .i64 hd.d, .int .i64 hd.f, .int .i64 hd.c, .int .u8 hd.p.c.b0, .int .u8 hd.p.c.b1, .int .u8 hd.p.c.b2, .int .u8 hd.p.c.b3, .int .u8 hd.p.c.b4, .int .u8 hd.p.c.b5, .int .u8 hd.p.c.b6, .int .u8 hd.p.c.b7, .int .i64 hd.p.n, .int .i64 hd.s, .int .i64 hd.l], .int .i64 0]) ∧ Below v.heap.size v w')
    (hCR : ∀ gB v, Body v gB a 34 L C → BytesAt v a zs → a.block ≠ gB → Calls Tryd.prog 48 #[.agg #[.int .i64 hd.t, .int .i64 hd.d, .int .i64 hd.f, .int .i64 hd.c, .int .u8 hd.p.c.b0, .int .u8 hd.p.c.b1, .int .u8 hd.p.c.b2, .int .u8 hd.p.c.b3, .int .u8 hd.p.c.b4, .int .u8 hd.p.c.b5, .int .u8 hd.p.c.b6, .int .u8 hd.p.c.b7, .int .i64 hd.p.n, .int .i64 hd.s, .int .i64 hd.l], .func (.func 68) #[] #[.pointer (some ⟨gB, 0, none⟩)]] v fun e w' => e = .returned (.tuple #[.agg (msA rm), .bool rb]) ∧ Only [gB] v.heap.size v w') (hrb : rb = false) :
    Calls Tryd.prog 15 #[.slice (some a) L C] w fun e w' => e = .returned E ∧ Below w.heap.size w w' := by
  have HB := Lib.hid (Below.refl w.heap.size w)
  have HX := Lib.hid (congrArg Ending.returned hE)
  have BA := Lib.hid hc
  have LN := Lib.hid hl
  have C1 := Lib.hid hC1
  have CR := Lib.hid hCR
  have HSL : Hid (∀ v, (Instr.sliceAt 22 (.slice (some a) L C) (some (.int .i64 34)) none none).run Tryd.prog v = .ok (.slice (some (a.add 34)) (L - 34) (C - 34)) v) := by
    intro v
    rw [run_sliceAt_slice _ _ _ _ _ _ (by kernel_rfl), run_slice_l v _ _ _ _ (by kernel_rfl) .i64 34 (by omega) (by omega)]
    show Result.ok (sliced _ _ _ _ _) v = _
    unfold sliced
    rw [if_neg (by omega)]
    rfl
  have HRB := Lib.hid hrb
  clear hc hl hC1 hCR hE hrb
  go_enter Tryd.func15, Tryd.ntmps15
  go_wp2_with ((refine big_alloc rfl 49 rfl (msA zeroM) (by kernel_rfl) ?_; intro gKR wKR hlKR nKR hbKR; have KR := Lib.hid nKR; have LKR := Lib.hid (Nat.le_trans (HB.out).size hlKR); replace BA := Lib.hid ((BA.out).keptB hbKR); replace LN := Lib.hid ((LN.out).keptB hbKR); replace HB := Lib.hid (bstep HB.out hbKR); clear hlKR nKR hbKR))
  refine ((C1.out) _ BA.out LN.out).mono ?_
  rintro e w1 ⟨rfl, hw1⟩
  replace KR := Lib.hid ((KR.out).keptB hw1)
  replace BA := Lib.hid ((BA.out).keptB hw1)
  replace LN := Lib.hid ((LN.out).keptB hw1)
  replace HB := Lib.hid (bstep HB.out hw1)
  clear hw1 C1
  go_upto_region 4 with (first | (refine big_fill rfl 28 _ _ rfl gKH (#[.int .i64 hd.t, .int .i64 hd.d, .int .i64 hd.f, .int .i64 hd.c, .int .u8 hd.p.c.b0, .int .u8 hd.p.c.b1, .int .u8 hd.p.c.b2, .int .u8 hd.p.c.b3, .int .u8 hd.p.c.b4, .int .u8 hd.p.c.b5, .int .u8 hd.p.c.b6, .int .u8 hd.p.c.b7, .int .i64 hd.p.n, .int .i64 hd.s, .int .i64 hd.l]) rfl rfl KH.out (by kernel_rfl) (by kernel_rfl) (by kernel_rfl) ?_; intro vKH0 nKH htKH; replace KH := Lib.hid nKH; replace KR := Lib.hid ((KR.out).touch htKH (by have := NKRKH.out; omega)); replace BA := Lib.hid ((BA.out).touch htKH NAH.out); replace LN := Lib.hid (lens_touch LN.out htKH NLH.out); replace HB := Lib.hid (btouch HB.out htKH LKH.out); clear nKH htKH) | (refine big_alloc rfl 28 rfl (#[.int .i64 0, .int .i64 0, .int .i64 0, .int .i64 0, .int .u8 0, .int .u8 0, .int .u8 0, .int .u8 0, .int .u8 0, .int .u8 0, .int .u8 0, .int .u8 0, .int .i64 0, .int .i64 0, .int .i64 0]) (by kernel_rfl) ?_; intro gKH wKH hlKH nKH hbKH; have KH := Lib.hid nKH; have LKH := Lib.hid (Nat.le_trans (HB.out).size hlKH); have NKRKH := Lib.hid (show gKR ≠ gKH by have := (KR.out).inside; omega); replace KR := Lib.hid ((KR.out).keptB hbKH); have NAH := Lib.hid (show a.block ≠ gKH by have := (BA.out).inside (by omega); omega); have NLH := Lib.hid (show 0 ≠ gKH by have := (LN.out).inside; omega); replace BA := Lib.hid ((BA.out).keptB hbKH); replace LN := Lib.hid ((LN.out).keptB hbKH); replace HB := Lib.hid (bstep HB.out hbKH); clear hlKH nKH hbKH))
  go_cut [6, 7, 17, 18, 19, 20, 21, 22, 23, 24] (fun s6 s7 s17 s18 s19 s20 s21 s22 s23 s24 wx => DecCut a L C hd rm rb w gKR s6 s7 s17 s18 s19 s20 s21 s22 s23 s24 wx)
  case first =>
    refine wp_region_noPanic ?_
    obtain ⟨B, hB⟩ := size_is KH.out
    have TL := Lib.hid (show 0 < B from by rw [← hB]; exact (LN.out).inside)
    have TR := Lib.hid (show gKR < B from by rw [← hB]; exact (KR.out).inside)
    have TH := Lib.hid (show gKH < B from by rw [← hB]; exact (KH.out).inside)
    have TA := Lib.hid (show a.block < B from by rw [← hB]; exact (BA.out).inside (by omega))
    have TW := Lib.hid (show w.heap.size ≤ B by rw [← hB]; exact (HB.out).size)
    refine wp_region_held_drew (S := fun v => Below w.heap.size w v ∧ Lens v ∧ Holds v gKR 49 (msA zeroM) ∧ Holds v gKH 28 #[.int .i64 hd.t, .int .i64 hd.d, .int .i64 hd.f, .int .i64 hd.c, .int .u8 hd.p.c.b0, .int .u8 hd.p.c.b1, .int .u8 hd.p.c.b2, .int .u8 hd.p.c.b3, .int .u8 hd.p.c.b4, .int .u8 hd.p.c.b5, .int .u8 hd.p.c.b6, .int .u8 hd.p.c.b7, .int .i64 hd.p.n, .int .i64 hd.s, .int .i64 hd.l] ∧ BytesAt v a zs) (by kernel_rfl) ?_ (fun hHeld => ?_)
    · exact ⟨bdrew HB.out, (LN.out).drew, (KR.out).drew, (KH.out).drew, (BA.out).drew⟩
    have HS : Hid (B ≤ _) := Lib.hid (Nat.le_of_eq (hB.symm.trans (size_drew _)))
    clear HB LN KR KH BA hB
    refine wpAnyH_take (i := 0) (v := .agg #[.int .i64 hd.t, .int .i64 hd.d, .int .i64 hd.f, .int .i64 hd.c, .int .u8 hd.p.c.b0, .int .u8 hd.p.c.b1, .int .u8 hd.p.c.b2, .int .u8 hd.p.c.b3, .int .u8 hd.p.c.b4, .int .u8 hd.p.c.b5, .int .u8 hd.p.c.b6, .int .u8 hd.p.c.b7, .int .i64 hd.p.n, .int .i64 hd.s, .int .i64 hd.l]) (at_list rfl) (by kernel_rfl) (by kernel_rfl) (by kernel_rfl) (fun _ _ _ h => h) (yieldsIf_load_mid (by rfl) 28 _ rfl gKH 0 rfl [.int .i64 hd.t, .int .i64 hd.d, .int .i64 hd.f, .int .i64 hd.c, .int .u8 hd.p.c.b0, .int .u8 hd.p.c.b1, .int .u8 hd.p.c.b2, .int .u8 hd.p.c.b3, .int .u8 hd.p.c.b4, .int .u8 hd.p.c.b5, .int .u8 hd.p.c.b6, .int .u8 hd.p.c.b7, .int .i64 hd.p.n, .int .i64 hd.s, .int .i64 hd.l] _ (fun v hv => Holds.range hv.2.2.2.1 rfl) Tryd.underlying28 rfl (by kernel_rfl)) hHeld ?_
    try simp only [Act.put, List.setIfInBounds_toArray, List.set_cons_zero, List.set_cons_succ]
    refine wpAnyH_take (i := 1) (v := .slice (some a) L C) (at_list rfl) (by kernel_rfl) (by kernel_rfl) (by kernel_rfl) (fun _ _ _ h => h) (Or.inl ⟨by rfl, ?_⟩) hHeld ?_
    · intro v hSv
      clear hHeld
      go_simp
    try simp only [Act.put, List.setIfInBounds_toArray, List.set_cons_zero, List.set_cons_succ]
    refine wpAnyH_take (i := 2) (v := .slice (some (a.add 34)) (L - 34) (C - 34)) (at_list rfl) (by kernel_rfl) (by kernel_rfl) (by kernel_rfl) (fun _ _ _ h => h) (Or.inl ⟨by rfl, ?_⟩) hHeld ?_
    · intro v hSv
      clear hHeld
      clear hSv
      have hsl := HSL.out v
      go_simp
    try simp only [Act.put, List.setIfInBounds_toArray, List.set_cons_zero, List.set_cons_succ]
    refine wpAnyH_ready (rs := [3, 8]) (by kernel_rfl) (by simp) ?_
    refine AllReadyH.cons (at_list rfl) (fun K hK => ?_) (AllReadyH.cons (at_list rfl) (fun K hK => ?_) (AllReadyH.nil))
    · go_simp
      refine (taker_any a L C _).mono ?_
      rintro e y1 ⟨gB, hgB, rfl, hbB, hy1⟩
      have BD := Lib.hid hbB
      have LB := Lib.hid (show B ≤ gB from Nat.le_trans HS.out hgB)
      have NAB := Lib.hid (show a.block ≠ gB by have := TA.out; have := LB.out; omega)
      replace HS := Lib.hid (Nat.le_trans HS.out (hy1).size)
      go_wp2_with fail
      refine hK.out _ _ ?_ (fun hHeld2 => ?_)
      · exact ⟨bstep hHeld.1 hy1, hHeld.2.1.keptB hy1, hHeld.2.2.1.keptB hy1, hHeld.2.2.2.1.keptB hy1, hHeld.2.2.2.2.keptB hy1⟩
      clear hK K hHeld
      have hHeld := hHeld2
      clear hHeld2 hy1 hbB hgB
      try simp only [Act.put, List.setIfInBounds_toArray, List.set_cons_zero, List.set_cons_succ]
      refine wpAnyH_ready (rs := [4, 8]) (by kernel_rfl) (by simp) ?_
      refine AllReadyH.cons (at_list rfl) (fun K hK => ?_) (AllReadyH.cons (at_list rfl) (fun K hK => ?_) (AllReadyH.nil))
      · go_simp
        refine ((CR.out) gB _ BD.out hHeld.2.2.2.2 NAB.out).mono ?_
        rintro e y2 ⟨rfl, ho2⟩
        have hy2 := only_below ho2 HS.out LB.out
        replace HS := Lib.hid (Nat.le_trans HS.out (hy2).size)
        go_wp2_with fail
        refine hK.out _ _ ?_ (fun hHeld2 => ?_)
        · exact ⟨bbelow hHeld.1 hy2 TW.out, hHeld.2.1.kept hy2 TL.out, hHeld.2.2.1.kept hy2 TR.out, hHeld.2.2.2.1.kept hy2 TH.out, hHeld.2.2.2.2.kept hy2 TA.out⟩
        clear hK K hHeld
        have hHeld := hHeld2
        clear hHeld2 hy2 ho2 BD
        try simp only [Act.put, List.setIfInBounds_toArray, List.set_cons_zero, List.set_cons_succ]
        refine wpAnyH_take (i := 5) (v := .tuple #[.agg (msA rm), .bool rb]) (at_list rfl) (by kernel_rfl) (by kernel_rfl) (by kernel_rfl) (fun _ _ _ h => h) (Or.inl ⟨by rfl, ?_⟩) hHeld ?_
        · intro v hSv
          clear hHeld
          go_simp
        try simp only [Act.put, List.setIfInBounds_toArray, List.set_cons_zero, List.set_cons_succ]
        refine wpAnyH_take (i := 6) (v := .agg (msA rm)) (at_list rfl) (by kernel_rfl) (by kernel_rfl) (by kernel_rfl) (fun _ _ _ h => h) (Or.inl ⟨by rfl, ?_⟩) hHeld ?_
        · intro v hSv
          clear hHeld
          go_simp
        try simp only [Act.put, List.setIfInBounds_toArray, List.set_cons_zero, List.set_cons_succ]
        refine wpAnyH_take (i := 7) (v := .bool rb) (at_list rfl) (by kernel_rfl) (by kernel_rfl) (by kernel_rfl) (fun _ _ _ h => h) (Or.inl ⟨by rfl, ?_⟩) hHeld ?_
        · intro v hSv
          clear hHeld
          go_simp
        try simp only [Act.put, List.setIfInBounds_toArray, List.set_cons_zero, List.set_cons_succ]
        refine wpAnyH_ready (rs := [8]) (by kernel_rfl) (by simp) ?_
        refine AllReadyH.cons (at_list rfl) (fun K hK => ?_) (AllReadyH.nil)
        refine step_alloc (by rfl) 49 rfl (msA zeroM) (by kernel_rfl) ?_
        intro g6 y3 hl6 n6 hy3
        have K6 := Lib.hid n6
        have L6 := Lib.hid (show w.heap.size ≤ g6 from Nat.le_trans hHeld.1.size hl6)
        have NL6 := Lib.hid (show 0 ≠ g6 by have := hHeld.2.1.inside; omega)
        have NR6 := Lib.hid (show gKR ≠ g6 by have := hHeld.2.2.1.inside; omega)
        have NH6 := Lib.hid (show gKH ≠ g6 by have := hHeld.2.2.2.1.inside; omega)
        have NA6 := Lib.hid (show a.block ≠ g6 by have := hHeld.2.2.2.2.inside (by omega); omega)
        replace HS := Lib.hid (Nat.le_trans HS.out (hy3).size)
        refine hK.out _ _ ?_ (fun hHeld2 => ?_)
        · exact ⟨bstep hHeld.1 hy3, hHeld.2.1.keptB hy3, hHeld.2.2.1.keptB hy3, hHeld.2.2.2.1.keptB hy3, hHeld.2.2.2.2.keptB hy3⟩
        clear hK K hHeld
        have hHeld := hHeld2
        clear hHeld2
        try simp only [Act.put]
        try simp only [List.setIfInBounds_toArray, List.set_cons_zero, List.set_cons_succ]
        clear hl6 n6 hy3
        refine wpAnyH_ready (rs := [9]) (by kernel_rfl) (by simp) ?_
        refine AllReadyH.cons (at_list rfl) (fun K hK => ?_) (AllReadyH.nil)
        refine step_store (by rfl) 49 _ _ rfl g6 0 (msA rm).toList rfl rfl K6.out (by kernel_rfl) (by kernel_rfl) (of_decide_eq_true (by kernel_rfl)) (msA rm) (by kernel_rfl) ?_
        intro y4 n6 hy4
        replace K6 := Lib.hid n6
        refine hK.out _ _ ?_ (fun hHeld2 => ?_)
        · exact ⟨btouch hHeld.1 hy4 L6.out, lens_touch hHeld.2.1 hy4 (by have := NL6.out; omega), hHeld.2.2.1.touch hy4 NR6.out, hHeld.2.2.2.1.touch hy4 NH6.out, hHeld.2.2.2.2.touch hy4 NA6.out⟩
        clear hK K hHeld
        have hHeld := hHeld2
        clear hHeld2
        try simp only [Act.put]
        clear n6 hy4
        refine wpAnyH_take (i := 10) (v := .bool rb) (at_list rfl) (by kernel_rfl) (by kernel_rfl) (by kernel_rfl) (fun _ _ _ h => h) (Or.inl ⟨by rfl, ?_⟩) hHeld ?_
        · intro v hSv
          clear hHeld
          go_simp
        try simp only [Act.put, List.setIfInBounds_toArray, List.set_cons_zero, List.set_cons_succ]
        refine wpAnyH_done (by kernel_rfl) ?_ _
        refine NoPanic.normal ?_
        go_wp2_with fail
        go_meet
        exact ⟨gB, g6, rfl, rfl, rfl, rfl, rfl, rfl, rfl, rfl, rfl, rfl, hHeld.1, hHeld.2.1, hHeld.2.2.1, K6.out, NR6.out, L6.out⟩
      · refine step_alloc (by rfl) 49 rfl (msA zeroM) (by kernel_rfl) ?_
        intro g6 y5 hl6 n6 hy5
        have K6 := Lib.hid n6
        have L6 := Lib.hid (show w.heap.size ≤ g6 from Nat.le_trans hHeld.1.size hl6)
        have NL6 := Lib.hid (show 0 ≠ g6 by have := hHeld.2.1.inside; omega)
        have NR6 := Lib.hid (show gKR ≠ g6 by have := hHeld.2.2.1.inside; omega)
        have NH6 := Lib.hid (show gKH ≠ g6 by have := hHeld.2.2.2.1.inside; omega)
        have NA6 := Lib.hid (show a.block ≠ g6 by have := hHeld.2.2.2.2.inside (by omega); omega)
        have N6B := Lib.hid (show g6 ≠ gB by have := (BD.out).inside; omega)
        replace BD := Lib.hid ((BD.out).keptB hy5)
        replace HS := Lib.hid (Nat.le_trans HS.out (hy5).size)
        refine hK.out _ _ ?_ (fun hHeld2 => ?_)
        · exact ⟨bstep hHeld.1 hy5, hHeld.2.1.keptB hy5, hHeld.2.2.1.keptB hy5, hHeld.2.2.2.1.keptB hy5, hHeld.2.2.2.2.keptB hy5⟩
        clear hK K hHeld
        have hHeld := hHeld2
        clear hHeld2
        try simp only [Act.put]
        try simp only [List.setIfInBounds_toArray, List.set_cons_zero, List.set_cons_succ]
        clear hl6 n6 hy5
        refine wpAnyH_ready (rs := [4]) (by kernel_rfl) (by simp) ?_
        refine AllReadyH.cons (at_list rfl) (fun K hK => ?_) (AllReadyH.nil)
        go_simp
        refine ((CR.out) gB _ BD.out hHeld.2.2.2.2 NAB.out).mono ?_
        rintro e y6 ⟨rfl, ho6⟩
        have hy6 := only_below ho6 HS.out LB.out
        replace K6 := Lib.hid ((K6.out).only ho6 (by have := N6B.out; simp; omega))
        replace HS := Lib.hid (Nat.le_trans HS.out (hy6).size)
        go_wp2_with fail
        refine hK.out _ _ ?_ (fun hHeld2 => ?_)
        · exact ⟨bbelow hHeld.1 hy6 TW.out, hHeld.2.1.kept hy6 TL.out, hHeld.2.2.1.kept hy6 TR.out, hHeld.2.2.2.1.kept hy6 TH.out, hHeld.2.2.2.2.kept hy6 TA.out⟩
        clear hK K hHeld
        have hHeld := hHeld2
        clear hHeld2 hy6 ho6 BD
        try simp only [Act.put, List.setIfInBounds_toArray, List.set_cons_zero, List.set_cons_succ]
        refine wpAnyH_take (i := 5) (v := .tuple #[.agg (msA rm), .bool rb]) (at_list rfl) (by kernel_rfl) (by kernel_rfl) (by kernel_rfl) (fun _ _ _ h => h) (Or.inl ⟨by rfl, ?_⟩) hHeld ?_
        · intro v hSv
          clear hHeld
          go_simp
        try simp only [Act.put, List.setIfInBounds_toArray, List.set_cons_zero, List.set_cons_succ]
        refine wpAnyH_take (i := 6) (v := .agg (msA rm)) (at_list rfl) (by kernel_rfl) (by kernel_rfl) (by kernel_rfl) (fun _ _ _ h => h) (Or.inl ⟨by rfl, ?_⟩) hHeld ?_
        · intro v hSv
          clear hHeld
          go_simp
        try simp only [Act.put, List.setIfInBounds_toArray, List.set_cons_zero, List.set_cons_succ]
        refine wpAnyH_take (i := 7) (v := .bool rb) (at_list rfl) (by kernel_rfl) (by kernel_rfl) (by kernel_rfl) (fun _ _ _ h => h) (Or.inl ⟨by rfl, ?_⟩) hHeld ?_
        · intro v hSv
          clear hHeld
          go_simp
        try simp only [Act.put, List.setIfInBounds_toArray, List.set_cons_zero, List.set_cons_succ]
        refine wpAnyH_ready (rs := [9]) (by kernel_rfl) (by simp) ?_
        refine AllReadyH.cons (at_list rfl) (fun K hK => ?_) (AllReadyH.nil)
        refine step_store (by rfl) 49 _ _ rfl g6 0 (msA rm).toList rfl rfl K6.out (by kernel_rfl) (by kernel_rfl) (of_decide_eq_true (by kernel_rfl)) (msA rm) (by kernel_rfl) ?_
        intro y7 n6 hy7
        replace K6 := Lib.hid n6
        refine hK.out _ _ ?_ (fun hHeld2 => ?_)
        · exact ⟨btouch hHeld.1 hy7 L6.out, lens_touch hHeld.2.1 hy7 (by have := NL6.out; omega), hHeld.2.2.1.touch hy7 NR6.out, hHeld.2.2.2.1.touch hy7 NH6.out, hHeld.2.2.2.2.touch hy7 NA6.out⟩
        clear hK K hHeld
        have hHeld := hHeld2
        clear hHeld2
        try simp only [Act.put]
        clear n6 hy7
        refine wpAnyH_take (i := 10) (v := .bool rb) (at_list rfl) (by kernel_rfl) (by kernel_rfl) (by kernel_rfl) (fun _ _ _ h => h) (Or.inl ⟨by rfl, ?_⟩) hHeld ?_
        · intro v hSv
          clear hHeld
          go_simp
        try simp only [Act.put, List.setIfInBounds_toArray, List.set_cons_zero, List.set_cons_succ]
        refine wpAnyH_done (by kernel_rfl) ?_ _
        refine NoPanic.normal ?_
        go_wp2_with fail
        go_meet
        exact ⟨gB, g6, rfl, rfl, rfl, rfl, rfl, rfl, rfl, rfl, rfl, rfl, hHeld.1, hHeld.2.1, hHeld.2.2.1, K6.out, NR6.out, L6.out⟩
    · refine step_alloc (by rfl) 49 rfl (msA zeroM) (by kernel_rfl) ?_
      intro g6 y8 hl6 n6 hy8
      have K6 := Lib.hid n6
      have L6 := Lib.hid (show w.heap.size ≤ g6 from Nat.le_trans hHeld.1.size hl6)
      have NL6 := Lib.hid (show 0 ≠ g6 by have := hHeld.2.1.inside; omega)
      have NR6 := Lib.hid (show gKR ≠ g6 by have := hHeld.2.2.1.inside; omega)
      have NH6 := Lib.hid (show gKH ≠ g6 by have := hHeld.2.2.2.1.inside; omega)
      have NA6 := Lib.hid (show a.block ≠ g6 by have := hHeld.2.2.2.2.inside (by omega); omega)
      replace HS := Lib.hid (Nat.le_trans HS.out (hy8).size)
      refine hK.out _ _ ?_ (fun hHeld2 => ?_)
      · exact ⟨bstep hHeld.1 hy8, hHeld.2.1.keptB hy8, hHeld.2.2.1.keptB hy8, hHeld.2.2.2.1.keptB hy8, hHeld.2.2.2.2.keptB hy8⟩
      clear hK K hHeld
      have hHeld := hHeld2
      clear hHeld2
      try simp only [Act.put]
      try simp only [List.setIfInBounds_toArray, List.set_cons_zero, List.set_cons_succ]
      clear hl6 n6 hy8
      refine wpAnyH_ready (rs := [3]) (by kernel_rfl) (by simp) ?_
      refine AllReadyH.cons (at_list rfl) (fun K hK => ?_) (AllReadyH.nil)
      go_simp
      refine (taker_any a L C _).mono ?_
      rintro e y9 ⟨gB, hgB, rfl, hbB, hy9⟩
      have BD := Lib.hid hbB
      have LB := Lib.hid (show B ≤ gB from Nat.le_trans HS.out hgB)
      have NAB := Lib.hid (show a.block ≠ gB by have := TA.out; have := LB.out; omega)
      have N6B := Lib.hid (show g6 ≠ gB by have := (K6.out).inside; omega)
      replace K6 := Lib.hid ((K6.out).keptB hy9)
      replace HS := Lib.hid (Nat.le_trans HS.out (hy9).size)
      go_wp2_with fail
      refine hK.out _ _ ?_ (fun hHeld2 => ?_)
      · exact ⟨bstep hHeld.1 hy9, hHeld.2.1.keptB hy9, hHeld.2.2.1.keptB hy9, hHeld.2.2.2.1.keptB hy9, hHeld.2.2.2.2.keptB hy9⟩
      clear hK K hHeld
      have hHeld := hHeld2
      clear hHeld2 hy9 hbB hgB
      try simp only [Act.put, List.setIfInBounds_toArray, List.set_cons_zero, List.set_cons_succ]
      refine wpAnyH_ready (rs := [4]) (by kernel_rfl) (by simp) ?_
      refine AllReadyH.cons (at_list rfl) (fun K hK => ?_) (AllReadyH.nil)
      go_simp
      refine ((CR.out) gB _ BD.out hHeld.2.2.2.2 NAB.out).mono ?_
      rintro e y10 ⟨rfl, ho10⟩
      have hy10 := only_below ho10 HS.out LB.out
      replace K6 := Lib.hid ((K6.out).only ho10 (by have := N6B.out; simp; omega))
      replace HS := Lib.hid (Nat.le_trans HS.out (hy10).size)
      go_wp2_with fail
      refine hK.out _ _ ?_ (fun hHeld2 => ?_)
      · exact ⟨bbelow hHeld.1 hy10 TW.out, hHeld.2.1.kept hy10 TL.out, hHeld.2.2.1.kept hy10 TR.out, hHeld.2.2.2.1.kept hy10 TH.out, hHeld.2.2.2.2.kept hy10 TA.out⟩
      clear hK K hHeld
      have hHeld := hHeld2
      clear hHeld2 hy10 ho10 BD
      try simp only [Act.put, List.setIfInBounds_toArray, List.set_cons_zero, List.set_cons_succ]
      refine wpAnyH_take (i := 5) (v := .tuple #[.agg (msA rm), .bool rb]) (at_list rfl) (by kernel_rfl) (by kernel_rfl) (by kernel_rfl) (fun _ _ _ h => h) (Or.inl ⟨by rfl, ?_⟩) hHeld ?_
      · intro v hSv
        clear hHeld
        go_simp
      try simp only [Act.put, List.setIfInBounds_toArray, List.set_cons_zero, List.set_cons_succ]
      refine wpAnyH_take (i := 6) (v := .agg (msA rm)) (at_list rfl) (by kernel_rfl) (by kernel_rfl) (by kernel_rfl) (fun _ _ _ h => h) (Or.inl ⟨by rfl, ?_⟩) hHeld ?_
      · intro v hSv
        clear hHeld
        go_simp
      try simp only [Act.put, List.setIfInBounds_toArray, List.set_cons_zero, List.set_cons_succ]
      refine wpAnyH_take (i := 7) (v := .bool rb) (at_list rfl) (by kernel_rfl) (by kernel_rfl) (by kernel_rfl) (fun _ _ _ h => h) (Or.inl ⟨by rfl, ?_⟩) hHeld ?_
      · intro v hSv
        clear hHeld
        go_simp
      try simp only [Act.put, List.setIfInBounds_toArray, List.set_cons_zero, List.set_cons_succ]
      refine wpAnyH_ready (rs := [9]) (by kernel_rfl) (by simp) ?_
      refine AllReadyH.cons (at_list rfl) (fun K hK => ?_) (AllReadyH.nil)
      refine step_store (by rfl) 49 _ _ rfl g6 0 (msA rm).toList rfl rfl K6.out (by kernel_rfl) (by kernel_rfl) (of_decide_eq_true (by kernel_rfl)) (msA rm) (by kernel_rfl) ?_
      intro y11 n6 hy11
      replace K6 := Lib.hid n6
      refine hK.out _ _ ?_ (fun hHeld2 => ?_)
      · exact ⟨btouch hHeld.1 hy11 L6.out, lens_touch hHeld.2.1 hy11 (by have := NL6.out; omega), hHeld.2.2.1.touch hy11 NR6.out, hHeld.2.2.2.1.touch hy11 NH6.out, hHeld.2.2.2.2.touch hy11 NA6.out⟩
      clear hK K hHeld
      have hHeld := hHeld2
      clear hHeld2
      try simp only [Act.put]
      clear n6 hy11
      refine wpAnyH_take (i := 10) (v := .bool rb) (at_list rfl) (by kernel_rfl) (by kernel_rfl) (by kernel_rfl) (fun _ _ _ h => h) (Or.inl ⟨by rfl, ?_⟩) hHeld ?_
      · intro v hSv
        clear hHeld
        go_simp
      try simp only [Act.put, List.setIfInBounds_toArray, List.set_cons_zero, List.set_cons_succ]
      refine wpAnyH_done (by kernel_rfl) ?_ _
      refine NoPanic.normal ?_
      go_wp2_with fail
      go_meet
      exact ⟨gB, g6, rfl, rfl, rfl, rfl, rfl, rfl, rfl, rfl, rfl, rfl, hHeld.1, hHeld.2.1, hHeld.2.2.1, K6.out, NR6.out, L6.out⟩
  case rest =>
    obtain ⟨gB, gK6, rfl, rfl, rfl, rfl, rfl, rfl, rfl, rfl, rfl, rfl, hb, hl, hr, h6, hne, hle⟩ := hcut
    have HB := Lib.hid hb
    have LN := Lib.hid hl
    have KR := Lib.hid hr
    have K6 := Lib.hid h6
    have NKRK6 := Lib.hid hne
    clear hb hl hr h6 hne hle
    have hrb := HRB.out
    subst hrb
    go_wp2_with (first | (refine big_fill rfl 49 _ _ rfl gKR (msA zeroM) rfl rfl KR.out (by kernel_rfl) (by kernel_rfl) (by kernel_rfl) ?_; intro vKR7 nKR htKR; replace KR := Lib.hid nKR; replace K6 := Lib.hid ((K6.out).touch htKR (by have := NKRK6.out; omega)); replace HB := Lib.hid (btouch HB.out htKR LKR.out); clear nKR htKR) | (refine big_build rfl 49 _ rfl (msA zeroM) (by kernel_rfl) ?_))
    refine bodyPost_ret (results_two rfl _ _ gKR _ (msA zeroM) (.int .i64 60) _ rfl rfl KR.out Tryd.underlying49 rfl (by kernel_rfl)) rfl ⟨?_, HB.out⟩
    exact HX.out.symm
set_option maxHeartbeats 4000000 in
theorem decM_wayB (a : Addr) (L C : Nat) (zs : List Int) (w : World) (hd : Hd) (rm : Ms) (rb : Bool) (E : Value) (hE : E = .tuple #[.agg (msA zeroM), .int .i64 60]) (hz : zs.length = L) (hL : 44 ≤ L) (hC : L ≤ C) (hM : C ≤ maxLen) (hc : BytesAt w a zs) (hl : Lens w) (f0 : -9223372036854775808 ≤ rm.h.f) (f1 : rm.h.f ≤ 9223372036854775807)
    (hC1 : ∀ v, BytesAt v a zs → Lens v → Calls Tryd.prog 6 #[.slice (some a) L C] v fun e w' => e = .returned (.tuple #[.agg #[.int .i64 hd.t, .int .i64 hd.d, .int .i64 hd.f, .int .i64 hd.c, .int .u8 hd.p.c.b0, .int .u8 hd.p.c.b1, .int .u8 hd.p.c.b2, .int .u8 hd.p.c.b3, .int .u8 hd.p.c.b4, .int .u8 hd.p.c.b5, .int .u8 hd.p.c.b6, .int .u8 hd.p.c.b7, .int .i64 hd.p.n, .int .i64 hd.s, .int .i64 hd.l], .int .i64 0]) ∧ Below v.heap.size v w')
    (hCR : ∀ gB v, Body v gB a 34 L C → BytesAt v a zs → a.block ≠ gB → Calls Tryd.prog 48 #[.agg #[.int .i64 hd.t, .int .i64 hd.d, .int .i64 hd.f, .int .i64 hd.c, .int .u8 hd.p.c.b0, .int .u8 hd.p.c.b1, .int .u8 hd.p.c.b2, .int .u8 hd.p.c.b3, .int .u8 hd.p.c.b4, .int .u8 hd.p.c.b5, .int .u8 hd.p.c.b6, .int .u8 hd.p.c.b7, .int .i64 hd.p.n, .int .i64 hd.s, .int .i64 hd.l], .func (.func 68) #[] #[.pointer (some ⟨gB, 0, none⟩)]] v fun e w' => e = .returned (.tuple #[.agg (msA rm), .bool rb]) ∧ Only [gB] v.heap.size v w') (hrb : rb = true) (hr : rm.right = false) :
    Calls Tryd.prog 15 #[.slice (some a) L C] w fun e w' => e = .returned E ∧ Below w.heap.size w w' := by
  have HB := Lib.hid (Below.refl w.heap.size w)
  have HX := Lib.hid (congrArg Ending.returned hE)
  have BA := Lib.hid hc
  have LN := Lib.hid hl
  have C1 := Lib.hid hC1
  have CR := Lib.hid hCR
  have HSL : Hid (∀ v, (Instr.sliceAt 22 (.slice (some a) L C) (some (.int .i64 34)) none none).run Tryd.prog v = .ok (.slice (some (a.add 34)) (L - 34) (C - 34)) v) := by
    intro v
    rw [run_sliceAt_slice _ _ _ _ _ _ (by kernel_rfl), run_slice_l v _ _ _ _ (by kernel_rfl) .i64 34 (by omega) (by omega)]
    show Result.ok (sliced _ _ _ _ _) v = _
    unfold sliced
    rw [if_neg (by omega)]
    rfl
  have HRB := Lib.hid hrb
  clear hc hl hC1 hCR hE hrb
  have HR := Lib.hid hr
  clear hr
  go_enter Tryd.func15, Tryd.ntmps15
  go_wp2_with ((refine big_alloc rfl 49 rfl (msA zeroM) (by kernel_rfl) ?_; intro gKR wKR hlKR nKR hbKR; have KR := Lib.hid nKR; have LKR := Lib.hid (Nat.le_trans (HB.out).size hlKR); replace BA := Lib.hid ((BA.out).keptB hbKR); replace LN := Lib.hid ((LN.out).keptB hbKR); replace HB := Lib.hid (bstep HB.out hbKR); clear hlKR nKR hbKR))
  refine ((C1.out) _ BA.out LN.out).mono ?_
  rintro e w1 ⟨rfl, hw1⟩
  replace KR := Lib.hid ((KR.out).keptB hw1)
  replace BA := Lib.hid ((BA.out).keptB hw1)
  replace LN := Lib.hid ((LN.out).keptB hw1)
  replace HB := Lib.hid (bstep HB.out hw1)
  clear hw1 C1
  go_upto_region 4 with (first | (refine big_fill rfl 28 _ _ rfl gKH (#[.int .i64 hd.t, .int .i64 hd.d, .int .i64 hd.f, .int .i64 hd.c, .int .u8 hd.p.c.b0, .int .u8 hd.p.c.b1, .int .u8 hd.p.c.b2, .int .u8 hd.p.c.b3, .int .u8 hd.p.c.b4, .int .u8 hd.p.c.b5, .int .u8 hd.p.c.b6, .int .u8 hd.p.c.b7, .int .i64 hd.p.n, .int .i64 hd.s, .int .i64 hd.l]) rfl rfl KH.out (by kernel_rfl) (by kernel_rfl) (by kernel_rfl) ?_; intro vKH0 nKH htKH; replace KH := Lib.hid nKH; replace KR := Lib.hid ((KR.out).touch htKH (by have := NKRKH.out; omega)); replace BA := Lib.hid ((BA.out).touch htKH NAH.out); replace LN := Lib.hid (lens_touch LN.out htKH NLH.out); replace HB := Lib.hid (btouch HB.out htKH LKH.out); clear nKH htKH) | (refine big_alloc rfl 28 rfl (#[.int .i64 0, .int .i64 0, .int .i64 0, .int .i64 0, .int .u8 0, .int .u8 0, .int .u8 0, .int .u8 0, .int .u8 0, .int .u8 0, .int .u8 0, .int .u8 0, .int .i64 0, .int .i64 0, .int .i64 0]) (by kernel_rfl) ?_; intro gKH wKH hlKH nKH hbKH; have KH := Lib.hid nKH; have LKH := Lib.hid (Nat.le_trans (HB.out).size hlKH); have NKRKH := Lib.hid (show gKR ≠ gKH by have := (KR.out).inside; omega); replace KR := Lib.hid ((KR.out).keptB hbKH); have NAH := Lib.hid (show a.block ≠ gKH by have := (BA.out).inside (by omega); omega); have NLH := Lib.hid (show 0 ≠ gKH by have := (LN.out).inside; omega); replace BA := Lib.hid ((BA.out).keptB hbKH); replace LN := Lib.hid ((LN.out).keptB hbKH); replace HB := Lib.hid (bstep HB.out hbKH); clear hlKH nKH hbKH))
  go_cut [6, 7, 17, 18, 19, 20, 21, 22, 23, 24] (fun s6 s7 s17 s18 s19 s20 s21 s22 s23 s24 wx => DecCut a L C hd rm rb w gKR s6 s7 s17 s18 s19 s20 s21 s22 s23 s24 wx)
  case first =>
    refine wp_region_noPanic ?_
    obtain ⟨B, hB⟩ := size_is KH.out
    have TL := Lib.hid (show 0 < B from by rw [← hB]; exact (LN.out).inside)
    have TR := Lib.hid (show gKR < B from by rw [← hB]; exact (KR.out).inside)
    have TH := Lib.hid (show gKH < B from by rw [← hB]; exact (KH.out).inside)
    have TA := Lib.hid (show a.block < B from by rw [← hB]; exact (BA.out).inside (by omega))
    have TW := Lib.hid (show w.heap.size ≤ B by rw [← hB]; exact (HB.out).size)
    refine wp_region_held_drew (S := fun v => Below w.heap.size w v ∧ Lens v ∧ Holds v gKR 49 (msA zeroM) ∧ Holds v gKH 28 #[.int .i64 hd.t, .int .i64 hd.d, .int .i64 hd.f, .int .i64 hd.c, .int .u8 hd.p.c.b0, .int .u8 hd.p.c.b1, .int .u8 hd.p.c.b2, .int .u8 hd.p.c.b3, .int .u8 hd.p.c.b4, .int .u8 hd.p.c.b5, .int .u8 hd.p.c.b6, .int .u8 hd.p.c.b7, .int .i64 hd.p.n, .int .i64 hd.s, .int .i64 hd.l] ∧ BytesAt v a zs) (by kernel_rfl) ?_ (fun hHeld => ?_)
    · exact ⟨bdrew HB.out, (LN.out).drew, (KR.out).drew, (KH.out).drew, (BA.out).drew⟩
    have HS : Hid (B ≤ _) := Lib.hid (Nat.le_of_eq (hB.symm.trans (size_drew _)))
    clear HB LN KR KH BA hB
    refine wpAnyH_take (i := 0) (v := .agg #[.int .i64 hd.t, .int .i64 hd.d, .int .i64 hd.f, .int .i64 hd.c, .int .u8 hd.p.c.b0, .int .u8 hd.p.c.b1, .int .u8 hd.p.c.b2, .int .u8 hd.p.c.b3, .int .u8 hd.p.c.b4, .int .u8 hd.p.c.b5, .int .u8 hd.p.c.b6, .int .u8 hd.p.c.b7, .int .i64 hd.p.n, .int .i64 hd.s, .int .i64 hd.l]) (at_list rfl) (by kernel_rfl) (by kernel_rfl) (by kernel_rfl) (fun _ _ _ h => h) (yieldsIf_load_mid (by rfl) 28 _ rfl gKH 0 rfl [.int .i64 hd.t, .int .i64 hd.d, .int .i64 hd.f, .int .i64 hd.c, .int .u8 hd.p.c.b0, .int .u8 hd.p.c.b1, .int .u8 hd.p.c.b2, .int .u8 hd.p.c.b3, .int .u8 hd.p.c.b4, .int .u8 hd.p.c.b5, .int .u8 hd.p.c.b6, .int .u8 hd.p.c.b7, .int .i64 hd.p.n, .int .i64 hd.s, .int .i64 hd.l] _ (fun v hv => Holds.range hv.2.2.2.1 rfl) Tryd.underlying28 rfl (by kernel_rfl)) hHeld ?_
    try simp only [Act.put, List.setIfInBounds_toArray, List.set_cons_zero, List.set_cons_succ]
    refine wpAnyH_take (i := 1) (v := .slice (some a) L C) (at_list rfl) (by kernel_rfl) (by kernel_rfl) (by kernel_rfl) (fun _ _ _ h => h) (Or.inl ⟨by rfl, ?_⟩) hHeld ?_
    · intro v hSv
      clear hHeld
      go_simp
    try simp only [Act.put, List.setIfInBounds_toArray, List.set_cons_zero, List.set_cons_succ]
    refine wpAnyH_take (i := 2) (v := .slice (some (a.add 34)) (L - 34) (C - 34)) (at_list rfl) (by kernel_rfl) (by kernel_rfl) (by kernel_rfl) (fun _ _ _ h => h) (Or.inl ⟨by rfl, ?_⟩) hHeld ?_
    · intro v hSv
      clear hHeld
      clear hSv
      have hsl := HSL.out v
      go_simp
    try simp only [Act.put, List.setIfInBounds_toArray, List.set_cons_zero, List.set_cons_succ]
    refine wpAnyH_ready (rs := [3, 8]) (by kernel_rfl) (by simp) ?_
    refine AllReadyH.cons (at_list rfl) (fun K hK => ?_) (AllReadyH.cons (at_list rfl) (fun K hK => ?_) (AllReadyH.nil))
    · go_simp
      refine (taker_any a L C _).mono ?_
      rintro e y1 ⟨gB, hgB, rfl, hbB, hy1⟩
      have BD := Lib.hid hbB
      have LB := Lib.hid (show B ≤ gB from Nat.le_trans HS.out hgB)
      have NAB := Lib.hid (show a.block ≠ gB by have := TA.out; have := LB.out; omega)
      replace HS := Lib.hid (Nat.le_trans HS.out (hy1).size)
      go_wp2_with fail
      refine hK.out _ _ ?_ (fun hHeld2 => ?_)
      · exact ⟨bstep hHeld.1 hy1, hHeld.2.1.keptB hy1, hHeld.2.2.1.keptB hy1, hHeld.2.2.2.1.keptB hy1, hHeld.2.2.2.2.keptB hy1⟩
      clear hK K hHeld
      have hHeld := hHeld2
      clear hHeld2 hy1 hbB hgB
      try simp only [Act.put, List.setIfInBounds_toArray, List.set_cons_zero, List.set_cons_succ]
      refine wpAnyH_ready (rs := [4, 8]) (by kernel_rfl) (by simp) ?_
      refine AllReadyH.cons (at_list rfl) (fun K hK => ?_) (AllReadyH.cons (at_list rfl) (fun K hK => ?_) (AllReadyH.nil))
      · go_simp
        refine ((CR.out) gB _ BD.out hHeld.2.2.2.2 NAB.out).mono ?_
        rintro e y2 ⟨rfl, ho2⟩
        have hy2 := only_below ho2 HS.out LB.out
        replace HS := Lib.hid (Nat.le_trans HS.out (hy2).size)
        go_wp2_with fail
        refine hK.out _ _ ?_ (fun hHeld2 => ?_)
        · exact ⟨bbelow hHeld.1 hy2 TW.out, hHeld.2.1.kept hy2 TL.out, hHeld.2.2.1.kept hy2 TR.out, hHeld.2.2.2.1.kept hy2 TH.out, hHeld.2.2.2.2.kept hy2 TA.out⟩
        clear hK K hHeld
        have hHeld := hHeld2
        clear hHeld2 hy2 ho2 BD
        try simp only [Act.put, List.setIfInBounds_toArray, List.set_cons_zero, List.set_cons_succ]
        refine wpAnyH_take (i := 5) (v := .tuple #[.agg (msA rm), .bool rb]) (at_list rfl) (by kernel_rfl) (by kernel_rfl) (by kernel_rfl) (fun _ _ _ h => h) (Or.inl ⟨by rfl, ?_⟩) hHeld ?_
        · intro v hSv
          clear hHeld
          go_simp
        try simp only [Act.put, List.setIfInBounds_toArray, List.set_cons_zero, List.set_cons_succ]
        refine wpAnyH_take (i := 6) (v := .agg (msA rm)) (at_list rfl) (by kernel_rfl) (by kernel_rfl) (by kernel_rfl) (fun _ _ _ h => h) (Or.inl ⟨by rfl, ?_⟩) hHeld ?_
        · intro v hSv
          clear hHeld
          go_simp
        try simp only [Act.put, List.setIfInBounds_toArray, List.set_cons_zero, List.set_cons_succ]
        refine wpAnyH_take (i := 7) (v := .bool rb) (at_list rfl) (by kernel_rfl) (by kernel_rfl) (by kernel_rfl) (fun _ _ _ h => h) (Or.inl ⟨by rfl, ?_⟩) hHeld ?_
        · intro v hSv
          clear hHeld
          go_simp
        try simp only [Act.put, List.setIfInBounds_toArray, List.set_cons_zero, List.set_cons_succ]
        refine wpAnyH_ready (rs := [8]) (by kernel_rfl) (by simp) ?_
        refine AllReadyH.cons (at_list rfl) (fun K hK => ?_) (AllReadyH.nil)
        refine step_alloc (by rfl) 49 rfl (msA zeroM) (by kernel_rfl) ?_
        intro g6 y3 hl6 n6 hy3
        have K6 := Lib.hid n6
        have L6 := Lib.hid (show w.heap.size ≤ g6 from Nat.le_trans hHeld.1.size hl6)
        have NL6 := Lib.hid (show 0 ≠ g6 by have := hHeld.2.1.inside; omega)
        have NR6 := Lib.hid (show gKR ≠ g6 by have := hHeld.2.2.1.inside; omega)
        have NH6 := Lib.hid (show gKH ≠ g6 by have := hHeld.2.2.2.1.inside; omega)
        have NA6 := Lib.hid (show a.block ≠ g6 by have := hHeld.2.2.2.2.inside (by omega); omega)
        replace HS := Lib.hid (Nat.le_trans HS.out (hy3).size)
        refine hK.out _ _ ?_ (fun hHeld2 => ?_)
        · exact ⟨bstep hHeld.1 hy3, hHeld.2.1.keptB hy3, hHeld.2.2.1.keptB hy3, hHeld.2.2.2.1.keptB hy3, hHeld.2.2.2.2.keptB hy3⟩
        clear hK K hHeld
        have hHeld := hHeld2
        clear hHeld2
        try simp only [Act.put]
        try simp only [List.setIfInBounds_toArray, List.set_cons_zero, List.set_cons_succ]
        clear hl6 n6 hy3
        refine wpAnyH_ready (rs := [9]) (by kernel_rfl) (by simp) ?_
        refine AllReadyH.cons (at_list rfl) (fun K hK => ?_) (AllReadyH.nil)
        refine step_store (by rfl) 49 _ _ rfl g6 0 (msA rm).toList rfl rfl K6.out (by kernel_rfl) (by kernel_rfl) (of_decide_eq_true (by kernel_rfl)) (msA rm) (by kernel_rfl) ?_
        intro y4 n6 hy4
        replace K6 := Lib.hid n6
        refine hK.out _ _ ?_ (fun hHeld2 => ?_)
        · exact ⟨btouch hHeld.1 hy4 L6.out, lens_touch hHeld.2.1 hy4 (by have := NL6.out; omega), hHeld.2.2.1.touch hy4 NR6.out, hHeld.2.2.2.1.touch hy4 NH6.out, hHeld.2.2.2.2.touch hy4 NA6.out⟩
        clear hK K hHeld
        have hHeld := hHeld2
        clear hHeld2
        try simp only [Act.put]
        clear n6 hy4
        refine wpAnyH_take (i := 10) (v := .bool rb) (at_list rfl) (by kernel_rfl) (by kernel_rfl) (by kernel_rfl) (fun _ _ _ h => h) (Or.inl ⟨by rfl, ?_⟩) hHeld ?_
        · intro v hSv
          clear hHeld
          go_simp
        try simp only [Act.put, List.setIfInBounds_toArray, List.set_cons_zero, List.set_cons_succ]
        refine wpAnyH_done (by kernel_rfl) ?_ _
        refine NoPanic.normal ?_
        go_wp2_with fail
        go_meet
        exact ⟨gB, g6, rfl, rfl, rfl, rfl, rfl, rfl, rfl, rfl, rfl, rfl, hHeld.1, hHeld.2.1, hHeld.2.2.1, K6.out, NR6.out, L6.out⟩
      · refine step_alloc (by rfl) 49 rfl (msA zeroM) (by kernel_rfl) ?_
        intro g6 y5 hl6 n6 hy5
        have K6 := Lib.hid n6
        have L6 := Lib.hid (show w.heap.size ≤ g6 from Nat.le_trans hHeld.1.size hl6)
        have NL6 := Lib.hid (show 0 ≠ g6 by have := hHeld.2.1.inside; omega)
        have NR6 := Lib.hid (show gKR ≠ g6 by have := hHeld.2.2.1.inside; omega)
        have NH6 := Lib.hid (show gKH ≠ g6 by have := hHeld.2.2.2.1.inside; omega)
        have NA6 := Lib.hid (show a.block ≠ g6 by have := hHeld.2.2.2.2.inside (by omega); omega)
        have N6B := Lib.hid (show g6 ≠ gB by have := (BD.out).inside; omega)
        replace BD := Lib.hid ((BD.out).keptB hy5)
        replace HS := Lib.hid (Nat.le_trans HS.out (hy5).size)
        refine hK.out _ _ ?_ (fun hHeld2 => ?_)
        · exact ⟨bstep hHeld.1 hy5, hHeld.2.1.keptB hy5, hHeld.2.2.1.keptB hy5, hHeld.2.2.2.1.keptB hy5, hHeld.2.2.2.2.keptB hy5⟩
        clear hK K hHeld
        have hHeld := hHeld2
        clear hHeld2
        try simp only [Act.put]
        try simp only [List.setIfInBounds_toArray, List.set_cons_zero, List.set_cons_succ]
        clear hl6 n6 hy5
        refine wpAnyH_ready (rs := [4]) (by kernel_rfl) (by simp) ?_
        refine AllReadyH.cons (at_list rfl) (fun K hK => ?_) (AllReadyH.nil)
        go_simp
        refine ((CR.out) gB _ BD.out hHeld.2.2.2.2 NAB.out).mono ?_
        rintro e y6 ⟨rfl, ho6⟩
        have hy6 := only_below ho6 HS.out LB.out
        replace K6 := Lib.hid ((K6.out).only ho6 (by have := N6B.out; simp; omega))
        replace HS := Lib.hid (Nat.le_trans HS.out (hy6).size)
        go_wp2_with fail
        refine hK.out _ _ ?_ (fun hHeld2 => ?_)
        · exact ⟨bbelow hHeld.1 hy6 TW.out, hHeld.2.1.kept hy6 TL.out, hHeld.2.2.1.kept hy6 TR.out, hHeld.2.2.2.1.kept hy6 TH.out, hHeld.2.2.2.2.kept hy6 TA.out⟩
        clear hK K hHeld
        have hHeld := hHeld2
        clear hHeld2 hy6 ho6 BD
        try simp only [Act.put, List.setIfInBounds_toArray, List.set_cons_zero, List.set_cons_succ]
        refine wpAnyH_take (i := 5) (v := .tuple #[.agg (msA rm), .bool rb]) (at_list rfl) (by kernel_rfl) (by kernel_rfl) (by kernel_rfl) (fun _ _ _ h => h) (Or.inl ⟨by rfl, ?_⟩) hHeld ?_
        · intro v hSv
          clear hHeld
          go_simp
        try simp only [Act.put, List.setIfInBounds_toArray, List.set_cons_zero, List.set_cons_succ]
        refine wpAnyH_take (i := 6) (v := .agg (msA rm)) (at_list rfl) (by kernel_rfl) (by kernel_rfl) (by kernel_rfl) (fun _ _ _ h => h) (Or.inl ⟨by rfl, ?_⟩) hHeld ?_
        · intro v hSv
          clear hHeld
          go_simp
        try simp only [Act.put, List.setIfInBounds_toArray, List.set_cons_zero, List.set_cons_succ]
        refine wpAnyH_take (i := 7) (v := .bool rb) (at_list rfl) (by kernel_rfl) (by kernel_rfl) (by kernel_rfl) (fun _ _ _ h => h) (Or.inl ⟨by rfl, ?_⟩) hHeld ?_
        · intro v hSv
          clear hHeld
          go_simp
        try simp only [Act.put, List.setIfInBounds_toArray, List.set_cons_zero, List.set_cons_succ]
        refine wpAnyH_ready (rs := [9]) (by kernel_rfl) (by simp) ?_
        refine AllReadyH.cons (at_list rfl) (fun K hK => ?_) (AllReadyH.nil)
        refine step_store (by rfl) 49 _ _ rfl g6 0 (msA rm).toList rfl rfl K6.out (by kernel_rfl) (by kernel_rfl) (of_decide_eq_true (by kernel_rfl)) (msA rm) (by kernel_rfl) ?_
        intro y7 n6 hy7
        replace K6 := Lib.hid n6
        refine hK.out _ _ ?_ (fun hHeld2 => ?_)
        · exact ⟨btouch hHeld.1 hy7 L6.out, lens_touch hHeld.2.1 hy7 (by have := NL6.out; omega), hHeld.2.2.1.touch hy7 NR6.out, hHeld.2.2.2.1.touch hy7 NH6.out, hHeld.2.2.2.2.touch hy7 NA6.out⟩
        clear hK K hHeld
        have hHeld := hHeld2
        clear hHeld2
        try simp only [Act.put]
        clear n6 hy7
        refine wpAnyH_take (i := 10) (v := .bool rb) (at_list rfl) (by kernel_rfl) (by kernel_rfl) (by kernel_rfl) (fun _ _ _ h => h) (Or.inl ⟨by rfl, ?_⟩) hHeld ?_
        · intro v hSv
          clear hHeld
          go_simp
        try simp only [Act.put, List.setIfInBounds_toArray, List.set_cons_zero, List.set_cons_succ]
        refine wpAnyH_done (by kernel_rfl) ?_ _
        refine NoPanic.normal ?_
        go_wp2_with fail
        go_meet
        exact ⟨gB, g6, rfl, rfl, rfl, rfl, rfl, rfl, rfl, rfl, rfl, rfl, hHeld.1, hHeld.2.1, hHeld.2.2.1, K6.out, NR6.out, L6.out⟩
    · refine step_alloc (by rfl) 49 rfl (msA zeroM) (by kernel_rfl) ?_
      intro g6 y8 hl6 n6 hy8
      have K6 := Lib.hid n6
      have L6 := Lib.hid (show w.heap.size ≤ g6 from Nat.le_trans hHeld.1.size hl6)
      have NL6 := Lib.hid (show 0 ≠ g6 by have := hHeld.2.1.inside; omega)
      have NR6 := Lib.hid (show gKR ≠ g6 by have := hHeld.2.2.1.inside; omega)
      have NH6 := Lib.hid (show gKH ≠ g6 by have := hHeld.2.2.2.1.inside; omega)
      have NA6 := Lib.hid (show a.block ≠ g6 by have := hHeld.2.2.2.2.inside (by omega); omega)
      replace HS := Lib.hid (Nat.le_trans HS.out (hy8).size)
      refine hK.out _ _ ?_ (fun hHeld2 => ?_)
      · exact ⟨bstep hHeld.1 hy8, hHeld.2.1.keptB hy8, hHeld.2.2.1.keptB hy8, hHeld.2.2.2.1.keptB hy8, hHeld.2.2.2.2.keptB hy8⟩
      clear hK K hHeld
      have hHeld := hHeld2
      clear hHeld2
      try simp only [Act.put]
      try simp only [List.setIfInBounds_toArray, List.set_cons_zero, List.set_cons_succ]
      clear hl6 n6 hy8
      refine wpAnyH_ready (rs := [3]) (by kernel_rfl) (by simp) ?_
      refine AllReadyH.cons (at_list rfl) (fun K hK => ?_) (AllReadyH.nil)
      go_simp
      refine (taker_any a L C _).mono ?_
      rintro e y9 ⟨gB, hgB, rfl, hbB, hy9⟩
      have BD := Lib.hid hbB
      have LB := Lib.hid (show B ≤ gB from Nat.le_trans HS.out hgB)
      have NAB := Lib.hid (show a.block ≠ gB by have := TA.out; have := LB.out; omega)
      have N6B := Lib.hid (show g6 ≠ gB by have := (K6.out).inside; omega)
      replace K6 := Lib.hid ((K6.out).keptB hy9)
      replace HS := Lib.hid (Nat.le_trans HS.out (hy9).size)
      go_wp2_with fail
      refine hK.out _ _ ?_ (fun hHeld2 => ?_)
      · exact ⟨bstep hHeld.1 hy9, hHeld.2.1.keptB hy9, hHeld.2.2.1.keptB hy9, hHeld.2.2.2.1.keptB hy9, hHeld.2.2.2.2.keptB hy9⟩
      clear hK K hHeld
      have hHeld := hHeld2
      clear hHeld2 hy9 hbB hgB
      try simp only [Act.put, List.setIfInBounds_toArray, List.set_cons_zero, List.set_cons_succ]
      refine wpAnyH_ready (rs := [4]) (by kernel_rfl) (by simp) ?_
      refine AllReadyH.cons (at_list rfl) (fun K hK => ?_) (AllReadyH.nil)
      go_simp
      refine ((CR.out) gB _ BD.out hHeld.2.2.2.2 NAB.out).mono ?_
      rintro e y10 ⟨rfl, ho10⟩
      have hy10 := only_below ho10 HS.out LB.out
      replace K6 := Lib.hid ((K6.out).only ho10 (by have := N6B.out; simp; omega))
      replace HS := Lib.hid (Nat.le_trans HS.out (hy10).size)
      go_wp2_with fail
      refine hK.out _ _ ?_ (fun hHeld2 => ?_)
      · exact ⟨bbelow hHeld.1 hy10 TW.out, hHeld.2.1.kept hy10 TL.out, hHeld.2.2.1.kept hy10 TR.out, hHeld.2.2.2.1.kept hy10 TH.out, hHeld.2.2.2.2.kept hy10 TA.out⟩
      clear hK K hHeld
      have hHeld := hHeld2
      clear hHeld2 hy10 ho10 BD
      try simp only [Act.put, List.setIfInBounds_toArray, List.set_cons_zero, List.set_cons_succ]
      refine wpAnyH_take (i := 5) (v := .tuple #[.agg (msA rm), .bool rb]) (at_list rfl) (by kernel_rfl) (by kernel_rfl) (by kernel_rfl) (fun _ _ _ h => h) (Or.inl ⟨by rfl, ?_⟩) hHeld ?_
      · intro v hSv
        clear hHeld
        go_simp
      try simp only [Act.put, List.setIfInBounds_toArray, List.set_cons_zero, List.set_cons_succ]
      refine wpAnyH_take (i := 6) (v := .agg (msA rm)) (at_list rfl) (by kernel_rfl) (by kernel_rfl) (by kernel_rfl) (fun _ _ _ h => h) (Or.inl ⟨by rfl, ?_⟩) hHeld ?_
      · intro v hSv
        clear hHeld
        go_simp
      try simp only [Act.put, List.setIfInBounds_toArray, List.set_cons_zero, List.set_cons_succ]
      refine wpAnyH_take (i := 7) (v := .bool rb) (at_list rfl) (by kernel_rfl) (by kernel_rfl) (by kernel_rfl) (fun _ _ _ h => h) (Or.inl ⟨by rfl, ?_⟩) hHeld ?_
      · intro v hSv
        clear hHeld
        go_simp
      try simp only [Act.put, List.setIfInBounds_toArray, List.set_cons_zero, List.set_cons_succ]
      refine wpAnyH_ready (rs := [9]) (by kernel_rfl) (by simp) ?_
      refine AllReadyH.cons (at_list rfl) (fun K hK => ?_) (AllReadyH.nil)
      refine step_store (by rfl) 49 _ _ rfl g6 0 (msA rm).toList rfl rfl K6.out (by kernel_rfl) (by kernel_rfl) (of_decide_eq_true (by kernel_rfl)) (msA rm) (by kernel_rfl) ?_
      intro y11 n6 hy11
      replace K6 := Lib.hid n6
      refine hK.out _ _ ?_ (fun hHeld2 => ?_)
      · exact ⟨btouch hHeld.1 hy11 L6.out, lens_touch hHeld.2.1 hy11 (by have := NL6.out; omega), hHeld.2.2.1.touch hy11 NR6.out, hHeld.2.2.2.1.touch hy11 NH6.out, hHeld.2.2.2.2.touch hy11 NA6.out⟩
      clear hK K hHeld
      have hHeld := hHeld2
      clear hHeld2
      try simp only [Act.put]
      clear n6 hy11
      refine wpAnyH_take (i := 10) (v := .bool rb) (at_list rfl) (by kernel_rfl) (by kernel_rfl) (by kernel_rfl) (fun _ _ _ h => h) (Or.inl ⟨by rfl, ?_⟩) hHeld ?_
      · intro v hSv
        clear hHeld
        go_simp
      try simp only [Act.put, List.setIfInBounds_toArray, List.set_cons_zero, List.set_cons_succ]
      refine wpAnyH_done (by kernel_rfl) ?_ _
      refine NoPanic.normal ?_
      go_wp2_with fail
      go_meet
      exact ⟨gB, g6, rfl, rfl, rfl, rfl, rfl, rfl, rfl, rfl, rfl, rfl, hHeld.1, hHeld.2.1, hHeld.2.2.1, K6.out, NR6.out, L6.out⟩
  case rest =>
    obtain ⟨gB, gK6, rfl, rfl, rfl, rfl, rfl, rfl, rfl, rfl, rfl, rfl, hb, hl, hr, h6, hne, hle⟩ := hcut
    have HB := Lib.hid hb
    have LN := Lib.hid hl
    have KR := Lib.hid hr
    have K6 := Lib.hid h6
    have NKRK6 := Lib.hid hne
    clear hb hl hr h6 hne hle
    have hrb := HRB.out
    subst hrb
    go_wp2_with ((refine big_whole rfl 49 _ rfl gK6 rfl K6.out Tryd.underlying49 rfl (by kernel_rfl) ?_))
    refine (fright_any rm _ LN.out f0 f1).mono ?_
    rintro e w9 ⟨rfl, hw9⟩
    rw [HR.out]
    replace KR := Lib.hid ((KR.out).keptB hw9)
    replace K6 := Lib.hid ((K6.out).keptB hw9)
    replace HB := Lib.hid (bstep HB.out hw9)
    clear hw9
    go_wp2_with (first | (refine big_fill rfl 49 _ _ rfl gKR (msA zeroM) rfl rfl KR.out (by kernel_rfl) (by kernel_rfl) (by kernel_rfl) ?_; intro vKR7 nKR htKR; replace KR := Lib.hid nKR; replace K6 := Lib.hid ((K6.out).touch htKR (by have := NKRK6.out; omega)); replace HB := Lib.hid (btouch HB.out htKR LKR.out); clear nKR htKR) | (refine big_build rfl 49 _ rfl (msA zeroM) (by kernel_rfl) ?_))
    refine bodyPost_ret (results_two rfl _ _ gKR _ (msA zeroM) (.int .i64 60) _ rfl rfl KR.out Tryd.underlying49 rfl (by kernel_rfl)) rfl ⟨?_, HB.out⟩
    exact HX.out.symm
set_option maxHeartbeats 4000000 in
theorem decM_wayC (a : Addr) (L C : Nat) (zs : List Int) (w : World) (hd : Hd) (rm : Ms) (rb : Bool) (E : Value) (hE : E = .tuple #[.agg (msA rm), .int .i64 0]) (hz : zs.length = L) (hL : 44 ≤ L) (hC : L ≤ C) (hM : C ≤ maxLen) (hc : BytesAt w a zs) (hl : Lens w) (f0 : -9223372036854775808 ≤ rm.h.f) (f1 : rm.h.f ≤ 9223372036854775807)
    (hC1 : ∀ v, BytesAt v a zs → Lens v → Calls Tryd.prog 6 #[.slice (some a) L C] v fun e w' => e = .returned (.tuple #[.agg #[.int .i64 hd.t, .int .i64 hd.d, .int .i64 hd.f, .int .i64 hd.c, .int .u8 hd.p.c.b0, .int .u8 hd.p.c.b1, .int .u8 hd.p.c.b2, .int .u8 hd.p.c.b3, .int .u8 hd.p.c.b4, .int .u8 hd.p.c.b5, .int .u8 hd.p.c.b6, .int .u8 hd.p.c.b7, .int .i64 hd.p.n, .int .i64 hd.s, .int .i64 hd.l], .int .i64 0]) ∧ Below v.heap.size v w')
    (hCR : ∀ gB v, Body v gB a 34 L C → BytesAt v a zs → a.block ≠ gB → Calls Tryd.prog 48 #[.agg #[.int .i64 hd.t, .int .i64 hd.d, .int .i64 hd.f, .int .i64 hd.c, .int .u8 hd.p.c.b0, .int .u8 hd.p.c.b1, .int .u8 hd.p.c.b2, .int .u8 hd.p.c.b3, .int .u8 hd.p.c.b4, .int .u8 hd.p.c.b5, .int .u8 hd.p.c.b6, .int .u8 hd.p.c.b7, .int .i64 hd.p.n, .int .i64 hd.s, .int .i64 hd.l], .func (.func 68) #[] #[.pointer (some ⟨gB, 0, none⟩)]] v fun e w' => e = .returned (.tuple #[.agg (msA rm), .bool rb]) ∧ Only [gB] v.heap.size v w') (hrb : rb = true) (hr : rm.right = true) :
    Calls Tryd.prog 15 #[.slice (some a) L C] w fun e w' => e = .returned E ∧ Below w.heap.size w w' := by
  have HB := Lib.hid (Below.refl w.heap.size w)
  have HX := Lib.hid (congrArg Ending.returned hE)
  have BA := Lib.hid hc
  have LN := Lib.hid hl
  have C1 := Lib.hid hC1
  have CR := Lib.hid hCR
  have HSL : Hid (∀ v, (Instr.sliceAt 22 (.slice (some a) L C) (some (.int .i64 34)) none none).run Tryd.prog v = .ok (.slice (some (a.add 34)) (L - 34) (C - 34)) v) := by
    intro v
    rw [run_sliceAt_slice _ _ _ _ _ _ (by kernel_rfl), run_slice_l v _ _ _ _ (by kernel_rfl) .i64 34 (by omega) (by omega)]
    show Result.ok (sliced _ _ _ _ _) v = _
    unfold sliced
    rw [if_neg (by omega)]
    rfl
  have HRB := Lib.hid hrb
  clear hc hl hC1 hCR hE hrb
  have HR := Lib.hid hr
  clear hr
  go_enter Tryd.func15, Tryd.ntmps15
  go_wp2_with ((refine big_alloc rfl 49 rfl (msA zeroM) (by kernel_rfl) ?_; intro gKR wKR hlKR nKR hbKR; have KR := Lib.hid nKR; have LKR := Lib.hid (Nat.le_trans (HB.out).size hlKR); replace BA := Lib.hid ((BA.out).keptB hbKR); replace LN := Lib.hid ((LN.out).keptB hbKR); replace HB := Lib.hid (bstep HB.out hbKR); clear hlKR nKR hbKR))
  refine ((C1.out) _ BA.out LN.out).mono ?_
  rintro e w1 ⟨rfl, hw1⟩
  replace KR := Lib.hid ((KR.out).keptB hw1)
  replace BA := Lib.hid ((BA.out).keptB hw1)
  replace LN := Lib.hid ((LN.out).keptB hw1)
  replace HB := Lib.hid (bstep HB.out hw1)
  clear hw1 C1
  go_upto_region 4 with (first | (refine big_fill rfl 28 _ _ rfl gKH (#[.int .i64 hd.t, .int .i64 hd.d, .int .i64 hd.f, .int .i64 hd.c, .int .u8 hd.p.c.b0, .int .u8 hd.p.c.b1, .int .u8 hd.p.c.b2, .int .u8 hd.p.c.b3, .int .u8 hd.p.c.b4, .int .u8 hd.p.c.b5, .int .u8 hd.p.c.b6, .int .u8 hd.p.c.b7, .int .i64 hd.p.n, .int .i64 hd.s, .int .i64 hd.l]) rfl rfl KH.out (by kernel_rfl) (by kernel_rfl) (by kernel_rfl) ?_; intro vKH0 nKH htKH; replace KH := Lib.hid nKH; replace KR := Lib.hid ((KR.out).touch htKH (by have := NKRKH.out; omega)); replace BA := Lib.hid ((BA.out).touch htKH NAH.out); replace LN := Lib.hid (lens_touch LN.out htKH NLH.out); replace HB := Lib.hid (btouch HB.out htKH LKH.out); clear nKH htKH) | (refine big_alloc rfl 28 rfl (#[.int .i64 0, .int .i64 0, .int .i64 0, .int .i64 0, .int .u8 0, .int .u8 0, .int .u8 0, .int .u8 0, .int .u8 0, .int .u8 0, .int .u8 0, .int .u8 0, .int .i64 0, .int .i64 0, .int .i64 0]) (by kernel_rfl) ?_; intro gKH wKH hlKH nKH hbKH; have KH := Lib.hid nKH; have LKH := Lib.hid (Nat.le_trans (HB.out).size hlKH); have NKRKH := Lib.hid (show gKR ≠ gKH by have := (KR.out).inside; omega); replace KR := Lib.hid ((KR.out).keptB hbKH); have NAH := Lib.hid (show a.block ≠ gKH by have := (BA.out).inside (by omega); omega); have NLH := Lib.hid (show 0 ≠ gKH by have := (LN.out).inside; omega); replace BA := Lib.hid ((BA.out).keptB hbKH); replace LN := Lib.hid ((LN.out).keptB hbKH); replace HB := Lib.hid (bstep HB.out hbKH); clear hlKH nKH hbKH))
  go_cut [6, 7, 17, 18, 19, 20, 21, 22, 23, 24] (fun s6 s7 s17 s18 s19 s20 s21 s22 s23 s24 wx => DecCut a L C hd rm rb w gKR s6 s7 s17 s18 s19 s20 s21 s22 s23 s24 wx)
  case first =>
    refine wp_region_noPanic ?_
    obtain ⟨B, hB⟩ := size_is KH.out
    have TL := Lib.hid (show 0 < B from by rw [← hB]; exact (LN.out).inside)
    have TR := Lib.hid (show gKR < B from by rw [← hB]; exact (KR.out).inside)
    have TH := Lib.hid (show gKH < B from by rw [← hB]; exact (KH.out).inside)
    have TA := Lib.hid (show a.block < B from by rw [← hB]; exact (BA.out).inside (by omega))
    have TW := Lib.hid (show w.heap.size ≤ B by rw [← hB]; exact (HB.out).size)
    refine wp_region_held_drew (S := fun v => Below w.heap.size w v ∧ Lens v ∧ Holds v gKR 49 (msA zeroM) ∧ Holds v gKH 28 #[.int .i64 hd.t, .int .i64 hd.d, .int .i64 hd.f, .int .i64 hd.c, .int .u8 hd.p.c.b0, .int .u8 hd.p.c.b1, .int .u8 hd.p.c.b2, .int .u8 hd.p.c.b3, .int .u8 hd.p.c.b4, .int .u8 hd.p.c.b5, .int .u8 hd.p.c.b6, .int .u8 hd.p.c.b7, .int .i64 hd.p.n, .int .i64 hd.s, .int .i64 hd.l] ∧ BytesAt v a zs) (by kernel_rfl) ?_ (fun hHeld => ?_)
    · exact ⟨bdrew HB.out, (LN.out).drew, (KR.out).drew, (KH.out).drew, (BA.out).drew⟩
    have HS : Hid (B ≤ _) := Lib.hid (Nat.le_of_eq (hB.symm.trans (size_drew _)))
    clear HB LN KR KH BA hB
    refine wpAnyH_take (i := 0) (v := .agg #[.int .i64 hd.t, .int .i64 hd.d, .int .i64 hd.f, .int .i64 hd.c, .int .u8 hd.p.c.b0, .int .u8 hd.p.c.b1, .int .u8 hd.p.c.b2, .int .u8 hd.p.c.b3, .int .u8 hd.p.c.b4, .int .u8 hd.p.c.b5, .int .u8 hd.p.c.b6, .int .u8 hd.p.c.b7, .int .i64 hd.p.n, .int .i64 hd.s, .int .i64 hd.l]) (at_list rfl) (by kernel_rfl) (by kernel_rfl) (by kernel_rfl) (fun _ _ _ h => h) (yieldsIf_load_mid (by rfl) 28 _ rfl gKH 0 rfl [.int .i64 hd.t, .int .i64 hd.d, .int .i64 hd.f, .int .i64 hd.c, .int .u8 hd.p.c.b0, .int .u8 hd.p.c.b1, .int .u8 hd.p.c.b2, .int .u8 hd.p.c.b3, .int .u8 hd.p.c.b4, .int .u8 hd.p.c.b5, .int .u8 hd.p.c.b6, .int .u8 hd.p.c.b7, .int .i64 hd.p.n, .int .i64 hd.s, .int .i64 hd.l] _ (fun v hv => Holds.range hv.2.2.2.1 rfl) Tryd.underlying28 rfl (by kernel_rfl)) hHeld ?_
    try simp only [Act.put, List.setIfInBounds_toArray, List.set_cons_zero, List.set_cons_succ]
    refine wpAnyH_take (i := 1) (v := .slice (some a) L C) (at_list rfl) (by kernel_rfl) (by kernel_rfl) (by kernel_rfl) (fun _ _ _ h => h) (Or.inl ⟨by rfl, ?_⟩) hHeld ?_
    · intro v hSv
      clear hHeld
      go_simp
    try simp only [Act.put, List.setIfInBounds_toArray, List.set_cons_zero, List.set_cons_succ]
    refine wpAnyH_take (i := 2) (v := .slice (some (a.add 34)) (L - 34) (C - 34)) (at_list rfl) (by kernel_rfl) (by kernel_rfl) (by kernel_rfl) (fun _ _ _ h => h) (Or.inl ⟨by rfl, ?_⟩) hHeld ?_
    · intro v hSv
      clear hHeld
      clear hSv
      have hsl := HSL.out v
      go_simp
    try simp only [Act.put, List.setIfInBounds_toArray, List.set_cons_zero, List.set_cons_succ]
    refine wpAnyH_ready (rs := [3, 8]) (by kernel_rfl) (by simp) ?_
    refine AllReadyH.cons (at_list rfl) (fun K hK => ?_) (AllReadyH.cons (at_list rfl) (fun K hK => ?_) (AllReadyH.nil))
    · go_simp
      refine (taker_any a L C _).mono ?_
      rintro e y1 ⟨gB, hgB, rfl, hbB, hy1⟩
      have BD := Lib.hid hbB
      have LB := Lib.hid (show B ≤ gB from Nat.le_trans HS.out hgB)
      have NAB := Lib.hid (show a.block ≠ gB by have := TA.out; have := LB.out; omega)
      replace HS := Lib.hid (Nat.le_trans HS.out (hy1).size)
      go_wp2_with fail
      refine hK.out _ _ ?_ (fun hHeld2 => ?_)
      · exact ⟨bstep hHeld.1 hy1, hHeld.2.1.keptB hy1, hHeld.2.2.1.keptB hy1, hHeld.2.2.2.1.keptB hy1, hHeld.2.2.2.2.keptB hy1⟩
      clear hK K hHeld
      have hHeld := hHeld2
      clear hHeld2 hy1 hbB hgB
      try simp only [Act.put, List.setIfInBounds_toArray, List.set_cons_zero, List.set_cons_succ]
      refine wpAnyH_ready (rs := [4, 8]) (by kernel_rfl) (by simp) ?_
      refine AllReadyH.cons (at_list rfl) (fun K hK => ?_) (AllReadyH.cons (at_list rfl) (fun K hK => ?_) (AllReadyH.nil))
      · go_simp
        refine ((CR.out) gB _ BD.out hHeld.2.2.2.2 NAB.out).mono ?_
        rintro e y2 ⟨rfl, ho2⟩
        have hy2 := only_below ho2 HS.out LB.out
        replace HS := Lib.hid (Nat.le_trans HS.out (hy2).size)
        go_wp2_with fail
        refine hK.out _ _ ?_ (fun hHeld2 => ?_)
        · exact ⟨bbelow hHeld.1 hy2 TW.out, hHeld.2.1.kept hy2 TL.out, hHeld.2.2.1.kept hy2 TR.out, hHeld.2.2.2.1.kept hy2 TH.out, hHeld.2.2.2.2.kept hy2 TA.out⟩
        clear hK K hHeld
        have hHeld := hHeld2
        clear hHeld2 hy2 ho2 BD
        try simp only [Act.put, List.setIfInBounds_toArray, List.set_cons_zero, List.set_cons_succ]
        refine wpAnyH_take (i := 5) (v := .tuple #[.agg (msA rm), .bool rb]) (at_list rfl) (by kernel_rfl) (by kernel_rfl) (by kernel_rfl) (fun _ _ _ h => h) (Or.inl ⟨by rfl, ?_⟩) hHeld ?_
        · intro v hSv
          clear hHeld
          go_simp
        try simp only [Act.put, List.setIfInBounds_toArray, List.set_cons_zero, List.set_cons_succ]
        refine wpAnyH_take (i := 6) (v := .agg (msA rm)) (at_list rfl) (by kernel_rfl) (by kernel_rfl) (by kernel_rfl) (fun _ _ _ h => h) (Or.inl ⟨by rfl, ?_⟩) hHeld ?_
        · intro v hSv
          clear hHeld
          go_simp
        try simp only [Act.put, List.setIfInBounds_toArray, List.set_cons_zero, List.set_cons_succ]
        refine wpAnyH_take (i := 7) (v := .bool rb) (at_list rfl) (by kernel_rfl) (by kernel_rfl) (by kernel_rfl) (fun _ _ _ h => h) (Or.inl ⟨by rfl, ?_⟩) hHeld ?_
        · intro v hSv
          clear hHeld
          go_simp
        try simp only [Act.put, List.setIfInBounds_toArray, List.set_cons_zero, List.set_cons_succ]
        refine wpAnyH_ready (rs := [8]) (by kernel_rfl) (by simp) ?_
        refine AllReadyH.cons (at_list rfl) (fun K hK => ?_) (AllReadyH.nil)
        refine step_alloc (by rfl) 49 rfl (msA zeroM) (by kernel_rfl) ?_
        intro g6 y3 hl6 n6 hy3
        have K6 := Lib.hid n6
        have L6 := Lib.hid (show w.heap.size ≤ g6 from Nat.le_trans hHeld.1.size hl6)
        have NL6 := Lib.hid (show 0 ≠ g6 by have := hHeld.2.1.inside; omega)
        have NR6 := Lib.hid (show gKR ≠ g6 by have := hHeld.2.2.1.inside; omega)
        have NH6 := Lib.hid (show gKH ≠ g6 by have := hHeld.2.2.2.1.inside; omega)
        have NA6 := Lib.hid (show a.block ≠ g6 by have := hHeld.2.2.2.2.inside (by omega); omega)
        replace HS := Lib.hid (Nat.le_trans HS.out (hy3).size)
        refine hK.out _ _ ?_ (fun hHeld2 => ?_)
        · exact ⟨bstep hHeld.1 hy3, hHeld.2.1.keptB hy3, hHeld.2.2.1.keptB hy3, hHeld.2.2.2.1.keptB hy3, hHeld.2.2.2.2.keptB hy3⟩
        clear hK K hHeld
        have hHeld := hHeld2
        clear hHeld2
        try simp only [Act.put]
        try simp only [List.setIfInBounds_toArray, List.set_cons_zero, List.set_cons_succ]
        clear hl6 n6 hy3
        refine wpAnyH_ready (rs := [9]) (by kernel_rfl) (by simp) ?_
        refine AllReadyH.cons (at_list rfl) (fun K hK => ?_) (AllReadyH.nil)
        refine step_store (by rfl) 49 _ _ rfl g6 0 (msA rm).toList rfl rfl K6.out (by kernel_rfl) (by kernel_rfl) (of_decide_eq_true (by kernel_rfl)) (msA rm) (by kernel_rfl) ?_
        intro y4 n6 hy4
        replace K6 := Lib.hid n6
        refine hK.out _ _ ?_ (fun hHeld2 => ?_)
        · exact ⟨btouch hHeld.1 hy4 L6.out, lens_touch hHeld.2.1 hy4 (by have := NL6.out; omega), hHeld.2.2.1.touch hy4 NR6.out, hHeld.2.2.2.1.touch hy4 NH6.out, hHeld.2.2.2.2.touch hy4 NA6.out⟩
        clear hK K hHeld
        have hHeld := hHeld2
        clear hHeld2
        try simp only [Act.put]
        clear n6 hy4
        refine wpAnyH_take (i := 10) (v := .bool rb) (at_list rfl) (by kernel_rfl) (by kernel_rfl) (by kernel_rfl) (fun _ _ _ h => h) (Or.inl ⟨by rfl, ?_⟩) hHeld ?_
        · intro v hSv
          clear hHeld
          go_simp
        try simp only [Act.put, List.setIfInBounds_toArray, List.set_cons_zero, List.set_cons_succ]
        refine wpAnyH_done (by kernel_rfl) ?_ _
        refine NoPanic.normal ?_
        go_wp2_with fail
        go_meet
        exact ⟨gB, g6, rfl, rfl, rfl, rfl, rfl, rfl, rfl, rfl, rfl, rfl, hHeld.1, hHeld.2.1, hHeld.2.2.1, K6.out, NR6.out, L6.out⟩
      · refine step_alloc (by rfl) 49 rfl (msA zeroM) (by kernel_rfl) ?_
        intro g6 y5 hl6 n6 hy5
        have K6 := Lib.hid n6
        have L6 := Lib.hid (show w.heap.size ≤ g6 from Nat.le_trans hHeld.1.size hl6)
        have NL6 := Lib.hid (show 0 ≠ g6 by have := hHeld.2.1.inside; omega)
        have NR6 := Lib.hid (show gKR ≠ g6 by have := hHeld.2.2.1.inside; omega)
        have NH6 := Lib.hid (show gKH ≠ g6 by have := hHeld.2.2.2.1.inside; omega)
        have NA6 := Lib.hid (show a.block ≠ g6 by have := hHeld.2.2.2.2.inside (by omega); omega)
        have N6B := Lib.hid (show g6 ≠ gB by have := (BD.out).inside; omega)
        replace BD := Lib.hid ((BD.out).keptB hy5)
        replace HS := Lib.hid (Nat.le_trans HS.out (hy5).size)
        refine hK.out _ _ ?_ (fun hHeld2 => ?_)
        · exact ⟨bstep hHeld.1 hy5, hHeld.2.1.keptB hy5, hHeld.2.2.1.keptB hy5, hHeld.2.2.2.1.keptB hy5, hHeld.2.2.2.2.keptB hy5⟩
        clear hK K hHeld
        have hHeld := hHeld2
        clear hHeld2
        try simp only [Act.put]
        try simp only [List.setIfInBounds_toArray, List.set_cons_zero, List.set_cons_succ]
        clear hl6 n6 hy5
        refine wpAnyH_ready (rs := [4]) (by kernel_rfl) (by simp) ?_
        refine AllReadyH.cons (at_list rfl) (fun K hK => ?_) (AllReadyH.nil)
        go_simp
        refine ((CR.out) gB _ BD.out hHeld.2.2.2.2 NAB.out).mono ?_
        rintro e y6 ⟨rfl, ho6⟩
        have hy6 := only_below ho6 HS.out LB.out
        replace K6 := Lib.hid ((K6.out).only ho6 (by have := N6B.out; simp; omega))
        replace HS := Lib.hid (Nat.le_trans HS.out (hy6).size)
        go_wp2_with fail
        refine hK.out _ _ ?_ (fun hHeld2 => ?_)
        · exact ⟨bbelow hHeld.1 hy6 TW.out, hHeld.2.1.kept hy6 TL.out, hHeld.2.2.1.kept hy6 TR.out, hHeld.2.2.2.1.kept hy6 TH.out, hHeld.2.2.2.2.kept hy6 TA.out⟩
        clear hK K hHeld
        have hHeld := hHeld2
        clear hHeld2 hy6 ho6 BD
        try simp only [Act.put, List.setIfInBounds_toArray, List.set_cons_zero, List.set_cons_succ]
        refine wpAnyH_take (i := 5) (v := .tuple #[.agg (msA rm), .bool rb]) (at_list rfl) (by kernel_rfl) (by kernel_rfl) (by kernel_rfl) (fun _ _ _ h => h) (Or.inl ⟨by rfl, ?_⟩) hHeld ?_
        · intro v hSv
          clear hHeld
          go_simp
        try simp only [Act.put, List.setIfInBounds_toArray, List.set_cons_zero, List.set_cons_succ]
        refine wpAnyH_take (i := 6) (v := .agg (msA rm)) (at_list rfl) (by kernel_rfl) (by kernel_rfl) (by kernel_rfl) (fun _ _ _ h => h) (Or.inl ⟨by rfl, ?_⟩) hHeld ?_
        · intro v hSv
          clear hHeld
          go_simp
        try simp only [Act.put, List.setIfInBounds_toArray, List.set_cons_zero, List.set_cons_succ]
        refine wpAnyH_take (i := 7) (v := .bool rb) (at_list rfl) (by kernel_rfl) (by kernel_rfl) (by kernel_rfl) (fun _ _ _ h => h) (Or.inl ⟨by rfl, ?_⟩) hHeld ?_
        · intro v hSv
          clear hHeld
          go_simp
        try simp only [Act.put, List.setIfInBounds_toArray, List.set_cons_zero, List.set_cons_succ]
        refine wpAnyH_ready (rs := [9]) (by kernel_rfl) (by simp) ?_
        refine AllReadyH.cons (at_list rfl) (fun K hK => ?_) (AllReadyH.nil)
        refine step_store (by rfl) 49 _ _ rfl g6 0 (msA rm).toList rfl rfl K6.out (by kernel_rfl) (by kernel_rfl) (of_decide_eq_true (by kernel_rfl)) (msA rm) (by kernel_rfl) ?_
        intro y7 n6 hy7
        replace K6 := Lib.hid n6
        refine hK.out _ _ ?_ (fun hHeld2 => ?_)
        · exact ⟨btouch hHeld.1 hy7 L6.out, lens_touch hHeld.2.1 hy7 (by have := NL6.out; omega), hHeld.2.2.1.touch hy7 NR6.out, hHeld.2.2.2.1.touch hy7 NH6.out, hHeld.2.2.2.2.touch hy7 NA6.out⟩
        clear hK K hHeld
        have hHeld := hHeld2
        clear hHeld2
        try simp only [Act.put]
        clear n6 hy7
        refine wpAnyH_take (i := 10) (v := .bool rb) (at_list rfl) (by kernel_rfl) (by kernel_rfl) (by kernel_rfl) (fun _ _ _ h => h) (Or.inl ⟨by rfl, ?_⟩) hHeld ?_
        · intro v hSv
          clear hHeld
          go_simp
        try simp only [Act.put, List.setIfInBounds_toArray, List.set_cons_zero, List.set_cons_succ]
        refine wpAnyH_done (by kernel_rfl) ?_ _
        refine NoPanic.normal ?_
        go_wp2_with fail
        go_meet
        exact ⟨gB, g6, rfl, rfl, rfl, rfl, rfl, rfl, rfl, rfl, rfl, rfl, hHeld.1, hHeld.2.1, hHeld.2.2.1, K6.out, NR6.out, L6.out⟩
    · refine step_alloc (by rfl) 49 rfl (msA zeroM) (by kernel_rfl) ?_
      intro g6 y8 hl6 n6 hy8
      have K6 := Lib.hid n6
      have L6 := Lib.hid (show w.heap.size ≤ g6 from Nat.le_trans hHeld.1.size hl6)
      have NL6 := Lib.hid (show 0 ≠ g6 by have := hHeld.2.1.inside; omega)
      have NR6 := Lib.hid (show gKR ≠ g6 by have := hHeld.2.2.1.inside; omega)
      have NH6 := Lib.hid (show gKH ≠ g6 by have := hHeld.2.2.2.1.inside; omega)
      have NA6 := Lib.hid (show a.block ≠ g6 by have := hHeld.2.2.2.2.inside (by omega); omega)
      replace HS := Lib.hid (Nat.le_trans HS.out (hy8).size)
      refine hK.out _ _ ?_ (fun hHeld2 => ?_)
      · exact ⟨bstep hHeld.1 hy8, hHeld.2.1.keptB hy8, hHeld.2.2.1.keptB hy8, hHeld.2.2.2.1.keptB hy8, hHeld.2.2.2.2.keptB hy8⟩
      clear hK K hHeld
      have hHeld := hHeld2
      clear hHeld2
      try simp only [Act.put]
      try simp only [List.setIfInBounds_toArray, List.set_cons_zero, List.set_cons_succ]
      clear hl6 n6 hy8
      refine wpAnyH_ready (rs := [3]) (by kernel_rfl) (by simp) ?_
      refine AllReadyH.cons (at_list rfl) (fun K hK => ?_) (AllReadyH.nil)
      go_simp
      refine (taker_any a L C _).mono ?_
      rintro e y9 ⟨gB, hgB, rfl, hbB, hy9⟩
      have BD := Lib.hid hbB
      have LB := Lib.hid (show B ≤ gB from Nat.le_trans HS.out hgB)
      have NAB := Lib.hid (show a.block ≠ gB by have := TA.out; have := LB.out; omega)
      have N6B := Lib.hid (show g6 ≠ gB by have := (K6.out).inside; omega)
      replace K6 := Lib.hid ((K6.out).keptB hy9)
      replace HS := Lib.hid (Nat.le_trans HS.out (hy9).size)
      go_wp2_with fail
      refine hK.out _ _ ?_ (fun hHeld2 => ?_)
      · exact ⟨bstep hHeld.1 hy9, hHeld.2.1.keptB hy9, hHeld.2.2.1.keptB hy9, hHeld.2.2.2.1.keptB hy9, hHeld.2.2.2.2.keptB hy9⟩
      clear hK K hHeld
      have hHeld := hHeld2
      clear hHeld2 hy9 hbB hgB
      try simp only [Act.put, List.setIfInBounds_toArray, List.set_cons_zero, List.set_cons_succ]
      refine wpAnyH_ready (rs := [4]) (by kernel_rfl) (by simp) ?_
      refine AllReadyH.cons (at_list rfl) (fun K hK => ?_) (AllReadyH.nil)
      go_simp
      refine ((CR.out) gB _ BD.out hHeld.2.2.2.2 NAB.out).mono ?_
      rintro e y10 ⟨rfl, ho10⟩
      have hy10 := only_below ho10 HS.out LB.out
      replace K6 := Lib.hid ((K6.out).only ho10 (by have := N6B.out; simp; omega))
      replace HS := Lib.hid (Nat.le_trans HS.out (hy10).size)
      go_wp2_with fail
      refine hK.out _ _ ?_ (fun hHeld2 => ?_)
      · exact ⟨bbelow hHeld.1 hy10 TW.out, hHeld.2.1.kept hy10 TL.out, hHeld.2.2.1.kept hy10 TR.out, hHeld.2.2.2.1.kept hy10 TH.out, hHeld.2.2.2.2.kept hy10 TA.out⟩
      clear hK K hHeld
      have hHeld := hHeld2
      clear hHeld2 hy10 ho10 BD
      try simp only [Act.put, List.setIfInBounds_toArray, List.set_cons_zero, List.set_cons_succ]
      refine wpAnyH_take (i := 5) (v := .tuple #[.agg (msA rm), .bool rb]) (at_list rfl) (by kernel_rfl) (by kernel_rfl) (by kernel_rfl) (fun _ _ _ h => h) (Or.inl ⟨by rfl, ?_⟩) hHeld ?_
      · intro v hSv
        clear hHeld
        go_simp
      try simp only [Act.put, List.setIfInBounds_toArray, List.set_cons_zero, List.set_cons_succ]
      refine wpAnyH_take (i := 6) (v := .agg (msA rm)) (at_list rfl) (by kernel_rfl) (by kernel_rfl) (by kernel_rfl) (fun _ _ _ h => h) (Or.inl ⟨by rfl, ?_⟩) hHeld ?_
      · intro v hSv
        clear hHeld
        go_simp
      try simp only [Act.put, List.setIfInBounds_toArray, List.set_cons_zero, List.set_cons_succ]
      refine wpAnyH_take (i := 7) (v := .bool rb) (at_list rfl) (by kernel_rfl) (by kernel_rfl) (by kernel_rfl) (fun _ _ _ h => h) (Or.inl ⟨by rfl, ?_⟩) hHeld ?_
      · intro v hSv
        clear hHeld
        go_simp
      try simp only [Act.put, List.setIfInBounds_toArray, List.set_cons_zero, List.set_cons_succ]
      refine wpAnyH_ready (rs := [9]) (by kernel_rfl) (by simp) ?_
      refine AllReadyH.cons (at_list rfl) (fun K hK => ?_) (AllReadyH.nil)
      refine step_store (by rfl) 49 _ _ rfl g6 0 (msA rm).toList rfl rfl K6.out (by kernel_rfl) (by kernel_rfl) (of_decide_eq_true (by kernel_rfl)) (msA rm) (by kernel_rfl) ?_
      intro y11 n6 hy11
      replace K6 := Lib.hid n6
      refine hK.out _ _ ?_ (fun hHeld2 => ?_)
      · exact ⟨btouch hHeld.1 hy11 L6.out, lens_touch hHeld.2.1 hy11 (by have := NL6.out; omega), hHeld.2.2.1.touch hy11 NR6.out, hHeld.2.2.2.1.touch hy11 NH6.out, hHeld.2.2.2.2.touch hy11 NA6.out⟩
      clear hK K hHeld
      have hHeld := hHeld2
      clear hHeld2
      try simp only [Act.put]
      clear n6 hy11
      refine wpAnyH_take (i := 10) (v := .bool rb) (at_list rfl) (by kernel_rfl) (by kernel_rfl) (by kernel_rfl) (fun _ _ _ h => h) (Or.inl ⟨by rfl, ?_⟩) hHeld ?_
      · intro v hSv
        clear hHeld
        go_simp
      try simp only [Act.put, List.setIfInBounds_toArray, List.set_cons_zero, List.set_cons_succ]
      refine wpAnyH_done (by kernel_rfl) ?_ _
      refine NoPanic.normal ?_
      go_wp2_with fail
      go_meet
      exact ⟨gB, g6, rfl, rfl, rfl, rfl, rfl, rfl, rfl, rfl, rfl, rfl, hHeld.1, hHeld.2.1, hHeld.2.2.1, K6.out, NR6.out, L6.out⟩
  case rest =>
    obtain ⟨gB, gK6, rfl, rfl, rfl, rfl, rfl, rfl, rfl, rfl, rfl, rfl, hb, hl, hr, h6, hne, hle⟩ := hcut
    have HB := Lib.hid hb
    have LN := Lib.hid hl
    have KR := Lib.hid hr
    have K6 := Lib.hid h6
    have NKRK6 := Lib.hid hne
    clear hb hl hr h6 hne hle
    have hrb := HRB.out
    subst hrb
    go_wp2_with ((refine big_whole rfl 49 _ rfl gK6 rfl K6.out Tryd.underlying49 rfl (by kernel_rfl) ?_))
    refine (fright_any rm _ LN.out f0 f1).mono ?_
    rintro e w9 ⟨rfl, hw9⟩
    rw [HR.out]
    replace KR := Lib.hid ((KR.out).keptB hw9)
    replace K6 := Lib.hid ((K6.out).keptB hw9)
    replace HB := Lib.hid (bstep HB.out hw9)
    clear hw9
    go_wp2_with (first | (refine big_fill rfl 49 _ _ rfl gKR (msA rm) rfl rfl KR.out (by kernel_rfl) (by kernel_rfl) (by kernel_rfl) ?_; intro vKR8 nKR htKR; replace KR := Lib.hid nKR; replace K6 := Lib.hid ((K6.out).touch htKR (by have := NKRK6.out; omega)); replace HB := Lib.hid (btouch HB.out htKR LKR.out); clear nKR htKR) | (refine big_whole rfl 49 _ rfl gK6 rfl K6.out Tryd.underlying49 rfl (by kernel_rfl) ?_))
    refine bodyPost_ret (results_two rfl _ _ gKR _ (msA rm) (.int .i64 0) _ rfl rfl KR.out Tryd.underlying49 rfl (by kernel_rfl)) rfl ⟨?_, HB.out⟩
    exact HX.out.symm
theorem decM_any (a : Addr) (L C : Nat) (zs : List Int) (w : World) (hz : zs.length = L) (hL : 34 ≤ L) (hC : L ≤ C) (hM : C ≤ maxLen) (hb : ∀ z ∈ zs, isByte z) (hc : BytesAt w a zs) (hl : Lens w) :
    Calls Tryd.prog 15 #[.slice (some a) L C] w fun e w' => e = .returned (.tuple #[.agg (msA (decM L zs)), .int .i64 (faultM L zs)]) ∧ Below w.heap.size w w' := by
  by_cases hf : faultN L zs = 0
  · have hf' : faultN zs.length zs = 0 := by rw [hz]; exact hf
    have h44 := (fault_long hf').2.2
    have hC1 := fun v h1 h2 => fdec_ok a L C zs v hz hL hC hM hb h1 h2 hf _ rfl
    have hCR := fun gB v h1 h2 h3 => read_any6 gB a L C zs _ v h1 hC hM hz h2 hb h3 hf' rfl
    have hff := readM_f zs hb
    cases hrb : readB zs
    · rw [hrb] at hCR
      refine decM_wayA a L C zs w (hdOf zs) (readM zs) false _ ?_ hz (by omega) hC hM hc hl hff.1 hff.2 hC1 hCR rfl
      have hno : bodyOk zs = false := by unfold bodyOk; unfold readB at hrb; rw [← Bool.and_assoc, hrb, Bool.false_and]
      have e : faultM L zs = 60 := by unfold faultM; rw [if_neg (by simpa using hf), hno]; rfl
      have e2 : decM L zs = zeroM := by unfold decM; rw [e]; rfl
      rw [e, e2]
    · have hrt : rightB (tsOf zs) (tnOf zs) = true ∧ spareB zs = true := by unfold readB at hrb; simpa using hrb
      have em : readM zs = mOf zs := by unfold readM; rw [if_pos hrt.1]
      rw [hrb] at hCR
      cases hr : (mOf zs).right
      · refine decM_wayB a L C zs w (hdOf zs) (readM zs) true _ ?_ hz (by omega) hC hM hc hl hff.1 hff.2 hC1 hCR rfl (by rw [em]; exact hr)
        have hno : bodyOk zs = false := by unfold bodyOk; rw [hr]; simp
        have e : faultM L zs = 60 := by unfold faultM; rw [if_neg (by simpa using hf), hno]; rfl
        have e2 : decM L zs = zeroM := by unfold decM; rw [e]; rfl
        rw [e, e2]
      · refine decM_wayC a L C zs w (hdOf zs) (readM zs) true _ ?_ hz (by omega) hC hM hc hl hff.1 hff.2 hC1 hCR rfl (by rw [em]; exact hr)
        have hno : bodyOk zs = true := bodyOk_iff.2 ⟨hrt.1, hrt.2, hr⟩
        have e : faultM L zs = 0 := faultM_zero.2 ⟨hf, hno⟩
        have e2 : decM L zs = readM zs := by unfold decM; rw [if_pos e, em]
        rw [e, e2]
  · have e : faultM L zs = faultN L zs := by unfold faultM; rw [if_pos hf]
    have e2 : decM L zs = zeroM := by unfold decM; rw [if_neg (by rw [e]; exact hf)]
    rw [e, e2]
    exact decM_bad a L C zs w hz hL hC hM hb hc hl hf

end Go.Proofs.YtifhjmhekapaoaaDoor

/- The walks over the laws' own words of layer 6: own, plain, alive. -/
namespace Go.Proofs.YtifhjmhekapaoaaDoor
set_option maxRecDepth 100000
open Go.RowKit
set_option linter.unusedVariables false

set_option maxHeartbeats 4000000 in
theorem own6_any (m : Ms) (w : World) :
    Calls Tryd.prog 10 #[.agg (msA m)] w fun e w' => e = .returned (.agg (msA m)) ∧ Below w.heap.size w w' := by
  have HB := Lib.hid (Below.refl w.heap.size w)
  go_enter Tryd.func10, Tryd.ntmps10
  go_wp2_with (first | (refine big_fill rfl 49 _ _ rfl gK2 (msA m) rfl rfl K2.out (by kernel_rfl) (by kernel_rfl) (by kernel_rfl) ?_; intro vK2 nK2 tK2; have hbK2 := btouch AK2.out tK2 LK2.out; replace K1 := Lib.hid ((K1.out).keptB hbK2); replace HB := Lib.hid (bstep HB.out hbK2); replace K2 := Lib.hid nK2; clear nK2 tK2 hbK2 AK2 LK2) | (refine big_build rfl 49 _ rfl (msA m) (by kernel_rfl) ?_) | (refine big_load rfl 42 _ rfl gK1 27 rfl K1y.out [.int .i64 m.p1, .int .i64 m.p2, .int .i64 m.q1, .int .i64 m.q2, .int .i64 m.q3, .int .u8 m.gr.b0, .int .u8 m.gr.b1, .int .u8 m.gr.b2, .int .u8 m.gr.b3, .int .u8 m.gr.b4, .int .u8 m.gr.b5, .int .u8 m.gr.b6, .int .u8 m.gr.b7, .int .i64 m.st, .int .u8 m.sn.c.b0, .int .u8 m.sn.c.b1, .int .u8 m.sn.c.b2, .int .u8 m.sn.c.b3, .int .u8 m.sn.c.b4, .int .u8 m.sn.c.b5, .int .u8 m.sn.c.b6, .int .u8 m.sn.c.b7, .int .i64 m.sn.n, .int .u8 m.rc.c.b0, .int .u8 m.rc.c.b1, .int .u8 m.rc.c.b2, .int .u8 m.rc.c.b3, .int .u8 m.rc.c.b4, .int .u8 m.rc.c.b5, .int .u8 m.rc.c.b6, .int .u8 m.rc.c.b7, .int .i64 m.rc.n] rfl Tryd.underlying42 rfl (by kernel_rfl) ?_) | (refine big_load rfl 26 _ rfl gK1 17 rfl K1y.out [.int .u8 m.ak.c.b0, .int .u8 m.ak.c.b1, .int .u8 m.ak.c.b2, .int .u8 m.ak.c.b3, .int .u8 m.ak.c.b4, .int .u8 m.ak.c.b5, .int .u8 m.ak.c.b6, .int .u8 m.ak.c.b7, .int .i64 m.ak.n] rfl Tryd.underlying26 rfl (by kernel_rfl) ?_) | (refine big_load rfl 38 _ rfl gK1 15 rfl K1y.out [.int .i64 m.ts, .int .i64 m.tn] rfl Tryd.underlying38 rfl (by kernel_rfl) ?_) | (refine big_load rfl 32 _ rfl gK1 0 rfl K1y.out [.int .i64 m.h.t, .int .i64 m.h.d, .int .i64 m.h.f, .int .i64 m.h.c, .int .u8 m.h.p.c.b0, .int .u8 m.h.p.c.b1, .int .u8 m.h.p.c.b2, .int .u8 m.h.p.c.b3, .int .u8 m.h.p.c.b4, .int .u8 m.h.p.c.b5, .int .u8 m.h.p.c.b6, .int .u8 m.h.p.c.b7, .int .i64 m.h.p.n, .int .i64 m.h.s, .int .i64 m.h.l] rfl Tryd.underlying32 rfl (by kernel_rfl) ?_) | (refine big_alloc rfl 49 rfl (msA zeroM) (by kernel_rfl) ?_; intro gK2 wK2 hlK2 nK2 hbK2; have K2 := Lib.hid nK2; have AK2 := Lib.hid hbK2; have LK2 := Lib.hid hlK2; have K1y := Lib.hid ((K1.out).keptB hbK2); have K1x := (K1.out).keptB hbK2; have x26 := K1x.reads (i := 26) (x := .int .i64 m.o) rfl; have x59 := K1x.reads (i := 59) (x := .int .i64 m.src) rfl; clear K1x; clear hlK2 nK2 hbK2) | (refine big_box rfl 44 _ rfl (msA m) rfl (by kernel_rfl) ?_; intro gK1 wK1 hlK1 nK1 hbK1; replace HB := Lib.hid (bstep HB.out hbK1); have K1 := Lib.hid nK1; clear hlK1 nK1 hbK1))
  exact bodyPost_ret (v := .agg (msA m)) (results_cell_row rfl _ _ gK2 _ _ (0, 0) _ rfl K2.out Tryd.underlying49 rfl (by kernel_rfl)) rfl ⟨rfl, HB.out⟩
set_option maxHeartbeats 4000000 in
theorem plain6_any (m : Ms) (w : World) :
    Calls Tryd.prog 17 #[.agg (msA m)] w fun e w' => e = .returned (.agg (msA m)) ∧ Below w.heap.size w w' := by
  have HB := Lib.hid (Below.refl w.heap.size w)
  go_enter Tryd.func17, Tryd.ntmps17
  go_wp2_with (first | (refine big_fill rfl 44 _ _ rfl gK2 (msA m) rfl rfl K2.out (by kernel_rfl) (by kernel_rfl) (by kernel_rfl) ?_; intro vK2 nK2 tK2; have hbK2 := btouch AK2.out tK2 LK2.out; replace K1 := Lib.hid ((K1.out).keptB hbK2); replace HB := Lib.hid (bstep HB.out hbK2); replace K2 := Lib.hid nK2; clear nK2 tK2 hbK2 AK2 LK2) | (refine big_build rfl 44 _ rfl (msA m) (by kernel_rfl) ?_) | (refine big_load rfl 42 _ rfl gK1 27 rfl K1y.out [.int .i64 m.p1, .int .i64 m.p2, .int .i64 m.q1, .int .i64 m.q2, .int .i64 m.q3, .int .u8 m.gr.b0, .int .u8 m.gr.b1, .int .u8 m.gr.b2, .int .u8 m.gr.b3, .int .u8 m.gr.b4, .int .u8 m.gr.b5, .int .u8 m.gr.b6, .int .u8 m.gr.b7, .int .i64 m.st, .int .u8 m.sn.c.b0, .int .u8 m.sn.c.b1, .int .u8 m.sn.c.b2, .int .u8 m.sn.c.b3, .int .u8 m.sn.c.b4, .int .u8 m.sn.c.b5, .int .u8 m.sn.c.b6, .int .u8 m.sn.c.b7, .int .i64 m.sn.n, .int .u8 m.rc.c.b0, .int .u8 m.rc.c.b1, .int .u8 m.rc.c.b2, .int .u8 m.rc.c.b3, .int .u8 m.rc.c.b4, .int .u8 m.rc.c.b5, .int .u8 m.rc.c.b6, .int .u8 m.rc.c.b7, .int .i64 m.rc.n] rfl Tryd.underlying42 rfl (by kernel_rfl) ?_) | (refine big_load rfl 26 _ rfl gK1 17 rfl K1y.out [.int .u8 m.ak.c.b0, .int .u8 m.ak.c.b1, .int .u8 m.ak.c.b2, .int .u8 m.ak.c.b3, .int .u8 m.ak.c.b4, .int .u8 m.ak.c.b5, .int .u8 m.ak.c.b6, .int .u8 m.ak.c.b7, .int .i64 m.ak.n] rfl Tryd.underlying26 rfl (by kernel_rfl) ?_) | (refine big_load rfl 47 _ rfl gK1 15 rfl K1y.out [.int .i64 m.ts, .int .i64 m.tn] rfl Tryd.underlying47 rfl (by kernel_rfl) ?_) | (refine big_load rfl 28 _ rfl gK1 0 rfl K1y.out [.int .i64 m.h.t, .int .i64 m.h.d, .int .i64 m.h.f, .int .i64 m.h.c, .int .u8 m.h.p.c.b0, .int .u8 m.h.p.c.b1, .int .u8 m.h.p.c.b2, .int .u8 m.h.p.c.b3, .int .u8 m.h.p.c.b4, .int .u8 m.h.p.c.b5, .int .u8 m.h.p.c.b6, .int .u8 m.h.p.c.b7, .int .i64 m.h.p.n, .int .i64 m.h.s, .int .i64 m.h.l] rfl Tryd.underlying28 rfl (by kernel_rfl) ?_) | (refine big_alloc rfl 44 rfl (msA zeroM) (by kernel_rfl) ?_; intro gK2 wK2 hlK2 nK2 hbK2; have K2 := Lib.hid nK2; have AK2 := Lib.hid hbK2; have LK2 := Lib.hid hlK2; have K1y := Lib.hid ((K1.out).keptB hbK2); have K1x := (K1.out).keptB hbK2; have x26 := K1x.reads (i := 26) (x := .int .i64 m.o) rfl; have x59 := K1x.reads (i := 59) (x := .int .i64 m.src) rfl; clear K1x; clear hlK2 nK2 hbK2) | (refine big_box rfl 49 _ rfl (msA m) rfl (by kernel_rfl) ?_; intro gK1 wK1 hlK1 nK1 hbK1; replace HB := Lib.hid (bstep HB.out hbK1); have K1 := Lib.hid nK1; clear hlK1 nK1 hbK1))
  exact bodyPost_ret (v := .agg (msA m)) (results_cell_row rfl _ _ gK2 _ _ (0, 0) _ rfl K2.out Tryd.underlying44 rfl (by kernel_rfl)) rfl ⟨rfl, HB.out⟩
theorem own_cap {w : World} {base g n cap : Nat} {e : TypeId} {xs : List Value} (h : w.ownsRow base e 1 (.slice (some ⟨g, 0, none⟩) n cap) n xs) : n ≤ cap ∧ cap ≤ maxLen ∧ ∃ cur, Holds w g e cur ∧ cur.size = cap ∧ cur.toList.take n = xs := by
  rcases h.2 with ⟨h0, _⟩ | ⟨g', cap', cur, hv, hbg, hg, h1, h2, h3, h4⟩
  · cases h0
  · cases hv
    exact ⟨h1, h2, cur, hg, by simpa using h3, by simpa using h4⟩
/-- a right message is written: bytes zs, N of them -/
theorem enc6_yes (m : Ms) (w : World) (hl : Lens w) (f0 : -9223372036854775808 ≤ m.h.f) (f1 : m.h.f ≤ 9223372036854775807) (hr : m.right = true) (zs : List Int) (hz : encM m = zs) (N : Nat) (hN : zs.length = N) :
    Calls Tryd.prog 9 #[.agg (msA m)] w fun e w' => ∃ g cap, w.heap.size ≤ g ∧ e = .returned (.tuple #[.slice (some ⟨g, 0, none⟩) N cap, .bool true]) ∧ BytesAt w' ⟨g, 0, none⟩ zs ∧ N ≤ cap ∧ cap ≤ maxLen ∧ Below w.heap.size w w' := by
  subst hz hN
  refine (encM_yes m w hl f0 f1 hr).mono ?_
  rintro e w' ⟨g, cap, h1, h2, h3, h4⟩
  obtain ⟨c1, c2, _⟩ := own_cap h3
  exact ⟨g, cap, h1, h2, own_bytes h3, c1, c2, h4⟩
def aP : Pt := ⟨⟨1, 0, 0, 0, 0, 0, 0, 0⟩, 1⟩
def aM : Ms := ⟨⟨11, 0, 0, 0, aP, 0, 0⟩, 0, 0, zeroP, 37, 128, 0, 0, 0, 0, ⟨1, 0, 0, 0, 0, 0, 0, 0⟩, 0, aP, zeroP, 0⟩
theorem aM_right : aM.right = true := by decide
theorem aM_len : (encM aM).length = 64 := by
  have := encM_length (m := aM) (by decide)
  have e : longN aM.h.t = 64 := rfl
  omega
theorem aM_byte : ∀ z ∈ encM aM, isByte z := encM_byte aM_right (by unfold Ck.ok Ck.l isByte aM aP; decide) (by unfold Ck.ok Ck.l isByte aM zeroP zeroC; decide) (by unfold Ck.ok Ck.l isByte aM; decide)
theorem aM_dec (w : World) (g C : Nat) (hC : 64 ≤ C) (hM : C ≤ maxLen) (hl : Lens w) (hc : BytesAt w ⟨g, 0, none⟩ (encM aM)) :
    Calls Tryd.prog 15 #[.slice (some ⟨g, 0, none⟩) 64 C] w fun e w' => e = .returned (.tuple #[.agg (msA aM), .int .i64 0]) ∧ Below w.heap.size w w' := by
  have h := decM_any ⟨g, 0, none⟩ 64 C (encM aM) w aM_len (by omega) hC hM aM_byte hc hl
  have hd := m_enc aM_right (by decide) (by decide)
  have hf : faultM ((64 : Nat) : Int) (encM aM) = 0 := hd.2.2
  have e2 : decM ((64 : Nat) : Int) (encM aM) = aM := by unfold decM; rw [if_pos hf, hd.1]
  rw [hf, e2] at h
  exact h
set_option maxHeartbeats 4000000 in
theorem alive6_any  (w : World) (hl : Lens w) :
    Calls Tryd.prog 12 #[] w fun e w' => e = .returned (.bool true) ∧ Below w.heap.size w w' := by
  have HB := Lib.hid (Below.refl w.heap.size w)
  have LN := Lib.hid hl
  clear hl
  go_enter Tryd.func12, Tryd.ntmps12
  go_wp2_with (first | (refine big_whole rfl 49 _ rfl gK2 rfl K2.out Tryd.underlying49 rfl (by kernel_rfl) ?_) | (refine big_fill rfl 49 _ _ rfl gK2 (msA aM) rfl rfl K2.out (by kernel_rfl) (by kernel_rfl) (by kernel_rfl) ?_; intro vK2 nK2 tK2; have hbK2 := btouch AK2.out tK2 LK2.out; replace LN := Lib.hid ((LN.out).keptB hbK2); replace K1 := Lib.hid ((K1.out).keptB hbK2); replace HB := Lib.hid (bstep HB.out hbK2); replace K2 := Lib.hid nK2; clear nK2 tK2 hbK2 AK2 LK2) | (refine big_alloc rfl 49 rfl (msA zeroM) (by kernel_rfl) ?_; intro gK2 wK2 hlK2 nK2 hbK2; have K2 := Lib.hid nK2; have AK2 := Lib.hid hbK2; have LK2 := Lib.hid hlK2; clear hlK2 nK2 hbK2) | (refine big_build rfl 49 _ rfl (msA aM) (by kernel_rfl) ?_) | (refine big_build rfl 42 _ rfl (#[.int .i64 128, .int .i64 0, .int .i64 0, .int .i64 0, .int .i64 0, .int .u8 1, .int .u8 0, .int .u8 0, .int .u8 0, .int .u8 0, .int .u8 0, .int .u8 0, .int .u8 0, .int .i64 0, .int .u8 1, .int .u8 0, .int .u8 0, .int .u8 0, .int .u8 0, .int .u8 0, .int .u8 0, .int .u8 0, .int .i64 1, .int .u8 0, .int .u8 0, .int .u8 0, .int .u8 0, .int .u8 0, .int .u8 0, .int .u8 0, .int .u8 0, .int .i64 0]) (by kernel_rfl) ?_) | (refine big_build rfl 28 _ rfl (#[.int .i64 11, .int .i64 0, .int .i64 0, .int .i64 0, .int .u8 1, .int .u8 0, .int .u8 0, .int .u8 0, .int .u8 0, .int .u8 0, .int .u8 0, .int .u8 0, .int .i64 1, .int .i64 0, .int .i64 0]) (by kernel_rfl) ?_) | (refine big_whole rfl 26 _ rfl gK1 rfl K1.out Tryd.underlying26 rfl (by kernel_rfl) ?_) | (refine big_fill rfl 26 _ _ rfl gK1 (#[.int .u8 1, .int .u8 0, .int .u8 0, .int .u8 0, .int .u8 0, .int .u8 0, .int .u8 0, .int .u8 0, .int .i64 1]) rfl rfl K1.out (by kernel_rfl) (by kernel_rfl) (by kernel_rfl) ?_; intro vK1 nK1 tK1; have hbK1 := btouch AK1.out tK1 LK1.out; replace LN := Lib.hid ((LN.out).keptB hbK1); replace HB := Lib.hid (bstep HB.out hbK1); replace K1 := Lib.hid nK1; clear nK1 tK1 hbK1 AK1 LK1) | (refine big_alloc rfl 26 rfl (#[.int .u8 0, .int .u8 0, .int .u8 0, .int .u8 0, .int .u8 0, .int .u8 0, .int .u8 0, .int .u8 0, .int .i64 0]) (by kernel_rfl) ?_; intro gK1 wK1 hlK1 nK1 hbK1; have K1 := Lib.hid nK1; have AK1 := Lib.hid hbK1; have LK1 := Lib.hid hlK1; clear hlK1 nK1 hbK1) | (refine big_build rfl 26 _ rfl (#[.int .u8 1, .int .u8 0, .int .u8 0, .int .u8 0, .int .u8 0, .int .u8 0, .int .u8 0, .int .u8 0, .int .i64 1]) (by kernel_rfl) ?_) | (refine big_build rfl 24 _ rfl (#[.int .u8 1, .int .u8 0, .int .u8 0, .int .u8 0, .int .u8 0, .int .u8 0, .int .u8 0, .int .u8 0]) (by kernel_rfl) ?_))
  refine (enc6_yes aM _ LN.out (by decide) (by decide) aM_right _ rfl 64 aM_len).mono ?_
  rintro e c1 ⟨gX, cap, -, rfl, nBX, hc0, hc1, hc1⟩
  replace LN := Lib.hid ((LN.out).keptB hc1)
  replace K1 := Lib.hid ((K1.out).keptB hc1)
  replace K2 := Lib.hid ((K2.out).keptB hc1)
  replace HB := Lib.hid (bstep HB.out hc1)
  have BX := Lib.hid nBX
  clear nBX
  clear hc1
  have HC0 := Lib.hid hc0
  have HC1 := Lib.hid hc1
  clear hc0 hc1
  go_wp2_with fail
  refine (aM_dec _ gX cap HC0.out HC1.out LN.out BX.out).mono ?_
  rintro e c2 ⟨rfl, hc2⟩
  replace LN := Lib.hid ((LN.out).keptB hc2)
  replace K1 := Lib.hid ((K1.out).keptB hc2)
  replace K2 := Lib.hid ((K2.out).keptB hc2)
  replace BX := Lib.hid ((BX.out).keptB hc2)
  replace HB := Lib.hid (bstep HB.out hc2)
  clear hc2
  go_wp2_with (first | (refine big_fill rfl 49 _ _ rfl gK5 (msA aM) rfl rfl K5.out (by kernel_rfl) (by kernel_rfl) (by kernel_rfl) ?_; intro vK5 nK5 tK5; have hbK5 := btouch AK5.out tK5 LK5.out; replace LN := Lib.hid ((LN.out).keptB hbK5); replace K1 := Lib.hid ((K1.out).keptB hbK5); replace K2 := Lib.hid ((K2.out).keptB hbK5); replace BX := Lib.hid ((BX.out).keptB hbK5); replace HB := Lib.hid (bstep HB.out hbK5); replace K5 := Lib.hid nK5; clear nK5 tK5 hbK5 AK5 LK5) | (refine big_alloc rfl 49 rfl (msA zeroM) (by kernel_rfl) ?_; intro gK5 wK5 hlK5 nK5 hbK5; have K5 := Lib.hid nK5; have AK5 := Lib.hid hbK5; have LK5 := Lib.hid hlK5; clear hlK5 nK5 hbK5))
  refine (decM_short none 0 0 _ (by omega)).mono ?_
  rintro e c3 ⟨rfl, hc3⟩
  replace LN := Lib.hid ((LN.out).keptB hc3)
  replace K1 := Lib.hid ((K1.out).keptB hc3)
  replace K2 := Lib.hid ((K2.out).keptB hc3)
  replace BX := Lib.hid ((BX.out).keptB hc3)
  replace K5 := Lib.hid ((K5.out).keptB hc3)
  replace HB := Lib.hid (bstep HB.out hc3)
  clear hc3
  go_wp2_with (first | (refine big_cmp rfl .eql 49 _ _ _ rfl (msA aM) (msA aM) rfl rfl (by kernel_rfl) true (fun v => (eql_msg aM aM v).trans (by rw [eqM_self])) ?_) | (refine big_whole rfl 49 _ rfl gK2 rfl K2.out Tryd.underlying49 rfl (by kernel_rfl) ?_) | (refine big_whole rfl 49 _ rfl gK5 rfl K5.out Tryd.underlying49 rfl (by kernel_rfl) ?_) | (refine big_fill rfl 49 _ _ rfl gK7 (msA zeroM) rfl rfl K7.out (by kernel_rfl) (by kernel_rfl) (by kernel_rfl) ?_; intro vK7 nK7 tK7; have hbK7 := btouch AK7.out tK7 LK7.out; replace LN := Lib.hid ((LN.out).keptB hbK7); replace K1 := Lib.hid ((K1.out).keptB hbK7); replace K2 := Lib.hid ((K2.out).keptB hbK7); replace BX := Lib.hid ((BX.out).keptB hbK7); replace K5 := Lib.hid ((K5.out).keptB hbK7); replace HB := Lib.hid (bstep HB.out hbK7); replace K7 := Lib.hid nK7; clear nK7 tK7 hbK7 AK7 LK7) | (refine big_alloc rfl 49 rfl (msA zeroM) (by kernel_rfl) ?_; intro gK7 wK7 hlK7 nK7 hbK7; have K7 := Lib.hid nK7; have AK7 := Lib.hid hbK7; have LK7 := Lib.hid hlK7; clear hlK7 nK7 hbK7))
  go_ret
  exact ⟨rfl, HB.out⟩

end Go.Proofs.YtifhjmhekapaoaaDoor
