/- Parts of this proof, one behind the other: FrameAnn, FrameEncode. -/
import Derived.Test.YtifhjmhekapaoaaDoorFrameB
import Derived.Test.YtifhjmhekapaoaaDoorStampAll
import Derived.Test.YtifhjmhekapaoaaDoorHeadEncode

/- The walk over frame.announced. -/
namespace Go.Proofs.YtifhjmhekapaoaaDoor
set_option maxRecDepth 100000
open Go.RowKit
set_option linter.unusedVariables false

/-- where the orders of the first assignment meet -/
def AnnCut (m : Ms) (w : World) (gK1 : Nat) (s3 s4 s6 s7 s8 s9 s10 : Value) (v : World) : Prop := ∃ g3 g4, s3 = .pointer (some ⟨g3, 0, none⟩) ∧ s4 = .pointer (some ⟨g4, 0, none⟩) ∧ s6 = .pointer (some ⟨gK1, 27, none⟩) ∧ s7 = .agg #[.int .i64 m.p1, .int .i64 m.p2, .int .i64 m.q1, .int .i64 m.q2, .int .i64 m.q3, .int .u8 m.gr.b0, .int .u8 m.gr.b1, .int .u8 m.gr.b2, .int .u8 m.gr.b3, .int .u8 m.gr.b4, .int .u8 m.gr.b5, .int .u8 m.gr.b6, .int .u8 m.gr.b7, .int .i64 m.st, .int .u8 m.sn.c.b0, .int .u8 m.sn.c.b1, .int .u8 m.sn.c.b2, .int .u8 m.sn.c.b3, .int .u8 m.sn.c.b4, .int .u8 m.sn.c.b5, .int .u8 m.sn.c.b6, .int .u8 m.sn.c.b7, .int .i64 m.sn.n, .int .u8 m.rc.c.b0, .int .u8 m.rc.c.b1, .int .u8 m.rc.c.b2, .int .u8 m.rc.c.b3, .int .u8 m.rc.c.b4, .int .u8 m.rc.c.b5, .int .u8 m.rc.c.b6, .int .u8 m.rc.c.b7, .int .i64 m.rc.n] ∧ s8 = .pointer (some ⟨gK1, 27, none⟩) ∧ s9 = .pointer (some ⟨gK1, 29, none⟩) ∧ s10 = .agg #[.int .i64 m.q1, .int .i64 m.q2, .int .i64 m.q3] ∧
  Below w.heap.size w v ∧ Holds v gK1 49 (msA m) ∧ Holds v g3 42 (setA m) ∧ Holds v g4 40 #[.int .i64 m.q1, .int .i64 m.q2, .int .i64 m.q3] ∧ w.heap.size ≤ g3
theorem size_of {w : World} {g : Nat} {t : TypeId} {cs : Array Value} (h : Holds w g t cs) : ∃ B, w.heap.size = B := ⟨_, rfl⟩
theorem gr_bytes {w : World} {g : Nat} {t : TypeId} {m : Ms} (h : Holds w g t (setA m)) : BytesAt w ⟨g, 5, none⟩ m.gr.l := by
  intro i hi
  rw [Addr.add_lit]
  refine h.reads ?_
  have hi' : i < 8 := hi
  match i, hi' with
  | 0, _ => rfl
  | 1, _ => rfl
  | 2, _ => rfl
  | 3, _ => rfl
  | 4, _ => rfl
  | 5, _ => rfl
  | 6, _ => rfl
  | 7, _ => rfl
theorem own_at {w : World} {base g n cap size : Nat} {e : TypeId} {xs : List Value} (h : w.ownsRow base e size (.slice (some ⟨g, 0, none⟩) n cap) n xs) : base ≤ g := by
  rcases h.2 with ⟨h0, _⟩ | ⟨g', cap', cur, hv, hbg, _⟩
  · cases h0
  · cases hv; exact hbg
set_option maxHeartbeats 4000000 in
theorem announced_any (m : Ms) (w : World) (hs : setB m = true) (s0 : 0 ≤ m.src) (s1 : m.src ≤ 255) :
    Calls Tryd.prog 34 #[.agg (msA m)] w fun e w' => ∃ g cap, w.heap.size ≤ g ∧ e = .returned (.slice (some ⟨g, 0, none⟩) 20 cap) ∧ BytesAt w' ⟨g, 0, none⟩ (annL m) ∧ Below w.heap.size w w' := by
  have HX : Hid ((((((beL 2 m.o ++ [0, m.p1 % 256, m.q1 % 256, m.q2 % 256]) ++ beL 2 m.q3) ++ [m.p2 % 256]) ++ m.gr.l) ++ beL 2 m.st) ++ [m.src % 256] = annL m) := by
    obtain ⟨b1, b2, b3, b4, b5, b6, b7⟩ := setB_iff.1 hs
    unfold annL
    rw [show m.p1 % 256 = m.p1 by omega, show m.q1 % 256 = m.q1 by omega, show m.q2 % 256 = m.q2 by omega, show m.p2 % 256 = m.p2 by omega, show m.src % 256 = m.src by omega]
    exact rfl
  clear hs s0 s1
  have HB := Lib.hid (Below.refl w.heap.size w)
  go_enter Tryd.func34, Tryd.ntmps34
  go_upto_region 1 with (refine big_box rfl 49 _ rfl (msA m) rfl (by kernel_rfl) ?_; intro gK1 wK1 hlK1 nK1 hbK1; have K1 := Lib.hid nK1; have LK1 := Lib.hid (Nat.le_trans (HB.out).size hlK1); replace HB := Lib.hid (bstep HB.out hbK1); clear hlK1 nK1 hbK1)
  go_cut [3, 4, 6, 7, 8, 9, 10] (fun s3 s4 s6 s7 s8 s9 s10 wx => AnnCut m w gK1 s3 s4 s6 s7 s8 s9 s10 wx)
  case first =>
    refine wp_region_held_drew (S := fun v => Below w.heap.size w v ∧ Holds v gK1 49 (msA m)) (by kernel_rfl) ?_ (fun hHeld => ?_)
    · exact ⟨bdrew HB.out, (K1.out).drew⟩
    clear K1 HB
    refine wpAnyH_take (i := 0) (v := .pointer (some ⟨gK1, 27, none⟩)) (at_list rfl) (by kernel_rfl) (by kernel_rfl) (by kernel_rfl) (fun _ _ _ h => h) (Or.inl ⟨by rfl, ?_⟩) hHeld ?_
    · intro v hSv
      clear hHeld
      go_simp
    try simp only [Act.put, List.setIfInBounds_toArray, List.set_cons_zero, List.set_cons_succ]
    refine wpAnyH_take (i := 1) (v := .agg #[.int .i64 m.p1, .int .i64 m.p2, .int .i64 m.q1, .int .i64 m.q2, .int .i64 m.q3, .int .u8 m.gr.b0, .int .u8 m.gr.b1, .int .u8 m.gr.b2, .int .u8 m.gr.b3, .int .u8 m.gr.b4, .int .u8 m.gr.b5, .int .u8 m.gr.b6, .int .u8 m.gr.b7, .int .i64 m.st, .int .u8 m.sn.c.b0, .int .u8 m.sn.c.b1, .int .u8 m.sn.c.b2, .int .u8 m.sn.c.b3, .int .u8 m.sn.c.b4, .int .u8 m.sn.c.b5, .int .u8 m.sn.c.b6, .int .u8 m.sn.c.b7, .int .i64 m.sn.n, .int .u8 m.rc.c.b0, .int .u8 m.rc.c.b1, .int .u8 m.rc.c.b2, .int .u8 m.rc.c.b3, .int .u8 m.rc.c.b4, .int .u8 m.rc.c.b5, .int .u8 m.rc.c.b6, .int .u8 m.rc.c.b7, .int .i64 m.rc.n]) (at_list rfl) (by kernel_rfl) (by kernel_rfl) (by kernel_rfl) (fun _ _ _ h => h) (yieldsIf_load_mid (by rfl) 42 _ rfl gK1 27 rfl [.int .i64 m.p1, .int .i64 m.p2, .int .i64 m.q1, .int .i64 m.q2, .int .i64 m.q3, .int .u8 m.gr.b0, .int .u8 m.gr.b1, .int .u8 m.gr.b2, .int .u8 m.gr.b3, .int .u8 m.gr.b4, .int .u8 m.gr.b5, .int .u8 m.gr.b6, .int .u8 m.gr.b7, .int .i64 m.st, .int .u8 m.sn.c.b0, .int .u8 m.sn.c.b1, .int .u8 m.sn.c.b2, .int .u8 m.sn.c.b3, .int .u8 m.sn.c.b4, .int .u8 m.sn.c.b5, .int .u8 m.sn.c.b6, .int .u8 m.sn.c.b7, .int .i64 m.sn.n, .int .u8 m.rc.c.b0, .int .u8 m.rc.c.b1, .int .u8 m.rc.c.b2, .int .u8 m.rc.c.b3, .int .u8 m.rc.c.b4, .int .u8 m.rc.c.b5, .int .u8 m.rc.c.b6, .int .u8 m.rc.c.b7, .int .i64 m.rc.n] _ (fun v hv => Holds.range hv.2 rfl) Tryd.underlying42 rfl (by kernel_rfl)) hHeld ?_
    try simp only [Act.put, List.setIfInBounds_toArray, List.set_cons_zero, List.set_cons_succ]
    refine wpAnyH_take (i := 2) (v := .pointer (some ⟨gK1, 27, none⟩)) (at_list rfl) (by kernel_rfl) (by kernel_rfl) (by kernel_rfl) (fun _ _ _ h => h) (Or.inl ⟨by rfl, ?_⟩) hHeld ?_
    · intro v hSv
      clear hHeld
      go_simp
    try simp only [Act.put, List.setIfInBounds_toArray, List.set_cons_zero, List.set_cons_succ]
    refine wpAnyH_take (i := 3) (v := .pointer (some ⟨gK1, 29, none⟩)) (at_list rfl) (by kernel_rfl) (by kernel_rfl) (by kernel_rfl) (fun _ _ _ h => h) (Or.inl ⟨by rfl, ?_⟩) hHeld ?_
    · intro v hSv
      clear hHeld
      go_simp
    try simp only [Act.put, List.setIfInBounds_toArray, List.set_cons_zero, List.set_cons_succ]
    refine wpAnyH_take (i := 4) (v := .agg #[.int .i64 m.q1, .int .i64 m.q2, .int .i64 m.q3]) (at_list rfl) (by kernel_rfl) (by kernel_rfl) (by kernel_rfl) (fun _ _ _ h => h) (yieldsIf_load_mid (by rfl) 40 _ rfl gK1 29 rfl [.int .i64 m.q1, .int .i64 m.q2, .int .i64 m.q3] _ (fun v hv => Holds.range hv.2 rfl) Tryd.underlying40 rfl (by kernel_rfl)) hHeld ?_
    try simp only [Act.put, List.setIfInBounds_toArray, List.set_cons_zero, List.set_cons_succ]
    refine wpAnyH_ready (rs := [5, 6]) (by kernel_rfl) (by simp) ?_
    refine AllReadyH.cons (at_list rfl) (fun K hK => ?_) (AllReadyH.cons (at_list rfl) (fun K hK => ?_) (AllReadyH.nil))
    · refine step_alloc (by rfl) 42 rfl #[.int .i64 0, .int .i64 0, .int .i64 0, .int .i64 0, .int .i64 0, .int .u8 0, .int .u8 0, .int .u8 0, .int .u8 0, .int .u8 0, .int .u8 0, .int .u8 0, .int .u8 0, .int .i64 0, .int .u8 0, .int .u8 0, .int .u8 0, .int .u8 0, .int .u8 0, .int .u8 0, .int .u8 0, .int .u8 0, .int .i64 0, .int .u8 0, .int .u8 0, .int .u8 0, .int .u8 0, .int .u8 0, .int .u8 0, .int .u8 0, .int .u8 0, .int .i64 0] (by kernel_rfl) ?_
      intro gK3 v5 hlK3 nK3 hbK3
      have K3 := Lib.hid nK3
      have LK3 := Lib.hid (show w.heap.size ≤ gK3 from Nat.le_trans hHeld.1.size hlK3)
      have NK3 := Lib.hid (show gK1 ≠ gK3 by have := hHeld.2.inside; omega)
      refine hK.out _ _ ?_ (fun hHeld2 => ?_)
      · exact ⟨bstep hHeld.1 hbK3, hHeld.2.keptB hbK3⟩
      clear hK K hHeld
      have hHeld := hHeld2
      clear hHeld2
      try simp only [Act.put]
      try simp only [List.setIfInBounds_toArray, List.set_cons_zero, List.set_cons_succ]
      clear hlK3 nK3 hbK3
      refine wpAnyH_ready (rs := [6]) (by kernel_rfl) (by simp) ?_
      refine AllReadyH.cons (at_list rfl) (fun K hK => ?_) (AllReadyH.nil)
      refine step_alloc (by rfl) 40 rfl #[.int .i64 0, .int .i64 0, .int .i64 0] (by kernel_rfl) ?_
      intro gK4 v6 hlK4 nK4 hbK4
      have K4 := Lib.hid nK4
      have LK4 := Lib.hid (show w.heap.size ≤ gK4 from Nat.le_trans hHeld.1.size hlK4)
      have NK4 := Lib.hid (show gK1 ≠ gK4 by have := hHeld.2.inside; omega)
      have NN := Lib.hid (show gK3 ≠ gK4 by have := (K3.out).inside; omega)
      replace K3 := Lib.hid ((K3.out).keptB hbK4)
      refine hK.out _ _ ?_ (fun hHeld2 => ?_)
      · exact ⟨bstep hHeld.1 hbK4, hHeld.2.keptB hbK4⟩
      clear hK K hHeld
      have hHeld := hHeld2
      clear hHeld2
      try simp only [Act.put]
      try simp only [List.setIfInBounds_toArray, List.set_cons_zero, List.set_cons_succ]
      clear hlK4 nK4 hbK4
      refine wpAnyH_ready (rs := [7]) (by kernel_rfl) (by simp) ?_
      refine AllReadyH.cons (at_list rfl) (fun K hK => ?_) (AllReadyH.nil)
      refine step_store (by rfl) 42 _ _ rfl gK3 0 [.int .i64 m.p1, .int .i64 m.p2, .int .i64 m.q1, .int .i64 m.q2, .int .i64 m.q3, .int .u8 m.gr.b0, .int .u8 m.gr.b1, .int .u8 m.gr.b2, .int .u8 m.gr.b3, .int .u8 m.gr.b4, .int .u8 m.gr.b5, .int .u8 m.gr.b6, .int .u8 m.gr.b7, .int .i64 m.st, .int .u8 m.sn.c.b0, .int .u8 m.sn.c.b1, .int .u8 m.sn.c.b2, .int .u8 m.sn.c.b3, .int .u8 m.sn.c.b4, .int .u8 m.sn.c.b5, .int .u8 m.sn.c.b6, .int .u8 m.sn.c.b7, .int .i64 m.sn.n, .int .u8 m.rc.c.b0, .int .u8 m.rc.c.b1, .int .u8 m.rc.c.b2, .int .u8 m.rc.c.b3, .int .u8 m.rc.c.b4, .int .u8 m.rc.c.b5, .int .u8 m.rc.c.b6, .int .u8 m.rc.c.b7, .int .i64 m.rc.n] rfl rfl K3.out (by kernel_rfl) (by kernel_rfl) (of_decide_eq_true (by kernel_rfl)) (setA m) (by kernel_rfl) ?_
      intro u7 nK3 htK3
      replace K3 := Lib.hid nK3
      replace K4 := Lib.hid ((K4.out).touch htK3 (by have := NN.out; omega))
      refine hK.out _ _ ?_ (fun hHeld2 => ?_)
      · exact ⟨btouch hHeld.1 htK3 LK3.out, hHeld.2.touch htK3 NK3.out⟩
      clear hK K hHeld
      have hHeld := hHeld2
      clear hHeld2
      try simp only [Act.put]
      clear nK3 htK3
      refine wpAnyH_ready (rs := [8]) (by kernel_rfl) (by simp) ?_
      refine AllReadyH.cons (at_list rfl) (fun K hK => ?_) (AllReadyH.nil)
      refine step_store (by rfl) 40 _ _ rfl gK4 0 [.int .i64 m.q1, .int .i64 m.q2, .int .i64 m.q3] rfl rfl K4.out (by kernel_rfl) (by kernel_rfl) (of_decide_eq_true (by kernel_rfl)) (#[.int .i64 m.q1, .int .i64 m.q2, .int .i64 m.q3]) (by kernel_rfl) ?_
      intro u8 nK4 htK4
      replace K4 := Lib.hid nK4
      replace K3 := Lib.hid ((K3.out).touch htK4 (by have := NN.out; omega))
      refine hK.out _ _ ?_ (fun hHeld2 => ?_)
      · exact ⟨btouch hHeld.1 htK4 LK4.out, hHeld.2.touch htK4 NK4.out⟩
      clear hK K hHeld
      have hHeld := hHeld2
      clear hHeld2
      try simp only [Act.put]
      clear nK4 htK4
      refine wpAnyH_done (by kernel_rfl) ?_ _
      go_wp2_with fail
      go_meet
      exact ⟨gK3, gK4, rfl, rfl, rfl, rfl, rfl, rfl, rfl, hHeld.1, hHeld.2, K3.out, K4.out, LK3.out⟩
    · refine step_alloc (by rfl) 40 rfl #[.int .i64 0, .int .i64 0, .int .i64 0] (by kernel_rfl) ?_
      intro gK4 v6 hlK4 nK4 hbK4
      have K4 := Lib.hid nK4
      have LK4 := Lib.hid (show w.heap.size ≤ gK4 from Nat.le_trans hHeld.1.size hlK4)
      have NK4 := Lib.hid (show gK1 ≠ gK4 by have := hHeld.2.inside; omega)
      refine hK.out _ _ ?_ (fun hHeld2 => ?_)
      · exact ⟨bstep hHeld.1 hbK4, hHeld.2.keptB hbK4⟩
      clear hK K hHeld
      have hHeld := hHeld2
      clear hHeld2
      try simp only [Act.put]
      try simp only [List.setIfInBounds_toArray, List.set_cons_zero, List.set_cons_succ]
      clear hlK4 nK4 hbK4
      refine wpAnyH_ready (rs := [5]) (by kernel_rfl) (by simp) ?_
      refine AllReadyH.cons (at_list rfl) (fun K hK => ?_) (AllReadyH.nil)
      refine step_alloc (by rfl) 42 rfl #[.int .i64 0, .int .i64 0, .int .i64 0, .int .i64 0, .int .i64 0, .int .u8 0, .int .u8 0, .int .u8 0, .int .u8 0, .int .u8 0, .int .u8 0, .int .u8 0, .int .u8 0, .int .i64 0, .int .u8 0, .int .u8 0, .int .u8 0, .int .u8 0, .int .u8 0, .int .u8 0, .int .u8 0, .int .u8 0, .int .i64 0, .int .u8 0, .int .u8 0, .int .u8 0, .int .u8 0, .int .u8 0, .int .u8 0, .int .u8 0, .int .u8 0, .int .i64 0] (by kernel_rfl) ?_
      intro gK3 v5 hlK3 nK3 hbK3
      have K3 := Lib.hid nK3
      have LK3 := Lib.hid (show w.heap.size ≤ gK3 from Nat.le_trans hHeld.1.size hlK3)
      have NK3 := Lib.hid (show gK1 ≠ gK3 by have := hHeld.2.inside; omega)
      have NN := Lib.hid (show gK4 ≠ gK3 by have := (K4.out).inside; omega)
      replace K4 := Lib.hid ((K4.out).keptB hbK3)
      refine hK.out _ _ ?_ (fun hHeld2 => ?_)
      · exact ⟨bstep hHeld.1 hbK3, hHeld.2.keptB hbK3⟩
      clear hK K hHeld
      have hHeld := hHeld2
      clear hHeld2
      try simp only [Act.put]
      try simp only [List.setIfInBounds_toArray, List.set_cons_zero, List.set_cons_succ]
      clear hlK3 nK3 hbK3
      refine wpAnyH_ready (rs := [7]) (by kernel_rfl) (by simp) ?_
      refine AllReadyH.cons (at_list rfl) (fun K hK => ?_) (AllReadyH.nil)
      refine step_store (by rfl) 42 _ _ rfl gK3 0 [.int .i64 m.p1, .int .i64 m.p2, .int .i64 m.q1, .int .i64 m.q2, .int .i64 m.q3, .int .u8 m.gr.b0, .int .u8 m.gr.b1, .int .u8 m.gr.b2, .int .u8 m.gr.b3, .int .u8 m.gr.b4, .int .u8 m.gr.b5, .int .u8 m.gr.b6, .int .u8 m.gr.b7, .int .i64 m.st, .int .u8 m.sn.c.b0, .int .u8 m.sn.c.b1, .int .u8 m.sn.c.b2, .int .u8 m.sn.c.b3, .int .u8 m.sn.c.b4, .int .u8 m.sn.c.b5, .int .u8 m.sn.c.b6, .int .u8 m.sn.c.b7, .int .i64 m.sn.n, .int .u8 m.rc.c.b0, .int .u8 m.rc.c.b1, .int .u8 m.rc.c.b2, .int .u8 m.rc.c.b3, .int .u8 m.rc.c.b4, .int .u8 m.rc.c.b5, .int .u8 m.rc.c.b6, .int .u8 m.rc.c.b7, .int .i64 m.rc.n] rfl rfl K3.out (by kernel_rfl) (by kernel_rfl) (of_decide_eq_true (by kernel_rfl)) (setA m) (by kernel_rfl) ?_
      intro u7 nK3 htK3
      replace K3 := Lib.hid nK3
      replace K4 := Lib.hid ((K4.out).touch htK3 (by have := NN.out; omega))
      refine hK.out _ _ ?_ (fun hHeld2 => ?_)
      · exact ⟨btouch hHeld.1 htK3 LK3.out, hHeld.2.touch htK3 NK3.out⟩
      clear hK K hHeld
      have hHeld := hHeld2
      clear hHeld2
      try simp only [Act.put]
      clear nK3 htK3
      refine wpAnyH_ready (rs := [8]) (by kernel_rfl) (by simp) ?_
      refine AllReadyH.cons (at_list rfl) (fun K hK => ?_) (AllReadyH.nil)
      refine step_store (by rfl) 40 _ _ rfl gK4 0 [.int .i64 m.q1, .int .i64 m.q2, .int .i64 m.q3] rfl rfl K4.out (by kernel_rfl) (by kernel_rfl) (of_decide_eq_true (by kernel_rfl)) (#[.int .i64 m.q1, .int .i64 m.q2, .int .i64 m.q3]) (by kernel_rfl) ?_
      intro u8 nK4 htK4
      replace K4 := Lib.hid nK4
      replace K3 := Lib.hid ((K3.out).touch htK4 (by have := NN.out; omega))
      refine hK.out _ _ ?_ (fun hHeld2 => ?_)
      · exact ⟨btouch hHeld.1 htK4 LK4.out, hHeld.2.touch htK4 NK4.out⟩
      clear hK K hHeld
      have hHeld := hHeld2
      clear hHeld2
      try simp only [Act.put]
      clear nK4 htK4
      refine wpAnyH_done (by kernel_rfl) ?_ _
      go_wp2_with fail
      go_meet
      exact ⟨gK3, gK4, rfl, rfl, rfl, rfl, rfl, rfl, rfl, hHeld.1, hHeld.2, K3.out, K4.out, LK3.out⟩
  case rest =>
    obtain ⟨gK3, gK4, rfl, rfl, rfl, rfl, rfl, rfl, rfl, hb, h1, h3, h4, hl3⟩ := hcut
    have HB := Lib.hid hb
    have K1 := Lib.hid h1
    have K3 := Lib.hid h3
    have K4 := Lib.hid h4
    clear hb h1 h3 h4 hl3
    have x26 := (K1.out).reads (i := 26) (x := .int .i64 m.o) rfl
    go_wp2_with fail
    obtain ⟨B, hB⟩ := size_of K1.out
    have TK1 := Lib.hid (show gK1 < B from by rw [← hB]; exact (K1.out).inside)
    have TK3 := Lib.hid (show gK3 < B from by rw [← hB]; exact (K3.out).inside)
    have TK4 := Lib.hid (show gK4 < B from by rw [← hB]; exact (K4.out).inside)
    have HW := Lib.hid (show w.heap.size ≤ B by rw [← hB]; exact (HB.out).size)
    have HS0 := Lib.hid (Nat.le_of_eq hB.symm)
    refine (pair_any m.o _).mono ?_
    rintro e wA ⟨gA, hggA, rfl, ngA, hwA⟩
    clear x26
    replace K1 := Lib.hid ((K1.out).keptB hwA)
    replace K3 := Lib.hid ((K3.out).keptB hwA)
    replace K4 := Lib.hid ((K4.out).keptB hwA)
    replace HB := Lib.hid (bstep HB.out hwA)
    have HS := Lib.hid (Nat.le_trans HS0.out (hwA).size)
    have HO := Lib.hid (own_row ngA (base := B) (by omega) (n := 2) rfl (by omega))
    clear ngA hggA hwA hB HS0
    have x0 := (K3.out).reads (i := 0) (x := .int .i64 m.p1) rfl
    have y0 := (K4.out).reads (i := 0) (x := .int .i64 m.q1) rfl
    have y1 := (K4.out).reads (i := 1) (x := .int .i64 m.q2) rfl
    go_wp2_with (first | (at_builtin; refine wpList_appendB rfl _ _ rfl B rfl HO.out ⟨gY, 0, none⟩ 4 4 ([0, m.p1 % 256, m.q1 % 256, m.q2 % 256]) rfl (row_bytes KY.out) rfl (by omega) (by omega) HS.out 6 rfl ?_; intro g1 cap1 w1 hown1 hb1; replace HO := Lib.hid hown1; replace K1 := Lib.hid ((K1.out).kept hb1 TK1.out); replace K3 := Lib.hid ((K3.out).kept hb1 TK3.out); replace K4 := Lib.hid ((K4.out).kept hb1 TK4.out); replace HB := Lib.hid (bbelow HB.out hb1 HW.out); replace HS := Lib.hid (Nat.le_trans HS.out (hb1).size); clear hown1 hb1 KY x0 y0 y1; have y2 := (K4.out).reads (i := 2) (x := .int .i64 m.q3) rfl) | (refine big_bytes rfl 4 _ rfl [0, m.p1 % 256, m.q1 % 256, m.q2 % 256] rfl rfl (by kernel_rfl) ?_; intro gY wY hlY nY hbY; replace HO := Lib.hid (own_below HO.out hbY); replace HS := Lib.hid (Nat.le_trans HS.out (hbY).size); replace K1 := Lib.hid ((K1.out).keptB hbY); replace K3 := Lib.hid ((K3.out).keptB hbY); replace K4 := Lib.hid ((K4.out).keptB hbY); replace HB := Lib.hid (bstep HB.out hbY); have KY := Lib.hid nY; clear nY hbY hlY))
    refine (pair_any m.q3 _).mono ?_
    rintro e wC ⟨gC, hggC, rfl, ngC, hwC⟩
    clear y2
    replace K1 := Lib.hid ((K1.out).keptB hwC)
    replace K3 := Lib.hid ((K3.out).keptB hwC)
    replace K4 := Lib.hid ((K4.out).keptB hwC)
    replace HO := Lib.hid (own_below HO.out hwC)
    replace HS := Lib.hid (Nat.le_trans HS.out (hwC).size)
    replace HB := Lib.hid (bstep HB.out hwC)
    have KY := Lib.hid ngC
    clear ngC hggC hwC
    go_wp2_with (first | (at_builtin; refine wpList_appendB rfl _ _ rfl B rfl HO.out ⟨gY, 0, none⟩ 1 1 ([m.p2 % 256]) rfl (row_bytes KY.out) rfl (by omega) (by omega) HS.out 9 rfl ?_; intro g3 cap3 w3 hown3 hb3; replace HO := Lib.hid hown3; replace K1 := Lib.hid ((K1.out).kept hb3 TK1.out); replace K3 := Lib.hid ((K3.out).kept hb3 TK3.out); replace K4 := Lib.hid ((K4.out).kept hb3 TK4.out); replace HB := Lib.hid (bbelow HB.out hb3 HW.out); replace HS := Lib.hid (Nat.le_trans HS.out (hb3).size); clear hown3 hb3 KY) | (at_builtin; refine wpList_appendB rfl _ _ rfl B rfl HO.out ⟨gK3, 5, none⟩ 8 8 (m.gr.l) rfl (gr_bytes K3.out) rfl (by omega) (by omega) HS.out 17 rfl ?_; intro g4 cap4 w4 hown4 hb4; replace HO := Lib.hid hown4; replace K1 := Lib.hid ((K1.out).kept hb4 TK1.out); replace K3 := Lib.hid ((K3.out).kept hb4 TK3.out); replace K4 := Lib.hid ((K4.out).kept hb4 TK4.out); replace HB := Lib.hid (bbelow HB.out hb4 HW.out); replace HS := Lib.hid (Nat.le_trans HS.out (hb4).size); clear hown4 hb4 x1; have x13 := (K3.out).reads (i := 13) (x := .int .i64 m.st) rfl) | (refine big_bytes rfl 1 _ rfl [m.p2 % 256] rfl rfl (by kernel_rfl) ?_; intro gY wY hlY nY hbY; replace HO := Lib.hid (own_below HO.out hbY); replace HS := Lib.hid (Nat.le_trans HS.out (hbY).size); replace K1 := Lib.hid ((K1.out).keptB hbY); replace K3 := Lib.hid ((K3.out).keptB hbY); replace K4 := Lib.hid ((K4.out).keptB hbY); replace HB := Lib.hid (bstep HB.out hbY); have KY := Lib.hid nY; clear nY hbY hlY) | (at_builtin; refine wpList_appendB rfl _ _ rfl B rfl HO.out ⟨gC, 0, none⟩ 2 2 (beL 2 m.q3) rfl (row_bytes KY.out) rfl (by omega) (by omega) HS.out 8 rfl ?_; intro g2 cap2 w2 hown2 hb2; replace HO := Lib.hid hown2; replace K1 := Lib.hid ((K1.out).kept hb2 TK1.out); replace K3 := Lib.hid ((K3.out).kept hb2 TK3.out); replace K4 := Lib.hid ((K4.out).kept hb2 TK4.out); replace HB := Lib.hid (bbelow HB.out hb2 HW.out); replace HS := Lib.hid (Nat.le_trans HS.out (hb2).size); clear hown2 hb2 KY; have x1 := (K3.out).reads (i := 1) (x := .int .i64 m.p2) rfl))
    refine (pair_any m.st _).mono ?_
    rintro e wE ⟨gE, hggE, rfl, ngE, hwE⟩
    replace K1 := Lib.hid ((K1.out).keptB hwE)
    replace K3 := Lib.hid ((K3.out).keptB hwE)
    replace K4 := Lib.hid ((K4.out).keptB hwE)
    replace HO := Lib.hid (own_below HO.out hwE)
    replace HS := Lib.hid (Nat.le_trans HS.out (hwE).size)
    replace HB := Lib.hid (bstep HB.out hwE)
    have KY := Lib.hid ngE
    clear ngE hggE hwE
    go_wp2_with (first | (at_builtin; refine wpList_appendB rfl _ _ rfl B rfl HO.out ⟨gY, 0, none⟩ 1 1 ([m.src % 256]) rfl (row_bytes KY.out) rfl (by omega) (by omega) HS.out 20 rfl ?_; intro g6 cap6 w6 hown6 hb6; replace HO := Lib.hid hown6; replace K1 := Lib.hid ((K1.out).kept hb6 TK1.out); replace K3 := Lib.hid ((K3.out).kept hb6 TK3.out); replace K4 := Lib.hid ((K4.out).kept hb6 TK4.out); replace HB := Lib.hid (bbelow HB.out hb6 HW.out); replace HS := Lib.hid (Nat.le_trans HS.out (hb6).size); clear hown6 hb6 KY) | (refine big_bytes rfl 1 _ rfl [m.src % 256] rfl rfl (by kernel_rfl) ?_; intro gY wY hlY nY hbY; replace HO := Lib.hid (own_below HO.out hbY); replace HS := Lib.hid (Nat.le_trans HS.out (hbY).size); replace K1 := Lib.hid ((K1.out).keptB hbY); replace K3 := Lib.hid ((K3.out).keptB hbY); replace K4 := Lib.hid ((K4.out).keptB hbY); replace HB := Lib.hid (bstep HB.out hbY); have KY := Lib.hid nY; clear nY hbY hlY) | (at_builtin; refine wpList_appendB rfl _ _ rfl B rfl HO.out ⟨gE, 0, none⟩ 2 2 (beL 2 m.st) rfl (row_bytes KY.out) rfl (by omega) (by omega) HS.out 19 rfl ?_; intro g5 cap5 w5 hown5 hb5; replace HO := Lib.hid hown5; replace K1 := Lib.hid ((K1.out).kept hb5 TK1.out); replace K3 := Lib.hid ((K3.out).kept hb5 TK3.out); replace K4 := Lib.hid ((K4.out).kept hb5 TK4.out); replace HB := Lib.hid (bbelow HB.out hb5 HW.out); replace HS := Lib.hid (Nat.le_trans HS.out (hb5).size); clear hown5 hb5 KY; have x59 := (K1.out).reads (i := 59) (x := .int .i64 m.src) rfl))
    go_ret
    exact ⟨_, _, Nat.le_trans HW.out (own_at HO.out), rfl, by rw [← HX.out]; exact own_bytes HO.out, HB.out⟩

end Go.Proofs.YtifhjmhekapaoaaDoor

/- The walk over frame.Encode. -/
namespace Go.Proofs.YtifhjmhekapaoaaDoor
set_option maxRecDepth 100000
open Go.RowKit
set_option linter.unusedVariables false

theorem own_base {w : World} {b c size n : Nat} {e : TypeId} {v : Value} {xs : List Value} (h : w.ownsRow b e size v n xs) (hc : c ≤ b) : w.ownsRow c e size v n xs := by
  refine ⟨h.1, h.2.imp id ?_⟩
  rintro ⟨g, cap, cur, h1, h2, h3⟩
  exact ⟨g, cap, cur, h1, Nat.le_trans hc h2, h3⟩
theorem fput_yes (s n : Int) (w : World) (hR : rightB s n = true) :
    Calls Tryd.prog 32 #[.agg #[.int .i64 s, .int .i64 n]] w fun e w' => ∃ g, w.heap.size ≤ g ∧ e = .returned (.tuple #[.slice (some ⟨g, 0, none⟩) 10 10, .int .i64 0]) ∧ Holds w' g 92 (byteCells (beL 6 s ++ beL 4 n)) ∧ Below w.heap.size w w' :=
  (put_yes s n w hR).mono fun _ _ ⟨g, h1, h2, h3, h4⟩ => ⟨g, h1, h4, h2, h3⟩
theorem fidput_yes (p : Pt) (w : World) (hf : fitB p.n = true) :
    Calls Tryd.prog 33 #[.agg #[.int .u8 p.c.b0, .int .u8 p.c.b1, .int .u8 p.c.b2, .int .u8 p.c.b3, .int .u8 p.c.b4, .int .u8 p.c.b5, .int .u8 p.c.b6, .int .u8 p.c.b7, .int .i64 p.n]] w fun e w' => ∃ g, w.heap.size ≤ g ∧ e = .returned (.tuple #[.slice (some ⟨g, 0, none⟩) 10 10, .bool true]) ∧ Holds w' g 5 (byteCells (ptL p)) ∧ Below w.heap.size w w' :=
  (idput_yes p w hf).mono fun _ _ ⟨g, h1, h2, h3, h4⟩ => ⟨g, h1, h4, h2, h3⟩
/-- a message's bytes, newly laid -/
def EncYes (zs : List Int) (w : World) (e : Ending) (w' : World) : Prop := ∃ g cap, w.heap.size ≤ g ∧ e = .returned (.tuple #[.slice (some ⟨g, 0, none⟩) zs.length cap, .bool true]) ∧ w'.ownsRow w.heap.size 5 1 (.slice (some ⟨g, 0, none⟩) zs.length cap) zs.length (zs.map (Value.int .u8)) ∧ Below w.heap.size w w'
set_option maxHeartbeats 4000000 in
theorem encM_no (m : Ms) (w : World) (hl : Lens w) (f0 : -9223372036854775808 ≤ m.h.f) (f1 : m.h.f ≤ 9223372036854775807) (hr : m.right = false) :
    Calls Tryd.prog 9 #[.agg (msA m)] w fun e w' => e = .returned (.tuple #[.slice none 0 0, .bool false]) ∧ Below w.heap.size w w' := by
  have HB := Lib.hid (Below.refl w.heap.size w)
  have LN := Lib.hid hl
  have HR := Lib.hid hr
  clear hl hr
  go_enter Tryd.func9, Tryd.ntmps9
  go_wp2_with (first | (refine big_whole rfl 49 _ rfl gK1 rfl K1.out Tryd.underlying49 rfl (by kernel_rfl) ?_) | (refine big_box rfl 49 _ rfl (msA m) rfl (by kernel_rfl) ?_; intro gK1 wK1 hlK1 nK1 hbK1; have K1 := Lib.hid nK1; have LK1 := Lib.hid (Nat.le_trans (HB.out).size hlK1); replace LN := Lib.hid ((LN.out).keptB hbK1); replace HB := Lib.hid (bstep HB.out hbK1); clear hlK1 nK1 hbK1))
  refine (fright_any m _ LN.out f0 f1).mono ?_
  rintro e w1 ⟨rfl, hw1⟩
  rw [HR.out]
  replace HB := Lib.hid (bstep HB.out hw1)
  clear hw1
  go_wp2
  go_ret2
  exact ⟨rfl, HB.out⟩
set_option maxHeartbeats 4000000 in
theorem encM_yes9 (m : Ms) (w : World) (hl : Lens w) (f0 : -9223372036854775808 ≤ m.h.f) (f1 : m.h.f ≤ 9223372036854775807) (hr : m.right = true) (h9 : m.h.t = 9) :
    Calls Tryd.prog 9 #[.agg (msA m)] w (EncYes (encM m) w) := by
  have HB := Lib.hid (Below.refl w.heap.size w)
  have LN := Lib.hid hl
  clear hl
  obtain ⟨h1, h2, h3, h4⟩ := Ms.right_iff.1 hr
  have HH := Lib.hid h1
  have HT := Lib.hid h2
  have d9 : (m.h.t == 9) = true := by simp [h9]
  have HP := Lib.hid (show fitB m.ak.n = true by unfold bodyB at h4; rw [if_pos h9, inB_iff] at h4; exact fitB_iff.2 ⟨by omega, by omega⟩)
  have HE := Lib.hid (show (encL m.h ++ (beL 6 m.ts ++ beL 4 m.tn)) ++ ptL m.ak = encM m by unfold encM tailL; rw [if_pos h9, List.append_assoc])
  have HN := Lib.hid (show (encM m).length = 54 by rw [← HE.out, List.length_append, List.length_append, encL_length, ptL_length]; rfl)
  have HR := Lib.hid hr
  clear hr h1 h2 h3 h4 h9
  go_enter Tryd.func9, Tryd.ntmps9
  go_wp2_with (first | (refine big_whole rfl 49 _ rfl gK1 rfl K1.out Tryd.underlying49 rfl (by kernel_rfl) ?_) | (refine big_box rfl 49 _ rfl (msA m) rfl (by kernel_rfl) ?_; intro gK1 wK1 hlK1 nK1 hbK1; have K1 := Lib.hid nK1; have LK1 := Lib.hid (Nat.le_trans (HB.out).size hlK1); replace LN := Lib.hid ((LN.out).keptB hbK1); replace HB := Lib.hid (bstep HB.out hbK1); clear hlK1 nK1 hbK1))
  refine (fright_any m _ LN.out f0 f1).mono ?_
  rintro e w1 ⟨rfl, hw1⟩
  rw [HR.out]
  replace HB := Lib.hid (bstep HB.out hw1)
  replace LN := Lib.hid ((LN.out).keptB hw1)
  replace K1 := Lib.hid ((K1.out).keptB hw1)
  clear hw1
  go_wp2_with ((refine big_load rfl 28 _ rfl gK1 0 rfl K1.out [.int .i64 m.h.t, .int .i64 m.h.d, .int .i64 m.h.f, .int .i64 m.h.c, .int .u8 m.h.p.c.b0, .int .u8 m.h.p.c.b1, .int .u8 m.h.p.c.b2, .int .u8 m.h.p.c.b3, .int .u8 m.h.p.c.b4, .int .u8 m.h.p.c.b5, .int .u8 m.h.p.c.b6, .int .u8 m.h.p.c.b7, .int .i64 m.h.p.n, .int .i64 m.h.s, .int .i64 m.h.l] rfl Tryd.underlying28 rfl (by kernel_rfl) ?_))
  obtain ⟨B, hB⟩ := size_of K1.out
  have TK1 := Lib.hid (show gK1 < B from by rw [← hB]; exact (K1.out).inside)
  have HW := Lib.hid (show w.heap.size ≤ B by rw [← hB]; exact (HB.out).size)
  have HS0 := Lib.hid (Nat.le_of_eq hB.symm)
  refine (encode_yes m.h _ LN.out HH.out).mono ?_
  rintro e wA ⟨gA, hggA, rfl, ngA, hwA⟩
  clear LN
  replace K1 := Lib.hid ((K1.out).keptB hwA)
  replace HB := Lib.hid (bstep HB.out hwA)
  have HS := Lib.hid (Nat.le_trans HS0.out (hwA).size)
  have HO := Lib.hid (own_row ngA (base := B) (by omega) (n := 34) (encL_length _) (by omega))
  clear ngA hggA hwA hB HS0
  go_wp2_with ((refine big_load rfl 47 _ rfl gK1 15 rfl K1.out [.int .i64 m.ts, .int .i64 m.tn] rfl Tryd.underlying47 rfl (by kernel_rfl) ?_))
  refine (fput_yes m.ts m.tn _ HT.out).mono ?_
  rintro e wT ⟨gT, hggT, rfl, ngT, hwT⟩
  replace K1 := Lib.hid ((K1.out).keptB hwT)
  replace HO := Lib.hid (own_below HO.out hwT)
  replace HS := Lib.hid (Nat.le_trans HS.out (hwT).size)
  replace HB := Lib.hid (bstep HB.out hwT)
  have KY := Lib.hid ngT
  clear ngT hggT hwT
  go_wp2_with (first | (refine big_load rfl 26 _ rfl gK1 17 rfl K1.out [.int .u8 m.ak.c.b0, .int .u8 m.ak.c.b1, .int .u8 m.ak.c.b2, .int .u8 m.ak.c.b3, .int .u8 m.ak.c.b4, .int .u8 m.ak.c.b5, .int .u8 m.ak.c.b6, .int .u8 m.ak.c.b7, .int .i64 m.ak.n] rfl Tryd.underlying26 rfl (by kernel_rfl) ?_) | (at_builtin; refine wpList_appendB rfl _ _ rfl B rfl HO.out ⟨gT, 0, none⟩ 10 10 (beL 6 m.ts ++ beL 4 m.tn) rfl (row_bytes KY.out) rfl (by omega) (by omega) HS.out 44 rfl ?_; intro g1 cap1 w1 hown1 hb1; replace HO := Lib.hid hown1; replace K1 := Lib.hid ((K1.out).kept hb1 TK1.out); replace HB := Lib.hid (bbelow HB.out hb1 HW.out); replace HS := Lib.hid (Nat.le_trans HS.out (hb1).size); clear hown1 hb1 KY; have x0 := (K1.out).reads (i := 0) (x := .int .i64 m.h.t) rfl))
  refine (fidput_yes m.ak _ HP.out).mono ?_
  rintro e wP ⟨gP, hggP, rfl, ngP, hwP⟩
  clear x0
  replace K1 := Lib.hid ((K1.out).keptB hwP)
  replace HO := Lib.hid (own_below HO.out hwP)
  replace HS := Lib.hid (Nat.le_trans HS.out (hwP).size)
  replace HB := Lib.hid (bstep HB.out hwP)
  have KY := Lib.hid ngP
  clear ngP hggP hwP
  go_wp2_with ((at_builtin; refine wpList_appendB rfl _ _ rfl B rfl HO.out ⟨gP, 0, none⟩ 10 10 (ptL m.ak) rfl (row_bytes KY.out) rfl (by omega) (by omega) HS.out 54 rfl ?_; intro g2 cap2 w2 hown2 hb2; replace HO := Lib.hid hown2; replace K1 := Lib.hid ((K1.out).kept hb2 TK1.out); replace HB := Lib.hid (bbelow HB.out hb2 HW.out); replace HS := Lib.hid (Nat.le_trans HS.out (hb2).size); clear hown2 hb2 KY))
  go_ret2
  refine ⟨g2, cap2, Nat.le_trans HW.out (own_at HO.out), ?_, ?_, HB.out⟩
  · rw [HN.out]
    rfl
  · rw [HN.out, ← HE.out]
    exact own_base HO.out HW.out
set_option maxHeartbeats 4000000 in
theorem encM_yes11 (m : Ms) (w : World) (hl : Lens w) (f0 : -9223372036854775808 ≤ m.h.f) (f1 : m.h.f ≤ 9223372036854775807) (hr : m.right = true) (h9 : ¬ m.h.t = 9) (h11 : m.h.t = 11) :
    Calls Tryd.prog 9 #[.agg (msA m)] w (EncYes (encM m) w) := by
  have HB := Lib.hid (Below.refl w.heap.size w)
  have LN := Lib.hid hl
  clear hl
  obtain ⟨h1, h2, h3, h4⟩ := Ms.right_iff.1 hr
  have HH := Lib.hid h1
  have HT := Lib.hid h2
  have d9 : (m.h.t == 9) = false := by simp [h9]
  have d11 : (m.h.t == 11) = true := by simp [h11]
  have HP := Lib.hid (show setB m = true ∧ 0 ≤ m.src ∧ m.src ≤ 255 by unfold bodyB at h4; rw [if_neg h9, if_pos h11, Bool.and_eq_true, Bool.and_eq_true, inB_iff, inB_iff] at h4; exact h4.2)
  have HE := Lib.hid (show (encL m.h ++ (beL 6 m.ts ++ beL 4 m.tn)) ++ annL m = encM m by unfold encM tailL; rw [if_neg h9, if_pos h11, List.append_assoc])
  have HN := Lib.hid (show (encM m).length = 64 by rw [← HE.out, List.length_append, List.length_append, encL_length, annL_length]; rfl)
  have HR := Lib.hid hr
  clear hr h1 h2 h3 h4 h9 h11
  go_enter Tryd.func9, Tryd.ntmps9
  go_wp2_with (first | (refine big_whole rfl 49 _ rfl gK1 rfl K1.out Tryd.underlying49 rfl (by kernel_rfl) ?_) | (refine big_box rfl 49 _ rfl (msA m) rfl (by kernel_rfl) ?_; intro gK1 wK1 hlK1 nK1 hbK1; have K1 := Lib.hid nK1; have LK1 := Lib.hid (Nat.le_trans (HB.out).size hlK1); replace LN := Lib.hid ((LN.out).keptB hbK1); replace HB := Lib.hid (bstep HB.out hbK1); clear hlK1 nK1 hbK1))
  refine (fright_any m _ LN.out f0 f1).mono ?_
  rintro e w1 ⟨rfl, hw1⟩
  rw [HR.out]
  replace HB := Lib.hid (bstep HB.out hw1)
  replace LN := Lib.hid ((LN.out).keptB hw1)
  replace K1 := Lib.hid ((K1.out).keptB hw1)
  clear hw1
  go_wp2_with ((refine big_load rfl 28 _ rfl gK1 0 rfl K1.out [.int .i64 m.h.t, .int .i64 m.h.d, .int .i64 m.h.f, .int .i64 m.h.c, .int .u8 m.h.p.c.b0, .int .u8 m.h.p.c.b1, .int .u8 m.h.p.c.b2, .int .u8 m.h.p.c.b3, .int .u8 m.h.p.c.b4, .int .u8 m.h.p.c.b5, .int .u8 m.h.p.c.b6, .int .u8 m.h.p.c.b7, .int .i64 m.h.p.n, .int .i64 m.h.s, .int .i64 m.h.l] rfl Tryd.underlying28 rfl (by kernel_rfl) ?_))
  obtain ⟨B, hB⟩ := size_of K1.out
  have TK1 := Lib.hid (show gK1 < B from by rw [← hB]; exact (K1.out).inside)
  have HW := Lib.hid (show w.heap.size ≤ B by rw [← hB]; exact (HB.out).size)
  have HS0 := Lib.hid (Nat.le_of_eq hB.symm)
  refine (encode_yes m.h _ LN.out HH.out).mono ?_
  rintro e wA ⟨gA, hggA, rfl, ngA, hwA⟩
  clear LN
  replace K1 := Lib.hid ((K1.out).keptB hwA)
  replace HB := Lib.hid (bstep HB.out hwA)
  have HS := Lib.hid (Nat.le_trans HS0.out (hwA).size)
  have HO := Lib.hid (own_row ngA (base := B) (by omega) (n := 34) (encL_length _) (by omega))
  clear ngA hggA hwA hB HS0
  go_wp2_with ((refine big_load rfl 47 _ rfl gK1 15 rfl K1.out [.int .i64 m.ts, .int .i64 m.tn] rfl Tryd.underlying47 rfl (by kernel_rfl) ?_))
  refine (fput_yes m.ts m.tn _ HT.out).mono ?_
  rintro e wT ⟨gT, hggT, rfl, ngT, hwT⟩
  replace K1 := Lib.hid ((K1.out).keptB hwT)
  replace HO := Lib.hid (own_below HO.out hwT)
  replace HS := Lib.hid (Nat.le_trans HS.out (hwT).size)
  replace HB := Lib.hid (bstep HB.out hwT)
  have KY := Lib.hid ngT
  clear ngT hggT hwT
  go_wp2_with (first | (refine big_whole rfl 49 _ rfl gK1 rfl K1.out Tryd.underlying49 rfl (by kernel_rfl) ?_) | (at_builtin; refine wpList_appendB rfl _ _ rfl B rfl HO.out ⟨gT, 0, none⟩ 10 10 (beL 6 m.ts ++ beL 4 m.tn) rfl (row_bytes KY.out) rfl (by omega) (by omega) HS.out 44 rfl ?_; intro g1 cap1 w1 hown1 hb1; replace HO := Lib.hid hown1; replace K1 := Lib.hid ((K1.out).kept hb1 TK1.out); replace HB := Lib.hid (bbelow HB.out hb1 HW.out); replace HS := Lib.hid (Nat.le_trans HS.out (hb1).size); clear hown1 hb1 KY; have x0 := (K1.out).reads (i := 0) (x := .int .i64 m.h.t) rfl))
  refine (announced_any m _ HP.out.1 HP.out.2.1 HP.out.2.2).mono ?_
  rintro e wP ⟨gP, capP, hggP, rfl, ngP, hwP⟩
  clear x0
  replace K1 := Lib.hid ((K1.out).keptB hwP)
  replace HO := Lib.hid (own_below HO.out hwP)
  replace HS := Lib.hid (Nat.le_trans HS.out (hwP).size)
  replace HB := Lib.hid (bstep HB.out hwP)
  have KY := Lib.hid ngP
  clear ngP hggP hwP
  go_wp2_with ((at_builtin; refine wpList_appendB rfl _ _ rfl B rfl HO.out ⟨gP, 0, none⟩ 20 capP (annL m) rfl (KY.out) rfl (by omega) (by omega) HS.out 64 rfl ?_; intro g2 cap2 w2 hown2 hb2; replace HO := Lib.hid hown2; replace K1 := Lib.hid ((K1.out).kept hb2 TK1.out); replace HB := Lib.hid (bbelow HB.out hb2 HW.out); replace HS := Lib.hid (Nat.le_trans HS.out (hb2).size); clear hown2 hb2 KY))
  go_ret2
  refine ⟨g2, cap2, Nat.le_trans HW.out (own_at HO.out), ?_, ?_, HB.out⟩
  · rw [HN.out]
    rfl
  · rw [HN.out, ← HE.out]
    exact own_base HO.out HW.out
set_option maxHeartbeats 4000000 in
theorem encM_yes0 (m : Ms) (w : World) (hl : Lens w) (f0 : -9223372036854775808 ≤ m.h.f) (f1 : m.h.f ≤ 9223372036854775807) (hr : m.right = true) (h9 : ¬ m.h.t = 9) (h11 : ¬ m.h.t = 11) :
    Calls Tryd.prog 9 #[.agg (msA m)] w (EncYes (encM m) w) := by
  have HB := Lib.hid (Below.refl w.heap.size w)
  have LN := Lib.hid hl
  clear hl
  obtain ⟨h1, h2, h3, h4⟩ := Ms.right_iff.1 hr
  have HH := Lib.hid h1
  have HT := Lib.hid h2
  have d9 : (m.h.t == 9) = false := by simp [h9]
  have d11 : (m.h.t == 11) = false := by simp [h11]
  have HE := Lib.hid (show encL m.h ++ (beL 6 m.ts ++ beL 4 m.tn) = encM m by unfold encM tailL; rw [if_neg h9, if_neg h11, List.append_nil])
  have HN := Lib.hid (show (encM m).length = 44 by rw [← HE.out, List.length_append, encL_length]; rfl)
  have HR := Lib.hid hr
  clear hr h1 h2 h3 h4 h9 h11
  go_enter Tryd.func9, Tryd.ntmps9
  go_wp2_with (first | (refine big_whole rfl 49 _ rfl gK1 rfl K1.out Tryd.underlying49 rfl (by kernel_rfl) ?_) | (refine big_box rfl 49 _ rfl (msA m) rfl (by kernel_rfl) ?_; intro gK1 wK1 hlK1 nK1 hbK1; have K1 := Lib.hid nK1; have LK1 := Lib.hid (Nat.le_trans (HB.out).size hlK1); replace LN := Lib.hid ((LN.out).keptB hbK1); replace HB := Lib.hid (bstep HB.out hbK1); clear hlK1 nK1 hbK1))
  refine (fright_any m _ LN.out f0 f1).mono ?_
  rintro e w1 ⟨rfl, hw1⟩
  rw [HR.out]
  replace HB := Lib.hid (bstep HB.out hw1)
  replace LN := Lib.hid ((LN.out).keptB hw1)
  replace K1 := Lib.hid ((K1.out).keptB hw1)
  clear hw1
  go_wp2_with ((refine big_load rfl 28 _ rfl gK1 0 rfl K1.out [.int .i64 m.h.t, .int .i64 m.h.d, .int .i64 m.h.f, .int .i64 m.h.c, .int .u8 m.h.p.c.b0, .int .u8 m.h.p.c.b1, .int .u8 m.h.p.c.b2, .int .u8 m.h.p.c.b3, .int .u8 m.h.p.c.b4, .int .u8 m.h.p.c.b5, .int .u8 m.h.p.c.b6, .int .u8 m.h.p.c.b7, .int .i64 m.h.p.n, .int .i64 m.h.s, .int .i64 m.h.l] rfl Tryd.underlying28 rfl (by kernel_rfl) ?_))
  obtain ⟨B, hB⟩ := size_of K1.out
  have TK1 := Lib.hid (show gK1 < B from by rw [← hB]; exact (K1.out).inside)
  have HW := Lib.hid (show w.heap.size ≤ B by rw [← hB]; exact (HB.out).size)
  have HS0 := Lib.hid (Nat.le_of_eq hB.symm)
  refine (encode_yes m.h _ LN.out HH.out).mono ?_
  rintro e wA ⟨gA, hggA, rfl, ngA, hwA⟩
  clear LN
  replace K1 := Lib.hid ((K1.out).keptB hwA)
  replace HB := Lib.hid (bstep HB.out hwA)
  have HS := Lib.hid (Nat.le_trans HS0.out (hwA).size)
  have HO := Lib.hid (own_row ngA (base := B) (by omega) (n := 34) (encL_length _) (by omega))
  clear ngA hggA hwA hB HS0
  go_wp2_with ((refine big_load rfl 47 _ rfl gK1 15 rfl K1.out [.int .i64 m.ts, .int .i64 m.tn] rfl Tryd.underlying47 rfl (by kernel_rfl) ?_))
  refine (fput_yes m.ts m.tn _ HT.out).mono ?_
  rintro e wT ⟨gT, hggT, rfl, ngT, hwT⟩
  replace K1 := Lib.hid ((K1.out).keptB hwT)
  replace HO := Lib.hid (own_below HO.out hwT)
  replace HS := Lib.hid (Nat.le_trans HS.out (hwT).size)
  replace HB := Lib.hid (bstep HB.out hwT)
  have KY := Lib.hid ngT
  clear ngT hggT hwT
  go_wp2_with ((at_builtin; refine wpList_appendB rfl _ _ rfl B rfl HO.out ⟨gT, 0, none⟩ 10 10 (beL 6 m.ts ++ beL 4 m.tn) rfl (row_bytes KY.out) rfl (by omega) (by omega) HS.out 44 rfl ?_; intro g1 cap1 w1 hown1 hb1; replace HO := Lib.hid hown1; replace K1 := Lib.hid ((K1.out).kept hb1 TK1.out); replace HB := Lib.hid (bbelow HB.out hb1 HW.out); replace HS := Lib.hid (Nat.le_trans HS.out (hb1).size); clear hown1 hb1 KY; have x0 := (K1.out).reads (i := 0) (x := .int .i64 m.h.t) rfl))
  go_ret2
  refine ⟨g1, cap1, Nat.le_trans HW.out (own_at HO.out), ?_, ?_, HB.out⟩
  · rw [HN.out]
    rfl
  · rw [HN.out, ← HE.out]
    exact own_base HO.out HW.out
theorem encM_yes (m : Ms) (w : World) (hl : Lens w) (f0 : -9223372036854775808 ≤ m.h.f) (f1 : m.h.f ≤ 9223372036854775807) (hr : m.right = true) : Calls Tryd.prog 9 #[.agg (msA m)] w (EncYes (encM m) w) := by
  by_cases h9 : m.h.t = 9
  · exact encM_yes9 m w hl f0 f1 hr h9
  · by_cases h11 : m.h.t = 11
    · exact encM_yes11 m w hl f0 f1 hr h9 h11
    · exact encM_yes0 m w hl f0 f1 hr h9 h11

end Go.Proofs.YtifhjmhekapaoaaDoor
