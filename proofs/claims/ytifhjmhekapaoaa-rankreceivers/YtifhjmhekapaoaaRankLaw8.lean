/- The walk over RankReceivers. -/
import Derived.Test.YtifhjmhekapaoaaRankAlive
namespace Go.Proofs.Ytifhjmhekapaoaa
set_option maxRecDepth 100000
open Go.RowKit
set_option linter.unusedVariables false

/-- a set as another one hears it -/
def hearR (a : Rs) (n : Int) (s r : Pt) : Rs := ⟨a.p1, a.p2, a.q1, a.q2, a.q3, a.gr, n, s, r⟩
set_option maxHeartbeats 4000000 in
theorem receivers7_same (a b : Rs) (p q : Pt) (w : World) (hg : eqC a.gr b.gr = true) :
    Calls Try.prog 10 #[.agg (rsA a), .agg (rsA b), .agg #[.int .u8 p.c.b0, .int .u8 p.c.b1, .int .u8 p.c.b2, .int .u8 p.c.b3, .int .u8 p.c.b4, .int .u8 p.c.b5, .int .u8 p.c.b6, .int .u8 p.c.b7, .int .i64 p.n, .int .u8 q.c.b0, .int .u8 q.c.b1, .int .u8 q.c.b2, .int .u8 q.c.b3, .int .u8 q.c.b4, .int .u8 q.c.b5, .int .u8 q.c.b6, .int .u8 q.c.b7, .int .i64 q.n]] w fun e w' => e = .returned (.bool true) ∧ Below w.heap.size w w' := by
  have HB := Lib.hid (Below.refl w.heap.size w)
  have HG := Lib.hid hg
  clear hg
  go_enter Try.func10, Try.ntmps10
  go_wp2_with (first | (refine big_cmp rfl .eql 25 _ _ _ rfl (#[.int .u8 a.gr.b0, .int .u8 a.gr.b1, .int .u8 a.gr.b2, .int .u8 a.gr.b3, .int .u8 a.gr.b4, .int .u8 a.gr.b5, .int .u8 a.gr.b6, .int .u8 a.gr.b7]) (#[.int .u8 b.gr.b0, .int .u8 b.gr.b1, .int .u8 b.gr.b2, .int .u8 b.gr.b3, .int .u8 b.gr.b4, .int .u8 b.gr.b5, .int .u8 b.gr.b6, .int .u8 b.gr.b7]) rfl rfl (by kernel_rfl) true (fun v => (eql_clock a.gr b.gr v).trans (by rw [HG.out])) ?_) | (refine big_load rfl 25 _ rfl gK2 5 rfl K2.out [.int .u8 b.gr.b0, .int .u8 b.gr.b1, .int .u8 b.gr.b2, .int .u8 b.gr.b3, .int .u8 b.gr.b4, .int .u8 b.gr.b5, .int .u8 b.gr.b6, .int .u8 b.gr.b7] rfl Try.underlying25 rfl (by kernel_rfl) ?_) | (refine big_load rfl 25 _ rfl gK1 5 rfl K1.out [.int .u8 a.gr.b0, .int .u8 a.gr.b1, .int .u8 a.gr.b2, .int .u8 a.gr.b3, .int .u8 a.gr.b4, .int .u8 a.gr.b5, .int .u8 a.gr.b6, .int .u8 a.gr.b7] rfl Try.underlying25 rfl (by kernel_rfl) ?_) | (refine big_box rfl 40 _ rfl (#[.int .u8 p.c.b0, .int .u8 p.c.b1, .int .u8 p.c.b2, .int .u8 p.c.b3, .int .u8 p.c.b4, .int .u8 p.c.b5, .int .u8 p.c.b6, .int .u8 p.c.b7, .int .i64 p.n, .int .u8 q.c.b0, .int .u8 q.c.b1, .int .u8 q.c.b2, .int .u8 q.c.b3, .int .u8 q.c.b4, .int .u8 q.c.b5, .int .u8 q.c.b6, .int .u8 q.c.b7, .int .i64 q.n]) rfl (by kernel_rfl) ?_; intro gK3 wK3 hlK3 nK3 hbK3; have K3 := Lib.hid nK3; have LK3 := Lib.hid (Nat.le_trans (HB.out).size hlK3); have NK1K3 := Lib.hid (show gK1 ≠ gK3 by have := (K1.out).inside; omega); replace K1 := Lib.hid ((K1.out).keptB hbK3); have NK2K3 := Lib.hid (show gK2 ≠ gK3 by have := (K2.out).inside; omega); replace K2 := Lib.hid ((K2.out).keptB hbK3); replace HB := Lib.hid (bstep HB.out hbK3); clear hlK3 nK3 hbK3) | (refine big_box rfl 29 _ rfl (rsA b) rfl (by kernel_rfl) ?_; intro gK2 wK2 hlK2 nK2 hbK2; have K2 := Lib.hid nK2; have LK2 := Lib.hid (Nat.le_trans (HB.out).size hlK2); have NK1K2 := Lib.hid (show gK1 ≠ gK2 by have := (K1.out).inside; omega); replace K1 := Lib.hid ((K1.out).keptB hbK2); replace HB := Lib.hid (bstep HB.out hbK2); clear hlK2 nK2 hbK2) | (refine big_box rfl 29 _ rfl (rsA a) rfl (by kernel_rfl) ?_; intro gK1 wK1 hlK1 nK1 hbK1; have K1 := Lib.hid nK1; have LK1 := Lib.hid (Nat.le_trans (HB.out).size hlK1); replace HB := Lib.hid (bstep HB.out hbK1); clear hlK1 nK1 hbK1))
  refine (alive7_any _).mono ?_
  rintro e wz ⟨rfl, hz⟩
  replace HB := Lib.hid (bstep HB.out hz)
  clear hz
  go_wp2
  go_ret
  exact ⟨rfl, HB.out⟩
set_option maxHeartbeats 4000000 in
theorem receivers7_main (a b : Rs) (p q : Pt) (w : World) (ha : a.ok) (hb : b.ok) (hp : p.c.ok) (hq : q.c.ok) (hg : eqC a.gr b.gr = false) :
    Calls Try.prog 10 #[.agg (rsA a), .agg (rsA b), .agg #[.int .u8 p.c.b0, .int .u8 p.c.b1, .int .u8 p.c.b2, .int .u8 p.c.b3, .int .u8 p.c.b4, .int .u8 p.c.b5, .int .u8 p.c.b6, .int .u8 p.c.b7, .int .i64 p.n, .int .u8 q.c.b0, .int .u8 q.c.b1, .int .u8 q.c.b2, .int .u8 q.c.b3, .int .u8 q.c.b4, .int .u8 q.c.b5, .int .u8 q.c.b6, .int .u8 q.c.b7, .int .i64 q.n]] w fun e w' => e = .returned (.bool true) ∧ Below w.heap.size w w' := by
  have HB := Lib.hid (Below.refl w.heap.size w)
  have HG := Lib.hid hg
  have OA := Lib.hid ha
  have OB := Lib.hid hb
  have OC : Hid ((hearR a b.st q p).ok) := ⟨ha.g, hq, hp, hb.lo, hb.hi⟩
  have OD : Hid ((hearR b a.st p q).ok) := ⟨hb.g, hp, hq, ha.lo, ha.hi⟩
  obtain ⟨n, HN⟩ : ∃ n, Hid (compN a b = n) := ⟨_, Lib.hid rfl⟩
  have HM : Hid (compN (hearR a b.st q p) (hearR b a.st p q) = n) := by rw [Hid, ← HN.out]; exact compN_other (a := a) (b := b) hg rfl rfl
  clear hg ha hb hp hq
  go_enter Try.func10, Try.ntmps10
  go_wp2_with (first | (refine big_cmp rfl .eql 25 _ _ _ rfl (#[.int .u8 a.gr.b0, .int .u8 a.gr.b1, .int .u8 a.gr.b2, .int .u8 a.gr.b3, .int .u8 a.gr.b4, .int .u8 a.gr.b5, .int .u8 a.gr.b6, .int .u8 a.gr.b7]) (#[.int .u8 b.gr.b0, .int .u8 b.gr.b1, .int .u8 b.gr.b2, .int .u8 b.gr.b3, .int .u8 b.gr.b4, .int .u8 b.gr.b5, .int .u8 b.gr.b6, .int .u8 b.gr.b7]) rfl rfl (by kernel_rfl) false (fun v => (eql_clock a.gr b.gr v).trans (by rw [HG.out])) ?_) | (refine big_load rfl 25 _ rfl gK2 5 rfl K2.out [.int .u8 b.gr.b0, .int .u8 b.gr.b1, .int .u8 b.gr.b2, .int .u8 b.gr.b3, .int .u8 b.gr.b4, .int .u8 b.gr.b5, .int .u8 b.gr.b6, .int .u8 b.gr.b7] rfl Try.underlying25 rfl (by kernel_rfl) ?_) | (refine big_load rfl 25 _ rfl gK1 5 rfl K1.out [.int .u8 a.gr.b0, .int .u8 a.gr.b1, .int .u8 a.gr.b2, .int .u8 a.gr.b3, .int .u8 a.gr.b4, .int .u8 a.gr.b5, .int .u8 a.gr.b6, .int .u8 a.gr.b7] rfl Try.underlying25 rfl (by kernel_rfl) ?_) | (refine big_box rfl 40 _ rfl (#[.int .u8 p.c.b0, .int .u8 p.c.b1, .int .u8 p.c.b2, .int .u8 p.c.b3, .int .u8 p.c.b4, .int .u8 p.c.b5, .int .u8 p.c.b6, .int .u8 p.c.b7, .int .i64 p.n, .int .u8 q.c.b0, .int .u8 q.c.b1, .int .u8 q.c.b2, .int .u8 q.c.b3, .int .u8 q.c.b4, .int .u8 q.c.b5, .int .u8 q.c.b6, .int .u8 q.c.b7, .int .i64 q.n]) rfl (by kernel_rfl) ?_; intro gK3 wK3 hlK3 nK3 hbK3; have K3 := Lib.hid nK3; have LK3 := Lib.hid (Nat.le_trans (HB.out).size hlK3); have NK1K3 := Lib.hid (show gK1 ≠ gK3 by have := (K1.out).inside; omega); replace K1 := Lib.hid ((K1.out).keptB hbK3); have NK2K3 := Lib.hid (show gK2 ≠ gK3 by have := (K2.out).inside; omega); replace K2 := Lib.hid ((K2.out).keptB hbK3); replace HB := Lib.hid (bstep HB.out hbK3); clear hlK3 nK3 hbK3) | (refine big_box rfl 29 _ rfl (rsA b) rfl (by kernel_rfl) ?_; intro gK2 wK2 hlK2 nK2 hbK2; have K2 := Lib.hid nK2; have LK2 := Lib.hid (Nat.le_trans (HB.out).size hlK2); have NK1K2 := Lib.hid (show gK1 ≠ gK2 by have := (K1.out).inside; omega); replace K1 := Lib.hid ((K1.out).keptB hbK2); replace HB := Lib.hid (bstep HB.out hbK2); clear hlK2 nK2 hbK2) | (refine big_box rfl 29 _ rfl (rsA a) rfl (by kernel_rfl) ?_; intro gK1 wK1 hlK1 nK1 hbK1; have K1 := Lib.hid nK1; have LK1 := Lib.hid (Nat.le_trans (HB.out).size hlK1); replace HB := Lib.hid (bstep HB.out hbK1); clear hlK1 nK1 hbK1))
  refine wp_region_held_drew (S := fun v => Below w.heap.size w v ∧ Holds v gK1 29 (rsA a) ∧ Holds v gK2 29 (rsA b) ∧ Holds v gK3 40 #[.int .u8 p.c.b0, .int .u8 p.c.b1, .int .u8 p.c.b2, .int .u8 p.c.b3, .int .u8 p.c.b4, .int .u8 p.c.b5, .int .u8 p.c.b6, .int .u8 p.c.b7, .int .i64 p.n, .int .u8 q.c.b0, .int .u8 q.c.b1, .int .u8 q.c.b2, .int .u8 q.c.b3, .int .u8 q.c.b4, .int .u8 q.c.b5, .int .u8 q.c.b6, .int .u8 q.c.b7, .int .i64 q.n]) (by kernel_rfl) ?_ (fun hHeld => ?_)
  · exact ⟨bdrew HB.out, (K1.out).drew, (K2.out).drew, (K3.out).drew⟩
  clear HB K1 K2 K3
  refine wpAnyH_take (i := 0) (v := .agg (rsA a)) (at_list rfl) (by kernel_rfl) (by kernel_rfl) (by kernel_rfl) (fun _ _ _ h => h) (yields_whole (by rfl) 29 _ rfl gK1 rfl (fun v hv => hv.2.1) Try.underlying29 rfl (by kernel_rfl)) hHeld ?_
  try simp only [Act.put, List.setIfInBounds_toArray, List.set_cons_zero, List.set_cons_succ]
  refine wpAnyH_take (i := 1) (v := .agg (rsA b)) (at_list rfl) (by kernel_rfl) (by kernel_rfl) (by kernel_rfl) (fun _ _ _ h => h) (yields_whole (by rfl) 29 _ rfl gK2 rfl (fun v hv => hv.2.2.1) Try.underlying29 rfl (by kernel_rfl)) hHeld ?_
  try simp only [Act.put, List.setIfInBounds_toArray, List.set_cons_zero, List.set_cons_succ]
  refine wpAnyH_ready (rs := [2, 3]) (by kernel_rfl) (by simp) ?_
  refine AllReadyH.cons (at_list rfl) (fun K hK => ?_) (AllReadyH.cons (at_list rfl) (fun K hK => ?_) AllReadyH.nil)
  · refine step_alloc (by rfl) 29 rfl (rsA zeroR) (by kernel_rfl) ?_
    intro gK4 y1 hlK4 nK4 hy1
    have K4 := Lib.hid nK4
    have LK4 := Lib.hid (show w.heap.size ≤ gK4 from Nat.le_trans hHeld.1.size hlK4)
    have NK1K4 := Lib.hid (show gK1 ≠ gK4 by have := hHeld.2.1.inside; omega)
    have NK2K4 := Lib.hid (show gK2 ≠ gK4 by have := hHeld.2.2.1.inside; omega)
    have NK3K4 := Lib.hid (show gK3 ≠ gK4 by have := hHeld.2.2.2.inside; omega)
    refine hK.out _ _ ?_ (fun hHeld2 => ?_)
    · exact ⟨bstep hHeld.1 hy1, hHeld.2.1.keptB hy1, hHeld.2.2.1.keptB hy1, hHeld.2.2.2.keptB hy1⟩
    clear hK K hHeld
    have hHeld := hHeld2
    clear hHeld2
    try simp only [Act.put]
    try simp only [List.setIfInBounds_toArray, List.set_cons_zero, List.set_cons_succ]
    clear hlK4 nK4 hy1
    refine wpAnyH_ready (rs := [3]) (by kernel_rfl) (by simp) ?_
    refine AllReadyH.cons (at_list rfl) (fun K hK => ?_) AllReadyH.nil
    refine step_alloc (by rfl) 29 rfl (rsA zeroR) (by kernel_rfl) ?_
    intro gK5 y2 hlK5 nK5 hy2
    have K5 := Lib.hid nK5
    have LK5 := Lib.hid (show w.heap.size ≤ gK5 from Nat.le_trans hHeld.1.size hlK5)
    have NK1K5 := Lib.hid (show gK1 ≠ gK5 by have := hHeld.2.1.inside; omega)
    have NK2K5 := Lib.hid (show gK2 ≠ gK5 by have := hHeld.2.2.1.inside; omega)
    have NK3K5 := Lib.hid (show gK3 ≠ gK5 by have := hHeld.2.2.2.inside; omega)
    have NK4K5 := Lib.hid (show gK4 ≠ gK5 by have := (K4.out).inside; omega)
    have NK5K4 := Lib.hid (show gK5 ≠ gK4 by have := NK4K5.out; omega)
    replace K4 := Lib.hid ((K4.out).keptB hy2)
    refine hK.out _ _ ?_ (fun hHeld2 => ?_)
    · exact ⟨bstep hHeld.1 hy2, hHeld.2.1.keptB hy2, hHeld.2.2.1.keptB hy2, hHeld.2.2.2.keptB hy2⟩
    clear hK K hHeld
    have hHeld := hHeld2
    clear hHeld2
    try simp only [Act.put]
    try simp only [List.setIfInBounds_toArray, List.set_cons_zero, List.set_cons_succ]
    clear hlK5 nK5 hy2
    refine wpAnyH_ready (rs := [4]) (by kernel_rfl) (by simp) ?_
    refine AllReadyH.cons (at_list rfl) (fun K hK => ?_) AllReadyH.nil
    refine step_store (by rfl) 29 _ _ rfl gK4 0 (rsA a).toList rfl rfl K4.out (by kernel_rfl) (by kernel_rfl) (of_decide_eq_true (by kernel_rfl)) (rsA a) (by kernel_rfl) ?_
    intro y3 nK4 hy3
    replace K4 := Lib.hid nK4
    replace K5 := Lib.hid ((K5.out).touch hy3 NK5K4.out)
    refine hK.out _ _ ?_ (fun hHeld2 => ?_)
    · exact ⟨btouch hHeld.1 hy3 LK4.out, hHeld.2.1.touch hy3 NK1K4.out, hHeld.2.2.1.touch hy3 NK2K4.out, hHeld.2.2.2.touch hy3 NK3K4.out⟩
    clear hK K hHeld
    have hHeld := hHeld2
    clear hHeld2
    try simp only [Act.put]
    try simp only [Act.put, List.setIfInBounds_toArray, List.set_cons_zero, List.set_cons_succ]
    clear nK4 hy3
    refine wpAnyH_ready (rs := [5]) (by kernel_rfl) (by simp) ?_
    refine AllReadyH.cons (at_list rfl) (fun K hK => ?_) AllReadyH.nil
    refine step_store (by rfl) 29 _ _ rfl gK5 0 (rsA b).toList rfl rfl K5.out (by kernel_rfl) (by kernel_rfl) (of_decide_eq_true (by kernel_rfl)) (rsA b) (by kernel_rfl) ?_
    intro y4 nK5 hy4
    replace K5 := Lib.hid nK5
    replace K4 := Lib.hid ((K4.out).touch hy4 NK4K5.out)
    refine hK.out _ _ ?_ (fun hHeld2 => ?_)
    · exact ⟨btouch hHeld.1 hy4 LK5.out, hHeld.2.1.touch hy4 NK1K5.out, hHeld.2.2.1.touch hy4 NK2K5.out, hHeld.2.2.2.touch hy4 NK3K5.out⟩
    clear hK K hHeld
    have hHeld := hHeld2
    clear hHeld2
    try simp only [Act.put]
    try simp only [Act.put, List.setIfInBounds_toArray, List.set_cons_zero, List.set_cons_succ]
    clear nK5 hy4
    refine wpAnyH_done (by kernel_rfl) ?_ _
    have HB := Lib.hid hHeld.1
    have K1 := Lib.hid hHeld.2.1
    have K2 := Lib.hid hHeld.2.2.1
    have K3 := Lib.hid hHeld.2.2.2
    clear hHeld
    go_wp2_with fail
    replace K4 := Lib.hid ((K4.out).drew)
    replace K5 := Lib.hid ((K5.out).drew)
    refine wp_region_noPanic ?_
    refine wp_region_held_drew (S := fun v => Below w.heap.size w v ∧ Holds v gK1 29 (rsA a) ∧ Holds v gK2 29 (rsA b) ∧ Holds v gK3 40 #[.int .u8 p.c.b0, .int .u8 p.c.b1, .int .u8 p.c.b2, .int .u8 p.c.b3, .int .u8 p.c.b4, .int .u8 p.c.b5, .int .u8 p.c.b6, .int .u8 p.c.b7, .int .i64 p.n, .int .u8 q.c.b0, .int .u8 q.c.b1, .int .u8 q.c.b2, .int .u8 q.c.b3, .int .u8 q.c.b4, .int .u8 q.c.b5, .int .u8 q.c.b6, .int .u8 q.c.b7, .int .i64 q.n]) (by kernel_rfl) ?_ (fun hHeld => ?_)
    · exact ⟨bdrew HB.out, (K1.out).drew, (K2.out).drew, (K3.out).drew⟩
    clear HB K1 K2 K3
    refine wpAnyH_take (i := 0) (v := .pointer (some ⟨gK3, 0, none⟩)) (at_list rfl) (by kernel_rfl) (by kernel_rfl) (by kernel_rfl) (fun _ _ _ h => h) (Or.inl ⟨by rfl, ?_⟩) hHeld ?_
    · intro v hSv
      clear hHeld
      go_simp
    try simp only [Act.put, List.setIfInBounds_toArray, List.set_cons_zero, List.set_cons_succ]
    refine wpAnyH_take (i := 1) (v := .agg #[.int .u8 p.c.b0, .int .u8 p.c.b1, .int .u8 p.c.b2, .int .u8 p.c.b3, .int .u8 p.c.b4, .int .u8 p.c.b5, .int .u8 p.c.b6, .int .u8 p.c.b7, .int .i64 p.n]) (at_list rfl) (by kernel_rfl) (by kernel_rfl) (by kernel_rfl) (fun _ _ _ h => h) (yieldsIf_load_mid (by rfl) 27 _ rfl gK3 0 rfl [.int .u8 p.c.b0, .int .u8 p.c.b1, .int .u8 p.c.b2, .int .u8 p.c.b3, .int .u8 p.c.b4, .int .u8 p.c.b5, .int .u8 p.c.b6, .int .u8 p.c.b7, .int .i64 p.n] _ (fun v hv => Holds.range hv.2.2.2 rfl) Try.underlying27 rfl (by kernel_rfl)) hHeld ?_
    try simp only [Act.put, List.setIfInBounds_toArray, List.set_cons_zero, List.set_cons_succ]
    refine wpAnyH_take (i := 2) (v := .pointer (some ⟨gK3, 9, none⟩)) (at_list rfl) (by kernel_rfl) (by kernel_rfl) (by kernel_rfl) (fun _ _ _ h => h) (Or.inl ⟨by rfl, ?_⟩) hHeld ?_
    · intro v hSv
      clear hHeld
      go_simp
    try simp only [Act.put, List.setIfInBounds_toArray, List.set_cons_zero, List.set_cons_succ]
    refine wpAnyH_take (i := 3) (v := .agg #[.int .u8 q.c.b0, .int .u8 q.c.b1, .int .u8 q.c.b2, .int .u8 q.c.b3, .int .u8 q.c.b4, .int .u8 q.c.b5, .int .u8 q.c.b6, .int .u8 q.c.b7, .int .i64 q.n]) (at_list rfl) (by kernel_rfl) (by kernel_rfl) (by kernel_rfl) (fun _ _ _ h => h) (yieldsIf_load_mid (by rfl) 27 _ rfl gK3 9 rfl [.int .u8 q.c.b0, .int .u8 q.c.b1, .int .u8 q.c.b2, .int .u8 q.c.b3, .int .u8 q.c.b4, .int .u8 q.c.b5, .int .u8 q.c.b6, .int .u8 q.c.b7, .int .i64 q.n] _ (fun v hv => Holds.range hv.2.2.2 rfl) Try.underlying27 rfl (by kernel_rfl)) hHeld ?_
    try simp only [Act.put, List.setIfInBounds_toArray, List.set_cons_zero, List.set_cons_succ]
    refine wpAnyH_take (i := 4) (v := .pointer (some ⟨gK2, 13, none⟩)) (at_list rfl) (by kernel_rfl) (by kernel_rfl) (by kernel_rfl) (fun _ _ _ h => h) (Or.inl ⟨by rfl, ?_⟩) hHeld ?_
    · intro v hSv
      clear hHeld
      go_simp
    try simp only [Act.put, List.setIfInBounds_toArray, List.set_cons_zero, List.set_cons_succ]
    refine wpAnyH_take (i := 5) (v := .int .i64 b.st) (at_list rfl) (by kernel_rfl) (by kernel_rfl) (by kernel_rfl) (fun _ _ _ h => h) (Or.inl ⟨by rfl, ?_⟩) hHeld ?_
    · intro v hSv
      clear hHeld
      have q_ := Holds.reads hSv.2.2.1 (i := 13) (x := .int .i64 b.st) rfl
      clear hSv
      go_simp
    try simp only [Act.put, List.setIfInBounds_toArray, List.set_cons_zero, List.set_cons_succ]
    refine wpAnyH_take (i := 6) (v := .pointer (some ⟨gK4, 23, none⟩)) (at_list rfl) (by kernel_rfl) (by kernel_rfl) (by kernel_rfl) (fun _ _ _ h => h) (Or.inl ⟨by rfl, ?_⟩) hHeld ?_
    · intro v hSv
      clear hHeld
      go_simp
    try simp only [Act.put, List.setIfInBounds_toArray, List.set_cons_zero, List.set_cons_succ]
    refine wpAnyH_ready (rs := [7]) (by kernel_rfl) (by simp) ?_
    refine AllReadyH.cons (at_list rfl) (fun K hK => ?_) AllReadyH.nil
    refine step_store (by rfl) 27 _ _ rfl gK4 23 [.int .u8 p.c.b0, .int .u8 p.c.b1, .int .u8 p.c.b2, .int .u8 p.c.b3, .int .u8 p.c.b4, .int .u8 p.c.b5, .int .u8 p.c.b6, .int .u8 p.c.b7, .int .i64 p.n] rfl rfl K4.out (by kernel_rfl) (by kernel_rfl) (of_decide_eq_true (by kernel_rfl)) (rsA (hearR a a.st a.sn p)) (by kernel_rfl) ?_
    intro y5 nK4 hy5
    replace K4 := Lib.hid nK4
    replace K5 := Lib.hid ((K5.out).touch hy5 NK5K4.out)
    refine hK.out _ _ ?_ (fun hHeld2 => ?_)
    · exact ⟨btouch hHeld.1 hy5 LK4.out, hHeld.2.1.touch hy5 NK1K4.out, hHeld.2.2.1.touch hy5 NK2K4.out, hHeld.2.2.2.touch hy5 NK3K4.out⟩
    clear hK K hHeld
    have hHeld := hHeld2
    clear hHeld2
    try simp only [Act.put]
    try simp only [Act.put, List.setIfInBounds_toArray, List.set_cons_zero, List.set_cons_succ]
    clear nK4 hy5
    refine wpAnyH_take (i := 8) (v := .pointer (some ⟨gK4, 14, none⟩)) (at_list rfl) (by kernel_rfl) (by kernel_rfl) (by kernel_rfl) (fun _ _ _ h => h) (Or.inl ⟨by rfl, ?_⟩) hHeld ?_
    · intro v hSv
      clear hHeld
      go_simp
    try simp only [Act.put, List.setIfInBounds_toArray, List.set_cons_zero, List.set_cons_succ]
    refine wpAnyH_ready (rs := [9]) (by kernel_rfl) (by simp) ?_
    refine AllReadyH.cons (at_list rfl) (fun K hK => ?_) AllReadyH.nil
    refine step_store (by rfl) 27 _ _ rfl gK4 14 [.int .u8 q.c.b0, .int .u8 q.c.b1, .int .u8 q.c.b2, .int .u8 q.c.b3, .int .u8 q.c.b4, .int .u8 q.c.b5, .int .u8 q.c.b6, .int .u8 q.c.b7, .int .i64 q.n] rfl rfl K4.out (by kernel_rfl) (by kernel_rfl) (of_decide_eq_true (by kernel_rfl)) (rsA (hearR a a.st q p)) (by kernel_rfl) ?_
    intro y6 nK4 hy6
    replace K4 := Lib.hid nK4
    replace K5 := Lib.hid ((K5.out).touch hy6 NK5K4.out)
    refine hK.out _ _ ?_ (fun hHeld2 => ?_)
    · exact ⟨btouch hHeld.1 hy6 LK4.out, hHeld.2.1.touch hy6 NK1K4.out, hHeld.2.2.1.touch hy6 NK2K4.out, hHeld.2.2.2.touch hy6 NK3K4.out⟩
    clear hK K hHeld
    have hHeld := hHeld2
    clear hHeld2
    try simp only [Act.put]
    try simp only [Act.put, List.setIfInBounds_toArray, List.set_cons_zero, List.set_cons_succ]
    clear nK4 hy6
    refine wpAnyH_take (i := 10) (v := .pointer (some ⟨gK4, 13, none⟩)) (at_list rfl) (by kernel_rfl) (by kernel_rfl) (by kernel_rfl) (fun _ _ _ h => h) (Or.inl ⟨by rfl, ?_⟩) hHeld ?_
    · intro v hSv
      clear hHeld
      go_simp
    try simp only [Act.put, List.setIfInBounds_toArray, List.set_cons_zero, List.set_cons_succ]
    refine wpAnyH_ready (rs := [11]) (by kernel_rfl) (by simp) ?_
    refine AllReadyH.cons (at_list rfl) (fun K hK => ?_) AllReadyH.nil
    refine step_set (by rfl) 3 _ _ rfl gK4 13 (.int .i64 b.st) rfl rfl K4.out (by kernel_rfl) rfl rfl (of_decide_eq_true (by kernel_rfl)) (rsA (hearR a b.st q p)) (by kernel_rfl) ?_
    intro y7 nK4 hy7
    replace K4 := Lib.hid nK4
    replace K5 := Lib.hid ((K5.out).touch hy7 NK5K4.out)
    refine hK.out _ _ ?_ (fun hHeld2 => ?_)
    · exact ⟨btouch hHeld.1 hy7 LK4.out, hHeld.2.1.touch hy7 NK1K4.out, hHeld.2.2.1.touch hy7 NK2K4.out, hHeld.2.2.2.touch hy7 NK3K4.out⟩
    clear hK K hHeld
    have hHeld := hHeld2
    clear hHeld2
    try simp only [Act.put]
    try simp only [Act.put, List.setIfInBounds_toArray, List.set_cons_zero, List.set_cons_succ]
    clear nK4 hy7
    refine wpAnyH_done (by kernel_rfl) ?_ _
    refine NoPanic.normal ?_
    have HB := Lib.hid hHeld.1
    have K1 := Lib.hid hHeld.2.1
    have K2 := Lib.hid hHeld.2.2.1
    have K3 := Lib.hid hHeld.2.2.2
    clear hHeld
    go_wp2_with fail
    replace K4 := Lib.hid ((K4.out).drew)
    replace K5 := Lib.hid ((K5.out).drew)
    refine wp_region_noPanic ?_
    refine wp_region_held_drew (S := fun v => Below w.heap.size w v ∧ Holds v gK1 29 (rsA a) ∧ Holds v gK2 29 (rsA b) ∧ Holds v gK3 40 #[.int .u8 p.c.b0, .int .u8 p.c.b1, .int .u8 p.c.b2, .int .u8 p.c.b3, .int .u8 p.c.b4, .int .u8 p.c.b5, .int .u8 p.c.b6, .int .u8 p.c.b7, .int .i64 p.n, .int .u8 q.c.b0, .int .u8 q.c.b1, .int .u8 q.c.b2, .int .u8 q.c.b3, .int .u8 q.c.b4, .int .u8 q.c.b5, .int .u8 q.c.b6, .int .u8 q.c.b7, .int .i64 q.n]) (by kernel_rfl) ?_ (fun hHeld => ?_)
    · exact ⟨bdrew HB.out, (K1.out).drew, (K2.out).drew, (K3.out).drew⟩
    clear HB K1 K2 K3
    refine wpAnyH_take (i := 0) (v := .pointer (some ⟨gK3, 9, none⟩)) (at_list rfl) (by kernel_rfl) (by kernel_rfl) (by kernel_rfl) (fun _ _ _ h => h) (Or.inl ⟨by rfl, ?_⟩) hHeld ?_
    · intro v hSv
      clear hHeld
      go_simp
    try simp only [Act.put, List.setIfInBounds_toArray, List.set_cons_zero, List.set_cons_succ]
    refine wpAnyH_take (i := 1) (v := .agg #[.int .u8 q.c.b0, .int .u8 q.c.b1, .int .u8 q.c.b2, .int .u8 q.c.b3, .int .u8 q.c.b4, .int .u8 q.c.b5, .int .u8 q.c.b6, .int .u8 q.c.b7, .int .i64 q.n]) (at_list rfl) (by kernel_rfl) (by kernel_rfl) (by kernel_rfl) (fun _ _ _ h => h) (yieldsIf_load_mid (by rfl) 27 _ rfl gK3 9 rfl [.int .u8 q.c.b0, .int .u8 q.c.b1, .int .u8 q.c.b2, .int .u8 q.c.b3, .int .u8 q.c.b4, .int .u8 q.c.b5, .int .u8 q.c.b6, .int .u8 q.c.b7, .int .i64 q.n] _ (fun v hv => Holds.range hv.2.2.2 rfl) Try.underlying27 rfl (by kernel_rfl)) hHeld ?_
    try simp only [Act.put, List.setIfInBounds_toArray, List.set_cons_zero, List.set_cons_succ]
    refine wpAnyH_take (i := 2) (v := .pointer (some ⟨gK3, 0, none⟩)) (at_list rfl) (by kernel_rfl) (by kernel_rfl) (by kernel_rfl) (fun _ _ _ h => h) (Or.inl ⟨by rfl, ?_⟩) hHeld ?_
    · intro v hSv
      clear hHeld
      go_simp
    try simp only [Act.put, List.setIfInBounds_toArray, List.set_cons_zero, List.set_cons_succ]
    refine wpAnyH_take (i := 3) (v := .agg #[.int .u8 p.c.b0, .int .u8 p.c.b1, .int .u8 p.c.b2, .int .u8 p.c.b3, .int .u8 p.c.b4, .int .u8 p.c.b5, .int .u8 p.c.b6, .int .u8 p.c.b7, .int .i64 p.n]) (at_list rfl) (by kernel_rfl) (by kernel_rfl) (by kernel_rfl) (fun _ _ _ h => h) (yieldsIf_load_mid (by rfl) 27 _ rfl gK3 0 rfl [.int .u8 p.c.b0, .int .u8 p.c.b1, .int .u8 p.c.b2, .int .u8 p.c.b3, .int .u8 p.c.b4, .int .u8 p.c.b5, .int .u8 p.c.b6, .int .u8 p.c.b7, .int .i64 p.n] _ (fun v hv => Holds.range hv.2.2.2 rfl) Try.underlying27 rfl (by kernel_rfl)) hHeld ?_
    try simp only [Act.put, List.setIfInBounds_toArray, List.set_cons_zero, List.set_cons_succ]
    refine wpAnyH_take (i := 4) (v := .pointer (some ⟨gK1, 13, none⟩)) (at_list rfl) (by kernel_rfl) (by kernel_rfl) (by kernel_rfl) (fun _ _ _ h => h) (Or.inl ⟨by rfl, ?_⟩) hHeld ?_
    · intro v hSv
      clear hHeld
      go_simp
    try simp only [Act.put, List.setIfInBounds_toArray, List.set_cons_zero, List.set_cons_succ]
    refine wpAnyH_take (i := 5) (v := .int .i64 a.st) (at_list rfl) (by kernel_rfl) (by kernel_rfl) (by kernel_rfl) (fun _ _ _ h => h) (Or.inl ⟨by rfl, ?_⟩) hHeld ?_
    · intro v hSv
      clear hHeld
      have q_ := Holds.reads hSv.2.1 (i := 13) (x := .int .i64 a.st) rfl
      clear hSv
      go_simp
    try simp only [Act.put, List.setIfInBounds_toArray, List.set_cons_zero, List.set_cons_succ]
    refine wpAnyH_take (i := 6) (v := .pointer (some ⟨gK5, 23, none⟩)) (at_list rfl) (by kernel_rfl) (by kernel_rfl) (by kernel_rfl) (fun _ _ _ h => h) (Or.inl ⟨by rfl, ?_⟩) hHeld ?_
    · intro v hSv
      clear hHeld
      go_simp
    try simp only [Act.put, List.setIfInBounds_toArray, List.set_cons_zero, List.set_cons_succ]
    refine wpAnyH_ready (rs := [7]) (by kernel_rfl) (by simp) ?_
    refine AllReadyH.cons (at_list rfl) (fun K hK => ?_) AllReadyH.nil
    refine step_store (by rfl) 27 _ _ rfl gK5 23 [.int .u8 q.c.b0, .int .u8 q.c.b1, .int .u8 q.c.b2, .int .u8 q.c.b3, .int .u8 q.c.b4, .int .u8 q.c.b5, .int .u8 q.c.b6, .int .u8 q.c.b7, .int .i64 q.n] rfl rfl K5.out (by kernel_rfl) (by kernel_rfl) (of_decide_eq_true (by kernel_rfl)) (rsA (hearR b b.st b.sn q)) (by kernel_rfl) ?_
    intro y8 nK5 hy8
    replace K5 := Lib.hid nK5
    replace K4 := Lib.hid ((K4.out).touch hy8 NK4K5.out)
    refine hK.out _ _ ?_ (fun hHeld2 => ?_)
    · exact ⟨btouch hHeld.1 hy8 LK5.out, hHeld.2.1.touch hy8 NK1K5.out, hHeld.2.2.1.touch hy8 NK2K5.out, hHeld.2.2.2.touch hy8 NK3K5.out⟩
    clear hK K hHeld
    have hHeld := hHeld2
    clear hHeld2
    try simp only [Act.put]
    try simp only [Act.put, List.setIfInBounds_toArray, List.set_cons_zero, List.set_cons_succ]
    clear nK5 hy8
    refine wpAnyH_take (i := 8) (v := .pointer (some ⟨gK5, 14, none⟩)) (at_list rfl) (by kernel_rfl) (by kernel_rfl) (by kernel_rfl) (fun _ _ _ h => h) (Or.inl ⟨by rfl, ?_⟩) hHeld ?_
    · intro v hSv
      clear hHeld
      go_simp
    try simp only [Act.put, List.setIfInBounds_toArray, List.set_cons_zero, List.set_cons_succ]
    refine wpAnyH_ready (rs := [9]) (by kernel_rfl) (by simp) ?_
    refine AllReadyH.cons (at_list rfl) (fun K hK => ?_) AllReadyH.nil
    refine step_store (by rfl) 27 _ _ rfl gK5 14 [.int .u8 p.c.b0, .int .u8 p.c.b1, .int .u8 p.c.b2, .int .u8 p.c.b3, .int .u8 p.c.b4, .int .u8 p.c.b5, .int .u8 p.c.b6, .int .u8 p.c.b7, .int .i64 p.n] rfl rfl K5.out (by kernel_rfl) (by kernel_rfl) (of_decide_eq_true (by kernel_rfl)) (rsA (hearR b b.st p q)) (by kernel_rfl) ?_
    intro y9 nK5 hy9
    replace K5 := Lib.hid nK5
    replace K4 := Lib.hid ((K4.out).touch hy9 NK4K5.out)
    refine hK.out _ _ ?_ (fun hHeld2 => ?_)
    · exact ⟨btouch hHeld.1 hy9 LK5.out, hHeld.2.1.touch hy9 NK1K5.out, hHeld.2.2.1.touch hy9 NK2K5.out, hHeld.2.2.2.touch hy9 NK3K5.out⟩
    clear hK K hHeld
    have hHeld := hHeld2
    clear hHeld2
    try simp only [Act.put]
    try simp only [Act.put, List.setIfInBounds_toArray, List.set_cons_zero, List.set_cons_succ]
    clear nK5 hy9
    refine wpAnyH_take (i := 10) (v := .pointer (some ⟨gK5, 13, none⟩)) (at_list rfl) (by kernel_rfl) (by kernel_rfl) (by kernel_rfl) (fun _ _ _ h => h) (Or.inl ⟨by rfl, ?_⟩) hHeld ?_
    · intro v hSv
      clear hHeld
      go_simp
    try simp only [Act.put, List.setIfInBounds_toArray, List.set_cons_zero, List.set_cons_succ]
    refine wpAnyH_ready (rs := [11]) (by kernel_rfl) (by simp) ?_
    refine AllReadyH.cons (at_list rfl) (fun K hK => ?_) AllReadyH.nil
    refine step_set (by rfl) 3 _ _ rfl gK5 13 (.int .i64 a.st) rfl rfl K5.out (by kernel_rfl) rfl rfl (of_decide_eq_true (by kernel_rfl)) (rsA (hearR b a.st p q)) (by kernel_rfl) ?_
    intro y10 nK5 hy10
    replace K5 := Lib.hid nK5
    replace K4 := Lib.hid ((K4.out).touch hy10 NK4K5.out)
    refine hK.out _ _ ?_ (fun hHeld2 => ?_)
    · exact ⟨btouch hHeld.1 hy10 LK5.out, hHeld.2.1.touch hy10 NK1K5.out, hHeld.2.2.1.touch hy10 NK2K5.out, hHeld.2.2.2.touch hy10 NK3K5.out⟩
    clear hK K hHeld
    have hHeld := hHeld2
    clear hHeld2
    try simp only [Act.put]
    try simp only [Act.put, List.setIfInBounds_toArray, List.set_cons_zero, List.set_cons_succ]
    clear nK5 hy10
    refine wpAnyH_done (by kernel_rfl) ?_ _
    refine NoPanic.normal ?_
    have HB := Lib.hid hHeld.1
    have K1 := Lib.hid hHeld.2.1
    have K2 := Lib.hid hHeld.2.2.1
    have K3 := Lib.hid hHeld.2.2.2
    clear hHeld
    go_wp2_with fail
    clear K3
    refine wp_region_held_drew (S := fun v => Below w.heap.size w v ∧ Holds v gK1 29 (rsA a) ∧ Holds v gK2 29 (rsA b) ∧ Holds v gK4 29 (rsA (hearR a b.st q p)) ∧ Holds v gK5 29 (rsA (hearR b a.st p q)) ∧ True) (by kernel_rfl) ?_ (fun hHeld => ?_)
    · exact ⟨bdrew HB.out, (K1.out).drew, (K2.out).drew, (K4.out).drew, (K5.out).drew, trivial⟩
    clear HB K1 K2 K4 K5
    refine wpAnyH_ready (rs := [0]) (by kernel_rfl) (by simp) ?_
    refine AllReadyH.cons (at_list rfl) (fun K hK => ?_) AllReadyH.nil
    go_simp
    refine (alive7_any _).mono ?_
    rintro e v1 ⟨rfl, hv1⟩
    go_wp2_with fail
    refine hK.out _ _ ?_ (fun hHeld2 => ?_)
    · exact ⟨bstep hHeld.1 hv1, hHeld.2.1.keptB hv1, hHeld.2.2.1.keptB hv1, hHeld.2.2.2.1.keptB hv1, hHeld.2.2.2.2.1.keptB hv1, trivial⟩
    clear hK K hHeld
    have hHeld := hHeld2
    clear hHeld2 hv1
    try simp only [Act.put, List.setIfInBounds_toArray, List.set_cons_zero, List.set_cons_succ]
    refine wpAnyH_take (i := 1) (v := .bool true) (at_list rfl) (by kernel_rfl) (by kernel_rfl) (by kernel_rfl) (fun _ _ _ h => h) (Or.inl ⟨by rfl, ?_⟩) hHeld ?_
    · intro v hSv
      clear hHeld
      go_simp
    try simp only [Act.put, List.setIfInBounds_toArray, List.set_cons_zero, List.set_cons_succ]
    refine wpAnyH_take (i := 2) (v := .agg (rsA a)) (at_list rfl) (by kernel_rfl) (by kernel_rfl) (by kernel_rfl) (fun _ _ _ h => h) (yields_whole (by rfl) 29 _ rfl gK1 rfl (fun v hv => hv.2.1) Try.underlying29 rfl (by kernel_rfl)) hHeld ?_
    try simp only [Act.put, List.setIfInBounds_toArray, List.set_cons_zero, List.set_cons_succ]
    refine wpAnyH_take (i := 3) (v := .agg (rsA b)) (at_list rfl) (by kernel_rfl) (by kernel_rfl) (by kernel_rfl) (fun _ _ _ h => h) (yields_whole (by rfl) 29 _ rfl gK2 rfl (fun v hv => hv.2.2.1) Try.underlying29 rfl (by kernel_rfl)) hHeld ?_
    try simp only [Act.put, List.setIfInBounds_toArray, List.set_cons_zero, List.set_cons_succ]
    refine wpAnyH_take (i := 5) (v := .agg (rsA (hearR a b.st q p))) (at_list rfl) (by kernel_rfl) (by kernel_rfl) (by kernel_rfl) (fun _ _ _ h => h) (yields_whole (by rfl) 29 _ rfl gK4 rfl (fun v hv => hv.2.2.2.1) Try.underlying29 rfl (by kernel_rfl)) hHeld ?_
    try simp only [Act.put, List.setIfInBounds_toArray, List.set_cons_zero, List.set_cons_succ]
    refine wpAnyH_take (i := 6) (v := .agg (rsA (hearR b a.st p q))) (at_list rfl) (by kernel_rfl) (by kernel_rfl) (by kernel_rfl) (fun _ _ _ h => h) (yields_whole (by rfl) 29 _ rfl gK5 rfl (fun v hv => hv.2.2.2.2.1) Try.underlying29 rfl (by kernel_rfl)) hHeld ?_
    try simp only [Act.put, List.setIfInBounds_toArray, List.set_cons_zero, List.set_cons_succ]
    refine wpAnyH_ready (rs := [4]) (by kernel_rfl) (by simp) ?_
    refine AllReadyH.cons (at_list rfl) (fun K hK => ?_) AllReadyH.nil
    go_simp
    refine (comp7_any a b _ OA.out OB.out).mono ?_
    rintro e v2 ⟨rfl, hv2⟩
    rw [HN.out]
    go_wp2_with fail
    refine hK.out _ _ ?_ (fun hHeld2 => ?_)
    · exact ⟨bstep hHeld.1 hv2, hHeld.2.1.keptB hv2, hHeld.2.2.1.keptB hv2, hHeld.2.2.2.1.keptB hv2, hHeld.2.2.2.2.1.keptB hv2, trivial⟩
    clear hK K hHeld
    have hHeld := hHeld2
    clear hHeld2 hv2
    try simp only [Act.put, List.setIfInBounds_toArray, List.set_cons_zero, List.set_cons_succ]
    refine wpAnyH_ready (rs := [7]) (by kernel_rfl) (by simp) ?_
    refine AllReadyH.cons (at_list rfl) (fun K hK => ?_) AllReadyH.nil
    go_simp
    refine (comp7_any (hearR a b.st q p) (hearR b a.st p q) _ OC.out OD.out).mono ?_
    rintro e v3 ⟨rfl, hv3⟩
    rw [HM.out]
    go_wp2_with fail
    refine hK.out _ _ ?_ (fun hHeld2 => ?_)
    · exact ⟨bstep hHeld.1 hv3, hHeld.2.1.keptB hv3, hHeld.2.2.1.keptB hv3, hHeld.2.2.2.1.keptB hv3, hHeld.2.2.2.2.1.keptB hv3, trivial⟩
    clear hK K hHeld
    have hHeld := hHeld2
    clear hHeld2 hv3
    try simp only [Act.put, List.setIfInBounds_toArray, List.set_cons_zero, List.set_cons_succ]
    refine wpAnyH_take (i := 8) (v := .bool true) (at_list rfl) (by kernel_rfl) (by kernel_rfl) (by kernel_rfl) (fun _ _ _ h => h) (Or.inl ⟨by rfl, ?_⟩) hHeld ?_
    · intro v hSv
      clear hHeld
      go_simp
    try simp only [Act.put, List.setIfInBounds_toArray, List.set_cons_zero, List.set_cons_succ]
    refine wpAnyH_take (i := 9) (v := .bool true) (at_list rfl) (by kernel_rfl) (by kernel_rfl) (by kernel_rfl) (fun _ _ _ h => h) (Or.inl ⟨by rfl, ?_⟩) hHeld ?_
    · intro v hSv
      clear hHeld
      go_simp
    try simp only [Act.put, List.setIfInBounds_toArray, List.set_cons_zero, List.set_cons_succ]
    refine wpAnyH_take (i := 10) (v := .bool true) (at_list rfl) (by kernel_rfl) (by kernel_rfl) (by kernel_rfl) (fun _ _ _ h => h) (Or.inl ⟨by rfl, ?_⟩) hHeld ?_
    · intro v hSv
      clear hHeld
      go_simp
    try simp only [Act.put, List.setIfInBounds_toArray, List.set_cons_zero, List.set_cons_succ]
    refine wpAnyH_done (by kernel_rfl) ?_ _
    have HB := Lib.hid hHeld.1
    have K1 := Lib.hid hHeld.2.1
    have K2 := Lib.hid hHeld.2.2.1
    have K4 := Lib.hid hHeld.2.2.2.1
    have K5 := Lib.hid hHeld.2.2.2.2.1
    clear hHeld
    go_wp2
    go_ret
    exact ⟨rfl, HB.out⟩
  · refine step_alloc (by rfl) 29 rfl (rsA zeroR) (by kernel_rfl) ?_
    intro gK5 y11 hlK5 nK5 hy11
    have K5 := Lib.hid nK5
    have LK5 := Lib.hid (show w.heap.size ≤ gK5 from Nat.le_trans hHeld.1.size hlK5)
    have NK1K5 := Lib.hid (show gK1 ≠ gK5 by have := hHeld.2.1.inside; omega)
    have NK2K5 := Lib.hid (show gK2 ≠ gK5 by have := hHeld.2.2.1.inside; omega)
    have NK3K5 := Lib.hid (show gK3 ≠ gK5 by have := hHeld.2.2.2.inside; omega)
    refine hK.out _ _ ?_ (fun hHeld2 => ?_)
    · exact ⟨bstep hHeld.1 hy11, hHeld.2.1.keptB hy11, hHeld.2.2.1.keptB hy11, hHeld.2.2.2.keptB hy11⟩
    clear hK K hHeld
    have hHeld := hHeld2
    clear hHeld2
    try simp only [Act.put]
    try simp only [List.setIfInBounds_toArray, List.set_cons_zero, List.set_cons_succ]
    clear hlK5 nK5 hy11
    refine wpAnyH_ready (rs := [2]) (by kernel_rfl) (by simp) ?_
    refine AllReadyH.cons (at_list rfl) (fun K hK => ?_) AllReadyH.nil
    refine step_alloc (by rfl) 29 rfl (rsA zeroR) (by kernel_rfl) ?_
    intro gK4 y12 hlK4 nK4 hy12
    have K4 := Lib.hid nK4
    have LK4 := Lib.hid (show w.heap.size ≤ gK4 from Nat.le_trans hHeld.1.size hlK4)
    have NK1K4 := Lib.hid (show gK1 ≠ gK4 by have := hHeld.2.1.inside; omega)
    have NK2K4 := Lib.hid (show gK2 ≠ gK4 by have := hHeld.2.2.1.inside; omega)
    have NK3K4 := Lib.hid (show gK3 ≠ gK4 by have := hHeld.2.2.2.inside; omega)
    have NK5K4 := Lib.hid (show gK5 ≠ gK4 by have := (K5.out).inside; omega)
    have NK4K5 := Lib.hid (show gK4 ≠ gK5 by have := NK5K4.out; omega)
    replace K5 := Lib.hid ((K5.out).keptB hy12)
    refine hK.out _ _ ?_ (fun hHeld2 => ?_)
    · exact ⟨bstep hHeld.1 hy12, hHeld.2.1.keptB hy12, hHeld.2.2.1.keptB hy12, hHeld.2.2.2.keptB hy12⟩
    clear hK K hHeld
    have hHeld := hHeld2
    clear hHeld2
    try simp only [Act.put]
    try simp only [List.setIfInBounds_toArray, List.set_cons_zero, List.set_cons_succ]
    clear hlK4 nK4 hy12
    refine wpAnyH_ready (rs := [4]) (by kernel_rfl) (by simp) ?_
    refine AllReadyH.cons (at_list rfl) (fun K hK => ?_) AllReadyH.nil
    refine step_store (by rfl) 29 _ _ rfl gK4 0 (rsA a).toList rfl rfl K4.out (by kernel_rfl) (by kernel_rfl) (of_decide_eq_true (by kernel_rfl)) (rsA a) (by kernel_rfl) ?_
    intro y13 nK4 hy13
    replace K4 := Lib.hid nK4
    replace K5 := Lib.hid ((K5.out).touch hy13 NK5K4.out)
    refine hK.out _ _ ?_ (fun hHeld2 => ?_)
    · exact ⟨btouch hHeld.1 hy13 LK4.out, hHeld.2.1.touch hy13 NK1K4.out, hHeld.2.2.1.touch hy13 NK2K4.out, hHeld.2.2.2.touch hy13 NK3K4.out⟩
    clear hK K hHeld
    have hHeld := hHeld2
    clear hHeld2
    try simp only [Act.put]
    try simp only [Act.put, List.setIfInBounds_toArray, List.set_cons_zero, List.set_cons_succ]
    clear nK4 hy13
    refine wpAnyH_ready (rs := [5]) (by kernel_rfl) (by simp) ?_
    refine AllReadyH.cons (at_list rfl) (fun K hK => ?_) AllReadyH.nil
    refine step_store (by rfl) 29 _ _ rfl gK5 0 (rsA b).toList rfl rfl K5.out (by kernel_rfl) (by kernel_rfl) (of_decide_eq_true (by kernel_rfl)) (rsA b) (by kernel_rfl) ?_
    intro y14 nK5 hy14
    replace K5 := Lib.hid nK5
    replace K4 := Lib.hid ((K4.out).touch hy14 NK4K5.out)
    refine hK.out _ _ ?_ (fun hHeld2 => ?_)
    · exact ⟨btouch hHeld.1 hy14 LK5.out, hHeld.2.1.touch hy14 NK1K5.out, hHeld.2.2.1.touch hy14 NK2K5.out, hHeld.2.2.2.touch hy14 NK3K5.out⟩
    clear hK K hHeld
    have hHeld := hHeld2
    clear hHeld2
    try simp only [Act.put]
    try simp only [Act.put, List.setIfInBounds_toArray, List.set_cons_zero, List.set_cons_succ]
    clear nK5 hy14
    refine wpAnyH_done (by kernel_rfl) ?_ _
    have HB := Lib.hid hHeld.1
    have K1 := Lib.hid hHeld.2.1
    have K2 := Lib.hid hHeld.2.2.1
    have K3 := Lib.hid hHeld.2.2.2
    clear hHeld
    go_wp2_with fail
    replace K4 := Lib.hid ((K4.out).drew)
    replace K5 := Lib.hid ((K5.out).drew)
    refine wp_region_noPanic ?_
    refine wp_region_held_drew (S := fun v => Below w.heap.size w v ∧ Holds v gK1 29 (rsA a) ∧ Holds v gK2 29 (rsA b) ∧ Holds v gK3 40 #[.int .u8 p.c.b0, .int .u8 p.c.b1, .int .u8 p.c.b2, .int .u8 p.c.b3, .int .u8 p.c.b4, .int .u8 p.c.b5, .int .u8 p.c.b6, .int .u8 p.c.b7, .int .i64 p.n, .int .u8 q.c.b0, .int .u8 q.c.b1, .int .u8 q.c.b2, .int .u8 q.c.b3, .int .u8 q.c.b4, .int .u8 q.c.b5, .int .u8 q.c.b6, .int .u8 q.c.b7, .int .i64 q.n]) (by kernel_rfl) ?_ (fun hHeld => ?_)
    · exact ⟨bdrew HB.out, (K1.out).drew, (K2.out).drew, (K3.out).drew⟩
    clear HB K1 K2 K3
    refine wpAnyH_take (i := 0) (v := .pointer (some ⟨gK3, 0, none⟩)) (at_list rfl) (by kernel_rfl) (by kernel_rfl) (by kernel_rfl) (fun _ _ _ h => h) (Or.inl ⟨by rfl, ?_⟩) hHeld ?_
    · intro v hSv
      clear hHeld
      go_simp
    try simp only [Act.put, List.setIfInBounds_toArray, List.set_cons_zero, List.set_cons_succ]
    refine wpAnyH_take (i := 1) (v := .agg #[.int .u8 p.c.b0, .int .u8 p.c.b1, .int .u8 p.c.b2, .int .u8 p.c.b3, .int .u8 p.c.b4, .int .u8 p.c.b5, .int .u8 p.c.b6, .int .u8 p.c.b7, .int .i64 p.n]) (at_list rfl) (by kernel_rfl) (by kernel_rfl) (by kernel_rfl) (fun _ _ _ h => h) (yieldsIf_load_mid (by rfl) 27 _ rfl gK3 0 rfl [.int .u8 p.c.b0, .int .u8 p.c.b1, .int .u8 p.c.b2, .int .u8 p.c.b3, .int .u8 p.c.b4, .int .u8 p.c.b5, .int .u8 p.c.b6, .int .u8 p.c.b7, .int .i64 p.n] _ (fun v hv => Holds.range hv.2.2.2 rfl) Try.underlying27 rfl (by kernel_rfl)) hHeld ?_
    try simp only [Act.put, List.setIfInBounds_toArray, List.set_cons_zero, List.set_cons_succ]
    refine wpAnyH_take (i := 2) (v := .pointer (some ⟨gK3, 9, none⟩)) (at_list rfl) (by kernel_rfl) (by kernel_rfl) (by kernel_rfl) (fun _ _ _ h => h) (Or.inl ⟨by rfl, ?_⟩) hHeld ?_
    · intro v hSv
      clear hHeld
      go_simp
    try simp only [Act.put, List.setIfInBounds_toArray, List.set_cons_zero, List.set_cons_succ]
    refine wpAnyH_take (i := 3) (v := .agg #[.int .u8 q.c.b0, .int .u8 q.c.b1, .int .u8 q.c.b2, .int .u8 q.c.b3, .int .u8 q.c.b4, .int .u8 q.c.b5, .int .u8 q.c.b6, .int .u8 q.c.b7, .int .i64 q.n]) (at_list rfl) (by kernel_rfl) (by kernel_rfl) (by kernel_rfl) (fun _ _ _ h => h) (yieldsIf_load_mid (by rfl) 27 _ rfl gK3 9 rfl [.int .u8 q.c.b0, .int .u8 q.c.b1, .int .u8 q.c.b2, .int .u8 q.c.b3, .int .u8 q.c.b4, .int .u8 q.c.b5, .int .u8 q.c.b6, .int .u8 q.c.b7, .int .i64 q.n] _ (fun v hv => Holds.range hv.2.2.2 rfl) Try.underlying27 rfl (by kernel_rfl)) hHeld ?_
    try simp only [Act.put, List.setIfInBounds_toArray, List.set_cons_zero, List.set_cons_succ]
    refine wpAnyH_take (i := 4) (v := .pointer (some ⟨gK2, 13, none⟩)) (at_list rfl) (by kernel_rfl) (by kernel_rfl) (by kernel_rfl) (fun _ _ _ h => h) (Or.inl ⟨by rfl, ?_⟩) hHeld ?_
    · intro v hSv
      clear hHeld
      go_simp
    try simp only [Act.put, List.setIfInBounds_toArray, List.set_cons_zero, List.set_cons_succ]
    refine wpAnyH_take (i := 5) (v := .int .i64 b.st) (at_list rfl) (by kernel_rfl) (by kernel_rfl) (by kernel_rfl) (fun _ _ _ h => h) (Or.inl ⟨by rfl, ?_⟩) hHeld ?_
    · intro v hSv
      clear hHeld
      have q_ := Holds.reads hSv.2.2.1 (i := 13) (x := .int .i64 b.st) rfl
      clear hSv
      go_simp
    try simp only [Act.put, List.setIfInBounds_toArray, List.set_cons_zero, List.set_cons_succ]
    refine wpAnyH_take (i := 6) (v := .pointer (some ⟨gK4, 23, none⟩)) (at_list rfl) (by kernel_rfl) (by kernel_rfl) (by kernel_rfl) (fun _ _ _ h => h) (Or.inl ⟨by rfl, ?_⟩) hHeld ?_
    · intro v hSv
      clear hHeld
      go_simp
    try simp only [Act.put, List.setIfInBounds_toArray, List.set_cons_zero, List.set_cons_succ]
    refine wpAnyH_ready (rs := [7]) (by kernel_rfl) (by simp) ?_
    refine AllReadyH.cons (at_list rfl) (fun K hK => ?_) AllReadyH.nil
    refine step_store (by rfl) 27 _ _ rfl gK4 23 [.int .u8 p.c.b0, .int .u8 p.c.b1, .int .u8 p.c.b2, .int .u8 p.c.b3, .int .u8 p.c.b4, .int .u8 p.c.b5, .int .u8 p.c.b6, .int .u8 p.c.b7, .int .i64 p.n] rfl rfl K4.out (by kernel_rfl) (by kernel_rfl) (of_decide_eq_true (by kernel_rfl)) (rsA (hearR a a.st a.sn p)) (by kernel_rfl) ?_
    intro y15 nK4 hy15
    replace K4 := Lib.hid nK4
    replace K5 := Lib.hid ((K5.out).touch hy15 NK5K4.out)
    refine hK.out _ _ ?_ (fun hHeld2 => ?_)
    · exact ⟨btouch hHeld.1 hy15 LK4.out, hHeld.2.1.touch hy15 NK1K4.out, hHeld.2.2.1.touch hy15 NK2K4.out, hHeld.2.2.2.touch hy15 NK3K4.out⟩
    clear hK K hHeld
    have hHeld := hHeld2
    clear hHeld2
    try simp only [Act.put]
    try simp only [Act.put, List.setIfInBounds_toArray, List.set_cons_zero, List.set_cons_succ]
    clear nK4 hy15
    refine wpAnyH_take (i := 8) (v := .pointer (some ⟨gK4, 14, none⟩)) (at_list rfl) (by kernel_rfl) (by kernel_rfl) (by kernel_rfl) (fun _ _ _ h => h) (Or.inl ⟨by rfl, ?_⟩) hHeld ?_
    · intro v hSv
      clear hHeld
      go_simp
    try simp only [Act.put, List.setIfInBounds_toArray, List.set_cons_zero, List.set_cons_succ]
    refine wpAnyH_ready (rs := [9]) (by kernel_rfl) (by simp) ?_
    refine AllReadyH.cons (at_list rfl) (fun K hK => ?_) AllReadyH.nil
    refine step_store (by rfl) 27 _ _ rfl gK4 14 [.int .u8 q.c.b0, .int .u8 q.c.b1, .int .u8 q.c.b2, .int .u8 q.c.b3, .int .u8 q.c.b4, .int .u8 q.c.b5, .int .u8 q.c.b6, .int .u8 q.c.b7, .int .i64 q.n] rfl rfl K4.out (by kernel_rfl) (by kernel_rfl) (of_decide_eq_true (by kernel_rfl)) (rsA (hearR a a.st q p)) (by kernel_rfl) ?_
    intro y16 nK4 hy16
    replace K4 := Lib.hid nK4
    replace K5 := Lib.hid ((K5.out).touch hy16 NK5K4.out)
    refine hK.out _ _ ?_ (fun hHeld2 => ?_)
    · exact ⟨btouch hHeld.1 hy16 LK4.out, hHeld.2.1.touch hy16 NK1K4.out, hHeld.2.2.1.touch hy16 NK2K4.out, hHeld.2.2.2.touch hy16 NK3K4.out⟩
    clear hK K hHeld
    have hHeld := hHeld2
    clear hHeld2
    try simp only [Act.put]
    try simp only [Act.put, List.setIfInBounds_toArray, List.set_cons_zero, List.set_cons_succ]
    clear nK4 hy16
    refine wpAnyH_take (i := 10) (v := .pointer (some ⟨gK4, 13, none⟩)) (at_list rfl) (by kernel_rfl) (by kernel_rfl) (by kernel_rfl) (fun _ _ _ h => h) (Or.inl ⟨by rfl, ?_⟩) hHeld ?_
    · intro v hSv
      clear hHeld
      go_simp
    try simp only [Act.put, List.setIfInBounds_toArray, List.set_cons_zero, List.set_cons_succ]
    refine wpAnyH_ready (rs := [11]) (by kernel_rfl) (by simp) ?_
    refine AllReadyH.cons (at_list rfl) (fun K hK => ?_) AllReadyH.nil
    refine step_set (by rfl) 3 _ _ rfl gK4 13 (.int .i64 b.st) rfl rfl K4.out (by kernel_rfl) rfl rfl (of_decide_eq_true (by kernel_rfl)) (rsA (hearR a b.st q p)) (by kernel_rfl) ?_
    intro y17 nK4 hy17
    replace K4 := Lib.hid nK4
    replace K5 := Lib.hid ((K5.out).touch hy17 NK5K4.out)
    refine hK.out _ _ ?_ (fun hHeld2 => ?_)
    · exact ⟨btouch hHeld.1 hy17 LK4.out, hHeld.2.1.touch hy17 NK1K4.out, hHeld.2.2.1.touch hy17 NK2K4.out, hHeld.2.2.2.touch hy17 NK3K4.out⟩
    clear hK K hHeld
    have hHeld := hHeld2
    clear hHeld2
    try simp only [Act.put]
    try simp only [Act.put, List.setIfInBounds_toArray, List.set_cons_zero, List.set_cons_succ]
    clear nK4 hy17
    refine wpAnyH_done (by kernel_rfl) ?_ _
    refine NoPanic.normal ?_
    have HB := Lib.hid hHeld.1
    have K1 := Lib.hid hHeld.2.1
    have K2 := Lib.hid hHeld.2.2.1
    have K3 := Lib.hid hHeld.2.2.2
    clear hHeld
    go_wp2_with fail
    replace K4 := Lib.hid ((K4.out).drew)
    replace K5 := Lib.hid ((K5.out).drew)
    refine wp_region_noPanic ?_
    refine wp_region_held_drew (S := fun v => Below w.heap.size w v ∧ Holds v gK1 29 (rsA a) ∧ Holds v gK2 29 (rsA b) ∧ Holds v gK3 40 #[.int .u8 p.c.b0, .int .u8 p.c.b1, .int .u8 p.c.b2, .int .u8 p.c.b3, .int .u8 p.c.b4, .int .u8 p.c.b5, .int .u8 p.c.b6, .int .u8 p.c.b7, .int .i64 p.n, .int .u8 q.c.b0, .int .u8 q.c.b1, .int .u8 q.c.b2, .int .u8 q.c.b3, .int .u8 q.c.b4, .int .u8 q.c.b5, .int .u8 q.c.b6, .int .u8 q.c.b7, .int .i64 q.n]) (by kernel_rfl) ?_ (fun hHeld => ?_)
    · exact ⟨bdrew HB.out, (K1.out).drew, (K2.out).drew, (K3.out).drew⟩
    clear HB K1 K2 K3
    refine wpAnyH_take (i := 0) (v := .pointer (some ⟨gK3, 9, none⟩)) (at_list rfl) (by kernel_rfl) (by kernel_rfl) (by kernel_rfl) (fun _ _ _ h => h) (Or.inl ⟨by rfl, ?_⟩) hHeld ?_
    · intro v hSv
      clear hHeld
      go_simp
    try simp only [Act.put, List.setIfInBounds_toArray, List.set_cons_zero, List.set_cons_succ]
    refine wpAnyH_take (i := 1) (v := .agg #[.int .u8 q.c.b0, .int .u8 q.c.b1, .int .u8 q.c.b2, .int .u8 q.c.b3, .int .u8 q.c.b4, .int .u8 q.c.b5, .int .u8 q.c.b6, .int .u8 q.c.b7, .int .i64 q.n]) (at_list rfl) (by kernel_rfl) (by kernel_rfl) (by kernel_rfl) (fun _ _ _ h => h) (yieldsIf_load_mid (by rfl) 27 _ rfl gK3 9 rfl [.int .u8 q.c.b0, .int .u8 q.c.b1, .int .u8 q.c.b2, .int .u8 q.c.b3, .int .u8 q.c.b4, .int .u8 q.c.b5, .int .u8 q.c.b6, .int .u8 q.c.b7, .int .i64 q.n] _ (fun v hv => Holds.range hv.2.2.2 rfl) Try.underlying27 rfl (by kernel_rfl)) hHeld ?_
    try simp only [Act.put, List.setIfInBounds_toArray, List.set_cons_zero, List.set_cons_succ]
    refine wpAnyH_take (i := 2) (v := .pointer (some ⟨gK3, 0, none⟩)) (at_list rfl) (by kernel_rfl) (by kernel_rfl) (by kernel_rfl) (fun _ _ _ h => h) (Or.inl ⟨by rfl, ?_⟩) hHeld ?_
    · intro v hSv
      clear hHeld
      go_simp
    try simp only [Act.put, List.setIfInBounds_toArray, List.set_cons_zero, List.set_cons_succ]
    refine wpAnyH_take (i := 3) (v := .agg #[.int .u8 p.c.b0, .int .u8 p.c.b1, .int .u8 p.c.b2, .int .u8 p.c.b3, .int .u8 p.c.b4, .int .u8 p.c.b5, .int .u8 p.c.b6, .int .u8 p.c.b7, .int .i64 p.n]) (at_list rfl) (by kernel_rfl) (by kernel_rfl) (by kernel_rfl) (fun _ _ _ h => h) (yieldsIf_load_mid (by rfl) 27 _ rfl gK3 0 rfl [.int .u8 p.c.b0, .int .u8 p.c.b1, .int .u8 p.c.b2, .int .u8 p.c.b3, .int .u8 p.c.b4, .int .u8 p.c.b5, .int .u8 p.c.b6, .int .u8 p.c.b7, .int .i64 p.n] _ (fun v hv => Holds.range hv.2.2.2 rfl) Try.underlying27 rfl (by kernel_rfl)) hHeld ?_
    try simp only [Act.put, List.setIfInBounds_toArray, List.set_cons_zero, List.set_cons_succ]
    refine wpAnyH_take (i := 4) (v := .pointer (some ⟨gK1, 13, none⟩)) (at_list rfl) (by kernel_rfl) (by kernel_rfl) (by kernel_rfl) (fun _ _ _ h => h) (Or.inl ⟨by rfl, ?_⟩) hHeld ?_
    · intro v hSv
      clear hHeld
      go_simp
    try simp only [Act.put, List.setIfInBounds_toArray, List.set_cons_zero, List.set_cons_succ]
    refine wpAnyH_take (i := 5) (v := .int .i64 a.st) (at_list rfl) (by kernel_rfl) (by kernel_rfl) (by kernel_rfl) (fun _ _ _ h => h) (Or.inl ⟨by rfl, ?_⟩) hHeld ?_
    · intro v hSv
      clear hHeld
      have q_ := Holds.reads hSv.2.1 (i := 13) (x := .int .i64 a.st) rfl
      clear hSv
      go_simp
    try simp only [Act.put, List.setIfInBounds_toArray, List.set_cons_zero, List.set_cons_succ]
    refine wpAnyH_take (i := 6) (v := .pointer (some ⟨gK5, 23, none⟩)) (at_list rfl) (by kernel_rfl) (by kernel_rfl) (by kernel_rfl) (fun _ _ _ h => h) (Or.inl ⟨by rfl, ?_⟩) hHeld ?_
    · intro v hSv
      clear hHeld
      go_simp
    try simp only [Act.put, List.setIfInBounds_toArray, List.set_cons_zero, List.set_cons_succ]
    refine wpAnyH_ready (rs := [7]) (by kernel_rfl) (by simp) ?_
    refine AllReadyH.cons (at_list rfl) (fun K hK => ?_) AllReadyH.nil
    refine step_store (by rfl) 27 _ _ rfl gK5 23 [.int .u8 q.c.b0, .int .u8 q.c.b1, .int .u8 q.c.b2, .int .u8 q.c.b3, .int .u8 q.c.b4, .int .u8 q.c.b5, .int .u8 q.c.b6, .int .u8 q.c.b7, .int .i64 q.n] rfl rfl K5.out (by kernel_rfl) (by kernel_rfl) (of_decide_eq_true (by kernel_rfl)) (rsA (hearR b b.st b.sn q)) (by kernel_rfl) ?_
    intro y18 nK5 hy18
    replace K5 := Lib.hid nK5
    replace K4 := Lib.hid ((K4.out).touch hy18 NK4K5.out)
    refine hK.out _ _ ?_ (fun hHeld2 => ?_)
    · exact ⟨btouch hHeld.1 hy18 LK5.out, hHeld.2.1.touch hy18 NK1K5.out, hHeld.2.2.1.touch hy18 NK2K5.out, hHeld.2.2.2.touch hy18 NK3K5.out⟩
    clear hK K hHeld
    have hHeld := hHeld2
    clear hHeld2
    try simp only [Act.put]
    try simp only [Act.put, List.setIfInBounds_toArray, List.set_cons_zero, List.set_cons_succ]
    clear nK5 hy18
    refine wpAnyH_take (i := 8) (v := .pointer (some ⟨gK5, 14, none⟩)) (at_list rfl) (by kernel_rfl) (by kernel_rfl) (by kernel_rfl) (fun _ _ _ h => h) (Or.inl ⟨by rfl, ?_⟩) hHeld ?_
    · intro v hSv
      clear hHeld
      go_simp
    try simp only [Act.put, List.setIfInBounds_toArray, List.set_cons_zero, List.set_cons_succ]
    refine wpAnyH_ready (rs := [9]) (by kernel_rfl) (by simp) ?_
    refine AllReadyH.cons (at_list rfl) (fun K hK => ?_) AllReadyH.nil
    refine step_store (by rfl) 27 _ _ rfl gK5 14 [.int .u8 p.c.b0, .int .u8 p.c.b1, .int .u8 p.c.b2, .int .u8 p.c.b3, .int .u8 p.c.b4, .int .u8 p.c.b5, .int .u8 p.c.b6, .int .u8 p.c.b7, .int .i64 p.n] rfl rfl K5.out (by kernel_rfl) (by kernel_rfl) (of_decide_eq_true (by kernel_rfl)) (rsA (hearR b b.st p q)) (by kernel_rfl) ?_
    intro y19 nK5 hy19
    replace K5 := Lib.hid nK5
    replace K4 := Lib.hid ((K4.out).touch hy19 NK4K5.out)
    refine hK.out _ _ ?_ (fun hHeld2 => ?_)
    · exact ⟨btouch hHeld.1 hy19 LK5.out, hHeld.2.1.touch hy19 NK1K5.out, hHeld.2.2.1.touch hy19 NK2K5.out, hHeld.2.2.2.touch hy19 NK3K5.out⟩
    clear hK K hHeld
    have hHeld := hHeld2
    clear hHeld2
    try simp only [Act.put]
    try simp only [Act.put, List.setIfInBounds_toArray, List.set_cons_zero, List.set_cons_succ]
    clear nK5 hy19
    refine wpAnyH_take (i := 10) (v := .pointer (some ⟨gK5, 13, none⟩)) (at_list rfl) (by kernel_rfl) (by kernel_rfl) (by kernel_rfl) (fun _ _ _ h => h) (Or.inl ⟨by rfl, ?_⟩) hHeld ?_
    · intro v hSv
      clear hHeld
      go_simp
    try simp only [Act.put, List.setIfInBounds_toArray, List.set_cons_zero, List.set_cons_succ]
    refine wpAnyH_ready (rs := [11]) (by kernel_rfl) (by simp) ?_
    refine AllReadyH.cons (at_list rfl) (fun K hK => ?_) AllReadyH.nil
    refine step_set (by rfl) 3 _ _ rfl gK5 13 (.int .i64 a.st) rfl rfl K5.out (by kernel_rfl) rfl rfl (of_decide_eq_true (by kernel_rfl)) (rsA (hearR b a.st p q)) (by kernel_rfl) ?_
    intro y20 nK5 hy20
    replace K5 := Lib.hid nK5
    replace K4 := Lib.hid ((K4.out).touch hy20 NK4K5.out)
    refine hK.out _ _ ?_ (fun hHeld2 => ?_)
    · exact ⟨btouch hHeld.1 hy20 LK5.out, hHeld.2.1.touch hy20 NK1K5.out, hHeld.2.2.1.touch hy20 NK2K5.out, hHeld.2.2.2.touch hy20 NK3K5.out⟩
    clear hK K hHeld
    have hHeld := hHeld2
    clear hHeld2
    try simp only [Act.put]
    try simp only [Act.put, List.setIfInBounds_toArray, List.set_cons_zero, List.set_cons_succ]
    clear nK5 hy20
    refine wpAnyH_done (by kernel_rfl) ?_ _
    refine NoPanic.normal ?_
    have HB := Lib.hid hHeld.1
    have K1 := Lib.hid hHeld.2.1
    have K2 := Lib.hid hHeld.2.2.1
    have K3 := Lib.hid hHeld.2.2.2
    clear hHeld
    go_wp2_with fail
    clear K3
    refine wp_region_held_drew (S := fun v => Below w.heap.size w v ∧ Holds v gK1 29 (rsA a) ∧ Holds v gK2 29 (rsA b) ∧ Holds v gK4 29 (rsA (hearR a b.st q p)) ∧ Holds v gK5 29 (rsA (hearR b a.st p q)) ∧ True) (by kernel_rfl) ?_ (fun hHeld => ?_)
    · exact ⟨bdrew HB.out, (K1.out).drew, (K2.out).drew, (K4.out).drew, (K5.out).drew, trivial⟩
    clear HB K1 K2 K4 K5
    refine wpAnyH_ready (rs := [0]) (by kernel_rfl) (by simp) ?_
    refine AllReadyH.cons (at_list rfl) (fun K hK => ?_) AllReadyH.nil
    go_simp
    refine (alive7_any _).mono ?_
    rintro e v1 ⟨rfl, hv1⟩
    go_wp2_with fail
    refine hK.out _ _ ?_ (fun hHeld2 => ?_)
    · exact ⟨bstep hHeld.1 hv1, hHeld.2.1.keptB hv1, hHeld.2.2.1.keptB hv1, hHeld.2.2.2.1.keptB hv1, hHeld.2.2.2.2.1.keptB hv1, trivial⟩
    clear hK K hHeld
    have hHeld := hHeld2
    clear hHeld2 hv1
    try simp only [Act.put, List.setIfInBounds_toArray, List.set_cons_zero, List.set_cons_succ]
    refine wpAnyH_take (i := 1) (v := .bool true) (at_list rfl) (by kernel_rfl) (by kernel_rfl) (by kernel_rfl) (fun _ _ _ h => h) (Or.inl ⟨by rfl, ?_⟩) hHeld ?_
    · intro v hSv
      clear hHeld
      go_simp
    try simp only [Act.put, List.setIfInBounds_toArray, List.set_cons_zero, List.set_cons_succ]
    refine wpAnyH_take (i := 2) (v := .agg (rsA a)) (at_list rfl) (by kernel_rfl) (by kernel_rfl) (by kernel_rfl) (fun _ _ _ h => h) (yields_whole (by rfl) 29 _ rfl gK1 rfl (fun v hv => hv.2.1) Try.underlying29 rfl (by kernel_rfl)) hHeld ?_
    try simp only [Act.put, List.setIfInBounds_toArray, List.set_cons_zero, List.set_cons_succ]
    refine wpAnyH_take (i := 3) (v := .agg (rsA b)) (at_list rfl) (by kernel_rfl) (by kernel_rfl) (by kernel_rfl) (fun _ _ _ h => h) (yields_whole (by rfl) 29 _ rfl gK2 rfl (fun v hv => hv.2.2.1) Try.underlying29 rfl (by kernel_rfl)) hHeld ?_
    try simp only [Act.put, List.setIfInBounds_toArray, List.set_cons_zero, List.set_cons_succ]
    refine wpAnyH_take (i := 5) (v := .agg (rsA (hearR a b.st q p))) (at_list rfl) (by kernel_rfl) (by kernel_rfl) (by kernel_rfl) (fun _ _ _ h => h) (yields_whole (by rfl) 29 _ rfl gK4 rfl (fun v hv => hv.2.2.2.1) Try.underlying29 rfl (by kernel_rfl)) hHeld ?_
    try simp only [Act.put, List.setIfInBounds_toArray, List.set_cons_zero, List.set_cons_succ]
    refine wpAnyH_take (i := 6) (v := .agg (rsA (hearR b a.st p q))) (at_list rfl) (by kernel_rfl) (by kernel_rfl) (by kernel_rfl) (fun _ _ _ h => h) (yields_whole (by rfl) 29 _ rfl gK5 rfl (fun v hv => hv.2.2.2.2.1) Try.underlying29 rfl (by kernel_rfl)) hHeld ?_
    try simp only [Act.put, List.setIfInBounds_toArray, List.set_cons_zero, List.set_cons_succ]
    refine wpAnyH_ready (rs := [4]) (by kernel_rfl) (by simp) ?_
    refine AllReadyH.cons (at_list rfl) (fun K hK => ?_) AllReadyH.nil
    go_simp
    refine (comp7_any a b _ OA.out OB.out).mono ?_
    rintro e v2 ⟨rfl, hv2⟩
    rw [HN.out]
    go_wp2_with fail
    refine hK.out _ _ ?_ (fun hHeld2 => ?_)
    · exact ⟨bstep hHeld.1 hv2, hHeld.2.1.keptB hv2, hHeld.2.2.1.keptB hv2, hHeld.2.2.2.1.keptB hv2, hHeld.2.2.2.2.1.keptB hv2, trivial⟩
    clear hK K hHeld
    have hHeld := hHeld2
    clear hHeld2 hv2
    try simp only [Act.put, List.setIfInBounds_toArray, List.set_cons_zero, List.set_cons_succ]
    refine wpAnyH_ready (rs := [7]) (by kernel_rfl) (by simp) ?_
    refine AllReadyH.cons (at_list rfl) (fun K hK => ?_) AllReadyH.nil
    go_simp
    refine (comp7_any (hearR a b.st q p) (hearR b a.st p q) _ OC.out OD.out).mono ?_
    rintro e v3 ⟨rfl, hv3⟩
    rw [HM.out]
    go_wp2_with fail
    refine hK.out _ _ ?_ (fun hHeld2 => ?_)
    · exact ⟨bstep hHeld.1 hv3, hHeld.2.1.keptB hv3, hHeld.2.2.1.keptB hv3, hHeld.2.2.2.1.keptB hv3, hHeld.2.2.2.2.1.keptB hv3, trivial⟩
    clear hK K hHeld
    have hHeld := hHeld2
    clear hHeld2 hv3
    try simp only [Act.put, List.setIfInBounds_toArray, List.set_cons_zero, List.set_cons_succ]
    refine wpAnyH_take (i := 8) (v := .bool true) (at_list rfl) (by kernel_rfl) (by kernel_rfl) (by kernel_rfl) (fun _ _ _ h => h) (Or.inl ⟨by rfl, ?_⟩) hHeld ?_
    · intro v hSv
      clear hHeld
      go_simp
    try simp only [Act.put, List.setIfInBounds_toArray, List.set_cons_zero, List.set_cons_succ]
    refine wpAnyH_take (i := 9) (v := .bool true) (at_list rfl) (by kernel_rfl) (by kernel_rfl) (by kernel_rfl) (fun _ _ _ h => h) (Or.inl ⟨by rfl, ?_⟩) hHeld ?_
    · intro v hSv
      clear hHeld
      go_simp
    try simp only [Act.put, List.setIfInBounds_toArray, List.set_cons_zero, List.set_cons_succ]
    refine wpAnyH_take (i := 10) (v := .bool true) (at_list rfl) (by kernel_rfl) (by kernel_rfl) (by kernel_rfl) (fun _ _ _ h => h) (Or.inl ⟨by rfl, ?_⟩) hHeld ?_
    · intro v hSv
      clear hHeld
      go_simp
    try simp only [Act.put, List.setIfInBounds_toArray, List.set_cons_zero, List.set_cons_succ]
    refine wpAnyH_done (by kernel_rfl) ?_ _
    have HB := Lib.hid hHeld.1
    have K1 := Lib.hid hHeld.2.1
    have K2 := Lib.hid hHeld.2.2.1
    have K4 := Lib.hid hHeld.2.2.2.1
    have K5 := Lib.hid hHeld.2.2.2.2.1
    clear hHeld
    go_wp2
    go_ret
    exact ⟨rfl, HB.out⟩
theorem receivers7_walk (a b : Rs) (p q : Pt) (w : World) (ha : a.ok) (hb : b.ok) (hp : p.c.ok) (hq : q.c.ok) :
    Calls Try.prog 10 #[.agg (rsA a), .agg (rsA b), .agg #[.int .u8 p.c.b0, .int .u8 p.c.b1, .int .u8 p.c.b2, .int .u8 p.c.b3, .int .u8 p.c.b4, .int .u8 p.c.b5, .int .u8 p.c.b6, .int .u8 p.c.b7, .int .i64 p.n, .int .u8 q.c.b0, .int .u8 q.c.b1, .int .u8 q.c.b2, .int .u8 q.c.b3, .int .u8 q.c.b4, .int .u8 q.c.b5, .int .u8 q.c.b6, .int .u8 q.c.b7, .int .i64 q.n]] w fun e w' => e = .returned (.bool true) ∧ Below w.heap.size w w' := by
  cases hg : eqC a.gr b.gr
  · exact receivers7_main a b p q w ha hb hp hq hg
  · exact receivers7_same a b p q w hg

end Go.Proofs.Ytifhjmhekapaoaa
