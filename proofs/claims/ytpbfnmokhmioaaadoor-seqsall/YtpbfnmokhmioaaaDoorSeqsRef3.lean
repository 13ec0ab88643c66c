/- The reference's book in memory; the walk over its Keep. -/
import Derived.Test.YtpbfnmokhmioaaaDoorSeqsRef1
import Derived.Deep.DeepCutAuto
import Derived.Deep.LoopGhost
import Derived.WalkMore
namespace Go.Proofs.YtpbfnmokhmioaaaDoor
set_option maxRecDepth 100000
open Go.RowKit
set_option linter.unusedVariables false
set_option linter.unusedSimpArgs false

/-- where a slice lies: below a block -/
def SlLow (s : Sl) (B : Nat) : Prop := ∀ g o, s.a = some ⟨g, o, none⟩ → 0 < s.n → g < B
/-- the reference's lists in memory -/
structure RbIn (w : World) (r : Rb) (s1 s2 s3 : Sl) : Prop where
  S : RowsIn w (.slice s1.a s1.n s1.c) r.S
  L : RowsIn w (.slice s2.a s2.n s2.c) r.L
  H : RowsIn w (.slice s3.a s3.n s3.c) r.H
section
variable {w v : World} {r : Rb} {s1 s2 s3 : Sl} {g B : Nat}
theorem RbIn.keptB (h : RbIn w r s1 s2 s3) (hb : Below w.heap.size w v) : RbIn v r s1 s2 s3 := ⟨h.S.keptB hb, h.L.keptB hb, h.H.keptB hb⟩
theorem RbIn.drew (h : RbIn w r s1 s2 s3) : RbIn w.drew r s1 s2 s3 := ⟨h.S.drew, h.L.drew, h.H.drew⟩
theorem RbIn.low (h : RbIn w r s1 s2 s3) (hB : w.heap.size ≤ B) : SlLow s1 B ∧ SlLow s2 B ∧ SlLow s3 B := ⟨fun g o ha hn => Nat.lt_of_lt_of_le (h.S.low g o ha hn) hB, fun g o ha hn => Nat.lt_of_lt_of_le (h.L.low g o ha hn) hB, fun g o ha hn => Nat.lt_of_lt_of_le (h.H.low g o ha hn) hB⟩
theorem RbIn.off (h : RbIn w r s1 s2 s3) (hg : w.heap.size ≤ g) : SlLow s1 g ∧ SlLow s2 g ∧ SlLow s3 g := h.low hg
theorem RbIn.touch (h : RbIn w r s1 s2 s3) (ht : Touch g w v) (hl : SlLow s1 g ∧ SlLow s2 g ∧ SlLow s3 g) : RbIn v r s1 s2 s3 :=
  ⟨h.S.touch ht fun g' o ha hn => Nat.ne_of_lt (hl.1 g' o ha hn), h.L.touch ht fun g' o ha hn => Nat.ne_of_lt (hl.2.1 g' o ha hn), h.H.touch ht fun g' o ha hn => Nat.ne_of_lt (hl.2.2 g' o ha hn)⟩
theorem RbIn.grown {row : Option Nat} (h : RbIn w r s1 s2 s3) (hg : w.grownBy v row) (hl : SlLow s1 B ∧ SlLow s2 B ∧ SlLow s3 B) (hne : ∀ b, b < B → row ≠ some b) : RbIn v r s1 s2 s3 :=
  ⟨h.S.grown hg fun g o ha hn => hne g (hl.1 g o ha hn), h.L.grown hg fun g o ha hn => hne g (hl.2.1 g o ha hn), h.H.grown hg fun g o ha hn => hne g (hl.2.2 g o ha hn)⟩
theorem RbIn.only {s : List Nat} (h : RbIn w r s1 s2 s3) (hb : Only s w.heap.size w v) (hl : SlLow s1 B ∧ SlLow s2 B ∧ SlLow s3 B) (hs : ∀ b ∈ s, B ≤ b) : RbIn v r s1 s2 s3 :=
  ⟨h.S.only hb fun A n c e g o ha hn hm => by cases e; have h1 := hl.1 g o ha hn; have h2 := hs g hm; omega, h.L.only hb fun A n c e g o ha hn hm => by cases e; have h1 := hl.2.1 g o ha hn; have h2 := hs g hm; omega, h.H.only hb fun A n c e g o ha hn hm => by cases e; have h1 := hl.2.2 g o ha hn; have h2 := hs g hm; omega⟩
end
/-- what is written into a block of another type is in no list -/
theorem RbIn.write {w v : World} {r : Rb} {s1 s2 s3 : Sl} {g : Nat} {t : TypeId} {cs : Array Value} (h : RbIn w r s1 s2 s3) (ht : Touch g w v) (hh : Holds w g t cs) (h1 : t ≠ 35) (h2 : t ≠ 76) (h3 : t ≠ 80) : RbIn v r s1 s2 s3 :=
  ⟨h.S.touch ht (h.S.apart hh h1), h.L.touch ht (h.L.apart hh h2), h.H.touch ht (h.H.apart hh h3)⟩
theorem RbIn.new (w : World) : RbIn w newRb nilS nilS nilS := ⟨RowsIn.nil w, RowsIn.nil w, RowsIn.nil w⟩
set_option maxHeartbeats 4000000 in
theorem rkeep11_any (r : Rb) (s1 s2 s3 : Sl) (q : Pt) (s x0 x1 x2 : Int) (w : World) (h : RbIn w r s1 s2 s3) (hS : r.S.length ≤ 10000) (hL : r.L.length ≤ 10000) (hH : r.H.length ≤ 10000) :
    Calls Tryd.prog 21 #[.agg (rbA r.sent s1 s2 s3), .agg (ptA q), .int .i64 s, .agg #[.int .i64 x0, .int .i64 x1, .int .i64 x2]] w fun e w' => ∃ t : Sl, e = .returned (.tuple #[.agg (rbA r.sent s1 s2 t), .bool (rkeepOk r q s)]) ∧ RbIn w' (rkeepR r q s x0 x1 x2) s1 s2 t ∧ Below w.heap.size w w' := by
  have HB := Lib.hid (Below.refl w.heap.size w)
  have HS := Lib.hid hS
  have HL := Lib.hid hL
  have HH := Lib.hid hH
  have RI := Lib.hid h
  clear hS hL hH h
  cases hq : knownB r.S q
  · obtain ⟨bb, hs⟩ : ∃ bb, inB s 0 65535 = bb := ⟨_, rfl⟩
    have HX : Hid (rkeepOk r q s = false) := by unfold rkeepOk; rw [Hid]; rw [hq]; rfl
    have HY : Hid (rkeepR r q s x0 x1 x2 = r) := by unfold rkeepR; rw [Hid, HX.out]; rfl
    go_enter Tryd.func21, Tryd.ntmps21
    go_upto_region 1 with (first | (refine big_alloc rfl 31 rfl (rbA (fun _ => 0) nilS nilS nilS) (by kernel_rfl) ?_; intro gK8 wK8 hlK8 nK8 hbK8; have K8 := Lib.hid nK8; have LK8 := Lib.hid (Nat.le_trans (HB.out).size hlK8); have ORIK8 := Lib.hid ((RI.out).off hlK8); have OK4K8 := Lib.hid ((K4.out).off hlK8); have OK5K8 := Lib.hid ((K5.out).off hlK8); have OK7K8 := Lib.hid ((K7.out).off hlK8); replace RI := Lib.hid ((RI.out).keptB hbK8); replace K4 := Lib.hid ((K4.out).keptB hbK8); replace K5 := Lib.hid ((K5.out).keptB hbK8); replace K7 := Lib.hid ((K7.out).keptB hbK8); replace HB := Lib.hid (bstep HB.out hbK8); clear hlK8 nK8 hbK8; try simp only [Act.put, List.setIfInBounds_toArray, List.set_cons_zero, List.set_cons_succ]) | (refine big_box rfl 36 _ rfl (#[.int .i64 x0, .int .i64 x1, .int .i64 x2]) rfl (by kernel_rfl) ?_; intro gK7 wK7 hlK7 nK7 hbK7; have K7 := Lib.hid nK7; have LK7 := Lib.hid (Nat.le_trans (HB.out).size hlK7); have ORIK7 := Lib.hid ((RI.out).off hlK7); have OK4K7 := Lib.hid ((K4.out).off hlK7); have OK5K7 := Lib.hid ((K5.out).off hlK7); replace RI := Lib.hid ((RI.out).keptB hbK7); replace K4 := Lib.hid ((K4.out).keptB hbK7); replace K5 := Lib.hid ((K5.out).keptB hbK7); replace HB := Lib.hid (bstep HB.out hbK7); clear hlK7 nK7 hbK7; try simp only [Act.put, List.setIfInBounds_toArray, List.set_cons_zero, List.set_cons_succ]) | (refine big_box rfl 35 _ rfl (ptA q) rfl (by kernel_rfl) ?_; intro gK5 wK5 hlK5 nK5 hbK5; have K5 := Lib.hid nK5; have LK5 := Lib.hid (Nat.le_trans (HB.out).size hlK5); have ORIK5 := Lib.hid ((RI.out).off hlK5); have OK4K5 := Lib.hid ((K4.out).off hlK5); replace RI := Lib.hid ((RI.out).keptB hbK5); replace K4 := Lib.hid ((K4.out).keptB hbK5); replace HB := Lib.hid (bstep HB.out hbK5); clear hlK5 nK5 hbK5; try simp only [Act.put, List.setIfInBounds_toArray, List.set_cons_zero, List.set_cons_succ]) | (refine big_box rfl 31 _ rfl (rbA r.sent s1 s2 s3) rfl (by kernel_rfl) ?_; intro gK4 wK4 hlK4 nK4 hbK4; have K4 := Lib.hid nK4; have LK4 := Lib.hid (Nat.le_trans (HB.out).size hlK4); have ORIK4 := Lib.hid ((RI.out).off hlK4); replace RI := Lib.hid ((RI.out).keptB hbK4); replace HB := Lib.hid (bstep HB.out hbK4); clear hlK4 nK4 hbK4; try simp only [Act.put, List.setIfInBounds_toArray, List.set_cons_zero, List.set_cons_succ]))
    go_wp2_with (first | (refine big_whole rfl 31 _ rfl gK4 rfl K4.out Tryd.underlying31 rfl (by kernel_rfl) ?_; try simp only [Act.put, List.setIfInBounds_toArray, List.set_cons_zero, List.set_cons_succ]) | (refine big_whole rfl 35 _ rfl gK5 rfl K5.out Tryd.underlying35 rfl (by kernel_rfl) ?_; try simp only [Act.put, List.setIfInBounds_toArray, List.set_cons_zero, List.set_cons_succ]))
    refine (rknown11_any r.sent s1.a s1.n s1.c s2 s3 r.S q _ (RI.out).S (by have := HS.out; have := (RI.out).S.len; omega)).mono ?_
    rintro e c1 ⟨rfl, hc1⟩
    replace RI := Lib.hid ((RI.out).keptB hc1)
    replace K4 := Lib.hid ((K4.out).keptB hc1)
    replace K5 := Lib.hid ((K5.out).keptB hc1)
    replace K7 := Lib.hid ((K7.out).keptB hc1)
    replace K8 := Lib.hid ((K8.out).keptB hc1)
    replace HB := Lib.hid (bstep HB.out hc1)
    clear hc1
    rw [hq]
    clear hq
    go_wp2_with (first | (refine big_fill rfl 31 _ _ rfl gK8 (rbA r.sent s1 s2 s3) rfl rfl K8.out (by kernel_rfl) (by kernel_rfl) (by kernel_rfl) ?_; intro vK85 nK8 htK8; replace K8 := Lib.hid nK8; replace RI := Lib.hid ((RI.out).touch htK8 ORIK8.out); replace K4 := Lib.hid ((K4.out).touch htK8 OK4K8.out); replace K5 := Lib.hid ((K5.out).touch htK8 OK5K8.out); replace K7 := Lib.hid ((K7.out).touch htK8 OK7K8.out); replace HB := Lib.hid (btouch HB.out htK8 LK8.out); clear nK8 htK8; try simp only [Act.put, List.setIfInBounds_toArray, List.set_cons_zero, List.set_cons_succ]) | (refine big_whole rfl 31 _ rfl gK4 rfl K4.out Tryd.underlying31 rfl (by kernel_rfl) ?_; try simp only [Act.put, List.setIfInBounds_toArray, List.set_cons_zero, List.set_cons_succ]))
    refine bodyPost_ret (v := .tuple #[.agg (rbA r.sent s1 s2 s3), .bool false]) (results_two rfl _ _ gK8 _ _ _ _ rfl rfl (K8).out Tryd.underlying31 rfl (by kernel_rfl)) rfl ?_
    rw [HX.out, HY.out]
    exact ⟨s3, rfl, RI.out, HB.out⟩
  · by_cases q0 : s < 0
    · have hs : inB s 0 65535 = false := inB_not.2 (by omega)
      have e0 : decide (s < 0) = true := decide_eq_true q0
      clear q0
      have HX : Hid (rkeepOk r q s = false) := by unfold rkeepOk; rw [Hid]; simp only [hq, hs]; rfl
      have HY : Hid (rkeepR r q s x0 x1 x2 = r) := by unfold rkeepR; rw [Hid, HX.out]; rfl
      go_enter Tryd.func21, Tryd.ntmps21
      go_upto_region 1 with (first | (refine big_alloc rfl 31 rfl (rbA (fun _ => 0) nilS nilS nilS) (by kernel_rfl) ?_; intro gK8 wK8 hlK8 nK8 hbK8; have K8 := Lib.hid nK8; have LK8 := Lib.hid (Nat.le_trans (HB.out).size hlK8); have ORIK8 := Lib.hid ((RI.out).off hlK8); have OK4K8 := Lib.hid ((K4.out).off hlK8); have OK5K8 := Lib.hid ((K5.out).off hlK8); have OK7K8 := Lib.hid ((K7.out).off hlK8); replace RI := Lib.hid ((RI.out).keptB hbK8); replace K4 := Lib.hid ((K4.out).keptB hbK8); replace K5 := Lib.hid ((K5.out).keptB hbK8); replace K7 := Lib.hid ((K7.out).keptB hbK8); replace HB := Lib.hid (bstep HB.out hbK8); clear hlK8 nK8 hbK8; try simp only [Act.put, List.setIfInBounds_toArray, List.set_cons_zero, List.set_cons_succ]) | (refine big_box rfl 36 _ rfl (#[.int .i64 x0, .int .i64 x1, .int .i64 x2]) rfl (by kernel_rfl) ?_; intro gK7 wK7 hlK7 nK7 hbK7; have K7 := Lib.hid nK7; have LK7 := Lib.hid (Nat.le_trans (HB.out).size hlK7); have ORIK7 := Lib.hid ((RI.out).off hlK7); have OK4K7 := Lib.hid ((K4.out).off hlK7); have OK5K7 := Lib.hid ((K5.out).off hlK7); replace RI := Lib.hid ((RI.out).keptB hbK7); replace K4 := Lib.hid ((K4.out).keptB hbK7); replace K5 := Lib.hid ((K5.out).keptB hbK7); replace HB := Lib.hid (bstep HB.out hbK7); clear hlK7 nK7 hbK7; try simp only [Act.put, List.setIfInBounds_toArray, List.set_cons_zero, List.set_cons_succ]) | (refine big_box rfl 35 _ rfl (ptA q) rfl (by kernel_rfl) ?_; intro gK5 wK5 hlK5 nK5 hbK5; have K5 := Lib.hid nK5; have LK5 := Lib.hid (Nat.le_trans (HB.out).size hlK5); have ORIK5 := Lib.hid ((RI.out).off hlK5); have OK4K5 := Lib.hid ((K4.out).off hlK5); replace RI := Lib.hid ((RI.out).keptB hbK5); replace K4 := Lib.hid ((K4.out).keptB hbK5); replace HB := Lib.hid (bstep HB.out hbK5); clear hlK5 nK5 hbK5; try simp only [Act.put, List.setIfInBounds_toArray, List.set_cons_zero, List.set_cons_succ]) | (refine big_box rfl 31 _ rfl (rbA r.sent s1 s2 s3) rfl (by kernel_rfl) ?_; intro gK4 wK4 hlK4 nK4 hbK4; have K4 := Lib.hid nK4; have LK4 := Lib.hid (Nat.le_trans (HB.out).size hlK4); have ORIK4 := Lib.hid ((RI.out).off hlK4); replace RI := Lib.hid ((RI.out).keptB hbK4); replace HB := Lib.hid (bstep HB.out hbK4); clear hlK4 nK4 hbK4; try simp only [Act.put, List.setIfInBounds_toArray, List.set_cons_zero, List.set_cons_succ]))
      go_wp2_with (first | (refine big_whole rfl 31 _ rfl gK4 rfl K4.out Tryd.underlying31 rfl (by kernel_rfl) ?_; try simp only [Act.put, List.setIfInBounds_toArray, List.set_cons_zero, List.set_cons_succ]) | (refine big_whole rfl 35 _ rfl gK5 rfl K5.out Tryd.underlying35 rfl (by kernel_rfl) ?_; try simp only [Act.put, List.setIfInBounds_toArray, List.set_cons_zero, List.set_cons_succ]))
      refine (rknown11_any r.sent s1.a s1.n s1.c s2 s3 r.S q _ (RI.out).S (by have := HS.out; have := (RI.out).S.len; omega)).mono ?_
      rintro e c1 ⟨rfl, hc1⟩
      replace RI := Lib.hid ((RI.out).keptB hc1)
      replace K4 := Lib.hid ((K4.out).keptB hc1)
      replace K5 := Lib.hid ((K5.out).keptB hc1)
      replace K7 := Lib.hid ((K7.out).keptB hc1)
      replace K8 := Lib.hid ((K8.out).keptB hc1)
      replace HB := Lib.hid (bstep HB.out hc1)
      clear hc1
      rw [hq]
      clear hq
      go_wp2_with (first | (refine big_fill rfl 31 _ _ rfl gK8 (rbA r.sent s1 s2 s3) rfl rfl K8.out (by kernel_rfl) (by kernel_rfl) (by kernel_rfl) ?_; intro vK85 nK8 htK8; replace K8 := Lib.hid nK8; replace RI := Lib.hid ((RI.out).touch htK8 ORIK8.out); replace K4 := Lib.hid ((K4.out).touch htK8 OK4K8.out); replace K5 := Lib.hid ((K5.out).touch htK8 OK5K8.out); replace K7 := Lib.hid ((K7.out).touch htK8 OK7K8.out); replace HB := Lib.hid (btouch HB.out htK8 LK8.out); clear nK8 htK8; try simp only [Act.put, List.setIfInBounds_toArray, List.set_cons_zero, List.set_cons_succ]) | (refine big_whole rfl 31 _ rfl gK4 rfl K4.out Tryd.underlying31 rfl (by kernel_rfl) ?_; try simp only [Act.put, List.setIfInBounds_toArray, List.set_cons_zero, List.set_cons_succ]))
      refine bodyPost_ret (v := .tuple #[.agg (rbA r.sent s1 s2 s3), .bool false]) (results_two rfl _ _ gK8 _ _ _ _ rfl rfl (K8).out Tryd.underlying31 rfl (by kernel_rfl)) rfl ?_
      rw [HX.out, HY.out]
      exact ⟨s3, rfl, RI.out, HB.out⟩
    · by_cases q1 : 65535 < s
      · have hs : inB s 0 65535 = false := inB_not.2 (by omega)
        have e0 : decide (s < 0) = false := decide_eq_false q0
        have e1 : decide (65535 < s) = true := decide_eq_true q1
        clear q0 q1
        have HX : Hid (rkeepOk r q s = false) := by unfold rkeepOk; rw [Hid]; simp only [hq, hs]; rfl
        have HY : Hid (rkeepR r q s x0 x1 x2 = r) := by unfold rkeepR; rw [Hid, HX.out]; rfl
        go_enter Tryd.func21, Tryd.ntmps21
        go_upto_region 1 with (first | (refine big_alloc rfl 31 rfl (rbA (fun _ => 0) nilS nilS nilS) (by kernel_rfl) ?_; intro gK8 wK8 hlK8 nK8 hbK8; have K8 := Lib.hid nK8; have LK8 := Lib.hid (Nat.le_trans (HB.out).size hlK8); have ORIK8 := Lib.hid ((RI.out).off hlK8); have OK4K8 := Lib.hid ((K4.out).off hlK8); have OK5K8 := Lib.hid ((K5.out).off hlK8); have OK7K8 := Lib.hid ((K7.out).off hlK8); replace RI := Lib.hid ((RI.out).keptB hbK8); replace K4 := Lib.hid ((K4.out).keptB hbK8); replace K5 := Lib.hid ((K5.out).keptB hbK8); replace K7 := Lib.hid ((K7.out).keptB hbK8); replace HB := Lib.hid (bstep HB.out hbK8); clear hlK8 nK8 hbK8; try simp only [Act.put, List.setIfInBounds_toArray, List.set_cons_zero, List.set_cons_succ]) | (refine big_box rfl 36 _ rfl (#[.int .i64 x0, .int .i64 x1, .int .i64 x2]) rfl (by kernel_rfl) ?_; intro gK7 wK7 hlK7 nK7 hbK7; have K7 := Lib.hid nK7; have LK7 := Lib.hid (Nat.le_trans (HB.out).size hlK7); have ORIK7 := Lib.hid ((RI.out).off hlK7); have OK4K7 := Lib.hid ((K4.out).off hlK7); have OK5K7 := Lib.hid ((K5.out).off hlK7); replace RI := Lib.hid ((RI.out).keptB hbK7); replace K4 := Lib.hid ((K4.out).keptB hbK7); replace K5 := Lib.hid ((K5.out).keptB hbK7); replace HB := Lib.hid (bstep HB.out hbK7); clear hlK7 nK7 hbK7; try simp only [Act.put, List.setIfInBounds_toArray, List.set_cons_zero, List.set_cons_succ]) | (refine big_box rfl 35 _ rfl (ptA q) rfl (by kernel_rfl) ?_; intro gK5 wK5 hlK5 nK5 hbK5; have K5 := Lib.hid nK5; have LK5 := Lib.hid (Nat.le_trans (HB.out).size hlK5); have ORIK5 := Lib.hid ((RI.out).off hlK5); have OK4K5 := Lib.hid ((K4.out).off hlK5); replace RI := Lib.hid ((RI.out).keptB hbK5); replace K4 := Lib.hid ((K4.out).keptB hbK5); replace HB := Lib.hid (bstep HB.out hbK5); clear hlK5 nK5 hbK5; try simp only [Act.put, List.setIfInBounds_toArray, List.set_cons_zero, List.set_cons_succ]) | (refine big_box rfl 31 _ rfl (rbA r.sent s1 s2 s3) rfl (by kernel_rfl) ?_; intro gK4 wK4 hlK4 nK4 hbK4; have K4 := Lib.hid nK4; have LK4 := Lib.hid (Nat.le_trans (HB.out).size hlK4); have ORIK4 := Lib.hid ((RI.out).off hlK4); replace RI := Lib.hid ((RI.out).keptB hbK4); replace HB := Lib.hid (bstep HB.out hbK4); clear hlK4 nK4 hbK4; try simp only [Act.put, List.setIfInBounds_toArray, List.set_cons_zero, List.set_cons_succ]))
        go_wp2_with (first | (refine big_whole rfl 31 _ rfl gK4 rfl K4.out Tryd.underlying31 rfl (by kernel_rfl) ?_; try simp only [Act.put, List.setIfInBounds_toArray, List.set_cons_zero, List.set_cons_succ]) | (refine big_whole rfl 35 _ rfl gK5 rfl K5.out Tryd.underlying35 rfl (by kernel_rfl) ?_; try simp only [Act.put, List.setIfInBounds_toArray, List.set_cons_zero, List.set_cons_succ]))
        refine (rknown11_any r.sent s1.a s1.n s1.c s2 s3 r.S q _ (RI.out).S (by have := HS.out; have := (RI.out).S.len; omega)).mono ?_
        rintro e c1 ⟨rfl, hc1⟩
        replace RI := Lib.hid ((RI.out).keptB hc1)
        replace K4 := Lib.hid ((K4.out).keptB hc1)
        replace K5 := Lib.hid ((K5.out).keptB hc1)
        replace K7 := Lib.hid ((K7.out).keptB hc1)
        replace K8 := Lib.hid ((K8.out).keptB hc1)
        replace HB := Lib.hid (bstep HB.out hc1)
        clear hc1
        rw [hq]
        clear hq
        go_wp2_with (first | (refine big_fill rfl 31 _ _ rfl gK8 (rbA r.sent s1 s2 s3) rfl rfl K8.out (by kernel_rfl) (by kernel_rfl) (by kernel_rfl) ?_; intro vK85 nK8 htK8; replace K8 := Lib.hid nK8; replace RI := Lib.hid ((RI.out).touch htK8 ORIK8.out); replace K4 := Lib.hid ((K4.out).touch htK8 OK4K8.out); replace K5 := Lib.hid ((K5.out).touch htK8 OK5K8.out); replace K7 := Lib.hid ((K7.out).touch htK8 OK7K8.out); replace HB := Lib.hid (btouch HB.out htK8 LK8.out); clear nK8 htK8; try simp only [Act.put, List.setIfInBounds_toArray, List.set_cons_zero, List.set_cons_succ]) | (refine big_whole rfl 31 _ rfl gK4 rfl K4.out Tryd.underlying31 rfl (by kernel_rfl) ?_; try simp only [Act.put, List.setIfInBounds_toArray, List.set_cons_zero, List.set_cons_succ]))
        refine bodyPost_ret (v := .tuple #[.agg (rbA r.sent s1 s2 s3), .bool false]) (results_two rfl _ _ gK8 _ _ _ _ rfl rfl (K8).out Tryd.underlying31 rfl (by kernel_rfl)) rfl ?_
        rw [HX.out, HY.out]
        exact ⟨s3, rfl, RI.out, HB.out⟩
      · have e0 : decide (s < 0) = false := decide_eq_false q0
        have e1 : decide (65535 < s) = false := decide_eq_false q1
        have hs : inB s 0 65535 = true := inB_iff.2 ⟨by omega, by omega⟩
        have HX : Hid (rkeepOk r q s = true) := by unfold rkeepOk; rw [Hid, hq, hs]; rfl
        have HY : Hid (rkeepR r q s x0 x1 x2 = ⟨r.sent, r.S, r.L, noH r.H q ++ [⟨q, s, x0, x1, x2⟩]⟩) := by unfold rkeepR; rw [Hid, HX.out]; rfl
        clear hs q0 q1
        go_enter Tryd.func21, Tryd.ntmps21
        go_upto_region 1 with (first | (refine big_alloc rfl 31 rfl (rbA (fun _ => 0) nilS nilS nilS) (by kernel_rfl) ?_; intro gK8 wK8 hlK8 nK8 hbK8; have K8 := Lib.hid nK8; have LK8 := Lib.hid (Nat.le_trans (HB.out).size hlK8); have ORIK8 := Lib.hid ((RI.out).off hlK8); have OK4K8 := Lib.hid ((K4.out).off hlK8); have OK5K8 := Lib.hid ((K5.out).off hlK8); have OK7K8 := Lib.hid ((K7.out).off hlK8); replace RI := Lib.hid ((RI.out).keptB hbK8); replace K4 := Lib.hid ((K4.out).keptB hbK8); replace K5 := Lib.hid ((K5.out).keptB hbK8); replace K7 := Lib.hid ((K7.out).keptB hbK8); replace HB := Lib.hid (bstep HB.out hbK8); clear hlK8 nK8 hbK8; try simp only [Act.put, List.setIfInBounds_toArray, List.set_cons_zero, List.set_cons_succ]) | (refine big_box rfl 36 _ rfl (#[.int .i64 x0, .int .i64 x1, .int .i64 x2]) rfl (by kernel_rfl) ?_; intro gK7 wK7 hlK7 nK7 hbK7; have K7 := Lib.hid nK7; have LK7 := Lib.hid (Nat.le_trans (HB.out).size hlK7); have ORIK7 := Lib.hid ((RI.out).off hlK7); have OK4K7 := Lib.hid ((K4.out).off hlK7); have OK5K7 := Lib.hid ((K5.out).off hlK7); replace RI := Lib.hid ((RI.out).keptB hbK7); replace K4 := Lib.hid ((K4.out).keptB hbK7); replace K5 := Lib.hid ((K5.out).keptB hbK7); replace HB := Lib.hid (bstep HB.out hbK7); clear hlK7 nK7 hbK7; try simp only [Act.put, List.setIfInBounds_toArray, List.set_cons_zero, List.set_cons_succ]) | (refine big_box rfl 35 _ rfl (ptA q) rfl (by kernel_rfl) ?_; intro gK5 wK5 hlK5 nK5 hbK5; have K5 := Lib.hid nK5; have LK5 := Lib.hid (Nat.le_trans (HB.out).size hlK5); have ORIK5 := Lib.hid ((RI.out).off hlK5); have OK4K5 := Lib.hid ((K4.out).off hlK5); replace RI := Lib.hid ((RI.out).keptB hbK5); replace K4 := Lib.hid ((K4.out).keptB hbK5); replace HB := Lib.hid (bstep HB.out hbK5); clear hlK5 nK5 hbK5; try simp only [Act.put, List.setIfInBounds_toArray, List.set_cons_zero, List.set_cons_succ]) | (refine big_box rfl 31 _ rfl (rbA r.sent s1 s2 s3) rfl (by kernel_rfl) ?_; intro gK4 wK4 hlK4 nK4 hbK4; have K4 := Lib.hid nK4; have LK4 := Lib.hid (Nat.le_trans (HB.out).size hlK4); have ORIK4 := Lib.hid ((RI.out).off hlK4); replace RI := Lib.hid ((RI.out).keptB hbK4); replace HB := Lib.hid (bstep HB.out hbK4); clear hlK4 nK4 hbK4; try simp only [Act.put, List.setIfInBounds_toArray, List.set_cons_zero, List.set_cons_succ]))
        go_wp2_with (first | (refine big_whole rfl 31 _ rfl gK4 rfl K4.out Tryd.underlying31 rfl (by kernel_rfl) ?_; try simp only [Act.put, List.setIfInBounds_toArray, List.set_cons_zero, List.set_cons_succ]) | (refine big_whole rfl 35 _ rfl gK5 rfl K5.out Tryd.underlying35 rfl (by kernel_rfl) ?_; try simp only [Act.put, List.setIfInBounds_toArray, List.set_cons_zero, List.set_cons_succ]))
        refine (rknown11_any r.sent s1.a s1.n s1.c s2 s3 r.S q _ (RI.out).S (by have := HS.out; have := (RI.out).S.len; omega)).mono ?_
        rintro e c1 ⟨rfl, hc1⟩
        replace RI := Lib.hid ((RI.out).keptB hc1)
        replace K4 := Lib.hid ((K4.out).keptB hc1)
        replace K5 := Lib.hid ((K5.out).keptB hc1)
        replace K7 := Lib.hid ((K7.out).keptB hc1)
        replace K8 := Lib.hid ((K8.out).keptB hc1)
        replace HB := Lib.hid (bstep HB.out hc1)
        clear hc1
        rw [hq]
        clear hq
        go_wp2_with (first | (refine big_whole rfl 31 _ rfl gK4 rfl K4.out Tryd.underlying31 rfl (by kernel_rfl) ?_; try simp only [Act.put, List.setIfInBounds_toArray, List.set_cons_zero, List.set_cons_succ]) | (refine big_whole rfl 35 _ rfl gK5 rfl K5.out Tryd.underlying35 rfl (by kernel_rfl) ?_; try simp only [Act.put, List.setIfInBounds_toArray, List.set_cons_zero, List.set_cons_succ]))
        obtain ⟨B, hB⟩ := size_isH K4
        have LBK4 := Lib.hid (show gK4 < B by rw [← hB]; exact (K4.out).inside)
        have LBK5 := Lib.hid (show gK5 < B by rw [← hB]; exact (K5.out).inside)
        have LBK7 := Lib.hid (show gK7 < B by rw [← hB]; exact (K7.out).inside)
        have LBK8 := Lib.hid (show gK8 < B by rw [← hB]; exact (K8.out).inside)
        have LBRI := Lib.hid ((RI.out).low (Nat.le_of_eq hB))
        have HWB := Lib.hid (show w.heap.size ≤ B by rw [← hB]; exact (HB.out).size)
        refine (rwithout11_any r.sent s1 s2 s3.a s3.n s3.c r.H q _ (RI.out).H (by have := HH.out; have := (RI.out).H.len; omega)).mono ?_
        rintro e c9 ⟨x, rfl, how, hc9⟩
        rw [hB] at how
        clear hB
        have OW := Lib.hid how
        replace RI := Lib.hid ((RI.out).keptB hc9)
        replace K4 := Lib.hid ((K4.out).keptB hc9)
        replace K5 := Lib.hid ((K5.out).keptB hc9)
        replace K7 := Lib.hid ((K7.out).keptB hc9)
        replace K8 := Lib.hid ((K8.out).keptB hc9)
        replace HB := Lib.hid (bstep HB.out hc9)
        clear how hc9
        have HLE : Hid ((noH r.H q).length ≤ 10000) := Nat.le_trans (noH_le _ _) HH.out
        go_upto_region 4 with ((refine big_fill rfl 31 _ _ rfl gK4 (rbA r.sent s1 s2 x) rfl rfl K4.out (by kernel_rfl) (by kernel_rfl) (by kernel_rfl) ?_; intro vK41 nK4 htK4; replace OW := Lib.hid ((OW.out).touch htK4 ((OW.out).ne LBK4.out)); replace K4 := Lib.hid nK4; replace RI := Lib.hid ((RI.out).touch htK4 ORIK4.out); replace K5 := Lib.hid ((K5.out).touch htK4 (Ne.symm OK4K5.out)); replace K7 := Lib.hid ((K7.out).touch htK4 (Ne.symm OK4K7.out)); replace K8 := Lib.hid ((K8.out).touch htK4 (Ne.symm OK4K8.out)); replace HB := Lib.hid (btouch HB.out htK4 LK4.out); clear nK4 htK4; try simp only [Act.put, List.setIfInBounds_toArray, List.set_cons_zero, List.set_cons_succ]))
        have x18 := (K4.out).reads (i := 18) (x := .slice x.a x.n x.c) rfl
        go_upto_region 5 with (first | (refine big_set rfl 29 _ _ rfl gK4 18 (.slice A2 n2 c2) rfl rfl K4.out (by kernel_rfl) rfl rfl (of_decide_eq_true (by kernel_rfl)) (rbA r.sent s1 s2 ⟨A2, n2, c2⟩) (by kernel_rfl) ?_; intro vK42 nK4 htK4; replace OW := Lib.hid ((OW.out).touch htK4 ((OW.out).ne LBK4.out)); replace K4 := Lib.hid nK4; replace RI := Lib.hid ((RI.out).touch htK4 ORIK4.out); replace K5 := Lib.hid ((K5.out).touch htK4 (Ne.symm OK4K5.out)); replace K7 := Lib.hid ((K7.out).touch htK4 (Ne.symm OK4K7.out)); replace K8 := Lib.hid ((K8.out).touch htK4 (Ne.symm OK4K8.out)); replace HB := Lib.hid (btouch HB.out htK4 LK4.out); clear nK4 htK4; try simp only [Act.put, List.setIfInBounds_toArray, List.set_cons_zero, List.set_cons_succ]) | (refine big_append rfl _ _ 29 80 rfl _ 13 48 Tryd.underlying29 info_rh rfl (by omega) (by omega) B rfl OW.out gK9 1 (rhA ⟨q, s, x0, x1, x2⟩).toList rfl rfl ((K9.out).range (by kernel_rfl)) (by kernel_rfl) (by omega) (by have := HLE.out; omega) ?_; intro x2 w9 ow9 hg9 hn9; obtain ⟨A2, n2, c2, rfl⟩ := ow9.form_; replace RI := Lib.hid ((RI.out).grown hg9 LBRI.out (fun b hb => (OW.out).ne hb)); replace K4 := Lib.hid ((K4.out).grown hg9 ((OW.out).ne LBK4.out)); replace K5 := Lib.hid ((K5.out).grown hg9 ((OW.out).ne LBK5.out)); replace K7 := Lib.hid ((K7.out).grown hg9 ((OW.out).ne LBK7.out)); replace K8 := Lib.hid ((K8.out).grown hg9 ((OW.out).ne LBK8.out)); replace HB := Lib.hid ((OW.out).hb HWB.out HB.out hg9); replace OW := Lib.hid ow9; clear ow9 hg9 hn9 K9; try simp only [Act.put, List.setIfInBounds_toArray, List.set_cons_zero, List.set_cons_succ]) | (refine big_slices rfl 29 80 1 _ rfl (rhA ⟨q, s, x0, x1, x2⟩) 13 Tryd.underlying29 rfl rfl rfl (of_decide_eq_true (by kernel_rfl)) (of_decide_eq_true (by kernel_rfl)) (by kernel_rfl) ?_; intro gK9 wK9 hlK9 nK9 hbK9; have K9 := Lib.hid nK9; replace OW := Lib.hid ((OW.out).keptB hbK9); replace RI := Lib.hid ((RI.out).keptB hbK9); replace K4 := Lib.hid ((K4.out).keptB hbK9); replace K5 := Lib.hid ((K5.out).keptB hbK9); replace K7 := Lib.hid ((K7.out).keptB hbK9); replace K8 := Lib.hid ((K8.out).keptB hbK9); replace HB := Lib.hid (bstep HB.out hbK9); clear hlK9 nK9 hbK9; try simp only [Act.put, List.setIfInBounds_toArray, List.set_cons_zero, List.set_cons_succ]) | (refine big_build rfl 80 _ rfl (rhA ⟨q, s, x0, x1, x2⟩) (by kernel_rfl) ?_; try simp only [Act.put, List.setIfInBounds_toArray, List.set_cons_zero, List.set_cons_succ]) | (refine big_whole rfl 35 _ rfl gK5 rfl K5.out Tryd.underlying35 rfl (by kernel_rfl) ?_; try simp only [Act.put, List.setIfInBounds_toArray, List.set_cons_zero, List.set_cons_succ]) | (refine big_whole rfl 36 _ rfl gK7 rfl K7.out Tryd.underlying36 rfl (by kernel_rfl) ?_; try simp only [Act.put, List.setIfInBounds_toArray, List.set_cons_zero, List.set_cons_succ]))
        go_wp2_with (first | (refine big_fill rfl 31 _ _ rfl gK8 (rbA r.sent s1 s2 ⟨A2, n2, c2⟩) rfl rfl K8.out (by kernel_rfl) (by kernel_rfl) (by kernel_rfl) ?_; intro vK83 nK8 htK8; replace OW := Lib.hid ((OW.out).touch htK8 ((OW.out).ne LBK8.out)); replace K8 := Lib.hid nK8; replace RI := Lib.hid ((RI.out).touch htK8 ORIK8.out); replace K4 := Lib.hid ((K4.out).touch htK8 OK4K8.out); replace K5 := Lib.hid ((K5.out).touch htK8 OK5K8.out); replace K7 := Lib.hid ((K7.out).touch htK8 OK7K8.out); replace HB := Lib.hid (btouch HB.out htK8 LK8.out); clear nK8 htK8; try simp only [Act.put, List.setIfInBounds_toArray, List.set_cons_zero, List.set_cons_succ]) | (refine big_whole rfl 31 _ rfl gK4 rfl K4.out Tryd.underlying31 rfl (by kernel_rfl) ?_; try simp only [Act.put, List.setIfInBounds_toArray, List.set_cons_zero, List.set_cons_succ]))
        refine bodyPost_ret (v := .tuple #[.agg (rbA r.sent s1 s2 ⟨A2, n2, c2⟩), .bool true]) (results_two rfl _ _ gK8 _ _ _ _ rfl rfl (K8).out Tryd.underlying31 rfl (by kernel_rfl)) rfl ?_
        rw [HX.out, HY.out]
        exact ⟨⟨A2, n2, c2⟩, rfl, ⟨(RI.out).S, (RI.out).L, (rh_snoc OW.out).rows⟩, HB.out⟩

end Go.Proofs.YtpbfnmokhmioaaaDoor
