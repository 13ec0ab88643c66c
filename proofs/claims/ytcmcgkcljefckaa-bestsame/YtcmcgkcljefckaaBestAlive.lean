/- The walk over the laws' own alive (layer 9). -/
import Derived.Test.YtcmcgkcljefckaaBestPlain
import Derived.Deep.DeepCutAuto
import Derived.Deep.LoopGhost
import Derived.WalkMore
namespace Go.Proofs.Ytcmcgkcljefckaa
set_option maxRecDepth 100000
open Go.RowKit
set_option linter.unusedVariables false
set_option linter.unusedSimpArgs false

def setV9 : Rs := ⟨3, 0, 0, 0, 0, ⟨1, 0, 0, 0, 0, 0, 0, 0⟩, 0, ⟨⟨0, 0, 0, 0, 0, 0, 0, 0⟩, 0⟩, ⟨⟨0, 0, 0, 0, 0, 0, 0, 0⟩, 0⟩⟩
def portV9 : Pt := ⟨⟨0, 0, 0, 0, 0, 0, 0, 0⟩, 2⟩
def choiceV9 : Ch := ⟨setV9, true⟩
def bestV9 : Ch := ⟨recv portV9 setV9, true⟩
theorem ckV9 : Ck.ok ⟨0, 0, 0, 0, 0, 0, 0, 0⟩ := by unfold Ck.ok Ck.l isByte; decide
theorem setV9_ok : setV9.ok := ⟨by show Ck.ok ⟨1, 0, 0, 0, 0, 0, 0, 0⟩; unfold Ck.ok Ck.l isByte; decide, ckV9, ckV9, by decide, by decide⟩
theorem zeroR9_ok : zeroR.ok := ⟨ckV9, ckV9, ckV9, by decide, by decide⟩
theorem portV9_best : portN [setV9] portV9 = bestV9 := by kernel_rfl
theorem allV9 : allN [zeroCh, choiceV9, zeroCh] = 1 := by kernel_rfl
theorem betterV9 : betterB choiceV9 zeroCh = true := by kernel_rfl
theorem worseV9 : betterB zeroCh choiceV9 = false := by kernel_rfl
theorem rowV9 {w : World} {g : Nat} {t : TypeId} {l : List Ch} {n : Nat} (h : Holds w g t (chsA l)) (hn : l.length = n) : ChsIn w (.slice (some ⟨g, 0, none⟩) n n) l := ⟨_, _, _, rfl, hn, fun _ => ⟨g, 0, rfl, chs_at h⟩⟩
theorem rowR9 {w : World} {g : Nat} {t : TypeId} {l : List Rs} {n : Nat} (h : Holds w g t (setsA l)) (hn : l.length = n) : SetsIn w (.slice (some ⟨g, 0, none⟩) n n) l := ⟨_, _, _, rfl, hn, fun _ => ⟨g, 0, rfl, sets_at h⟩⟩
theorem nilV9 (w : World) : ChsIn w (.slice none 0 0) [] := ⟨_, _, _, rfl, rfl, fun h => absurd h (by omega)⟩
set_option maxHeartbeats 4000000 in
theorem alive9_any  (w : World) :
    Calls Try.prog 9 #[] w fun e w' => e = .returned (.bool true) ∧ Below w.heap.size w w' := by
  have HB := Lib.hid (Below.refl w.heap.size w)
  go_enter Try.func9, Try.ntmps9
  go_upto_region 2 with (first | (refine big_fill rfl 34 _ _ rfl gK1 (chA choiceV9) rfl rfl K1.out (by kernel_rfl) (by kernel_rfl) (by kernel_rfl) ?_; intro vK10 nK1 htK1; replace K1 := Lib.hid nK1; replace HB := Lib.hid (btouch HB.out htK1 LK1.out); clear nK1 htK1) | (refine big_alloc rfl 34 rfl (chA zeroCh) (by kernel_rfl) ?_; intro gK1 wK1 hlK1 nK1 hbK1; have K1 := Lib.hid nK1; have LK1 := Lib.hid (Nat.le_trans (HB.out).size hlK1); replace HB := Lib.hid (bstep HB.out hbK1); clear hlK1 nK1 hbK1) | (refine big_build rfl 34 _ rfl (chA choiceV9) (by kernel_rfl) ?_) | (refine big_build rfl 31 _ rfl (rsA setV9) (by kernel_rfl) ?_) | (refine big_build rfl 24 _ rfl (#[.int .u8 1, .int .u8 0, .int .u8 0, .int .u8 0, .int .u8 0, .int .u8 0, .int .u8 0, .int .u8 0]) (by kernel_rfl) ?_))
  go_wp2_with (first | (refine big_slices rfl 22 31 1 _ rfl (setsA [setV9]) 32 Try.underlying22 rfl rfl rfl (of_decide_eq_true (by kernel_rfl)) (of_decide_eq_true (by kernel_rfl)) (by kernel_rfl) ?_; intro gK9 wK9 hlK9 nK9 hbK9; have K9 := Lib.hid nK9; replace K1 := Lib.hid ((K1.out).keptB hbK9); replace HB := Lib.hid (bstep HB.out hbK9); clear hlK9 nK9 hbK9) | (refine big_build rfl 26 _ rfl (ptA portV9) (by kernel_rfl) ?_) | (refine big_load rfl 31 _ rfl gK1 0 rfl K1.out [.int .i64 setV9.p1, .int .i64 setV9.p2, .int .i64 setV9.q1, .int .i64 setV9.q2, .int .i64 setV9.q3, .int .u8 setV9.gr.b0, .int .u8 setV9.gr.b1, .int .u8 setV9.gr.b2, .int .u8 setV9.gr.b3, .int .u8 setV9.gr.b4, .int .u8 setV9.gr.b5, .int .u8 setV9.gr.b6, .int .u8 setV9.gr.b7, .int .i64 setV9.st, .int .u8 setV9.sn.c.b0, .int .u8 setV9.sn.c.b1, .int .u8 setV9.sn.c.b2, .int .u8 setV9.sn.c.b3, .int .u8 setV9.sn.c.b4, .int .u8 setV9.sn.c.b5, .int .u8 setV9.sn.c.b6, .int .u8 setV9.sn.c.b7, .int .i64 setV9.sn.n, .int .u8 setV9.rc.c.b0, .int .u8 setV9.rc.c.b1, .int .u8 setV9.rc.c.b2, .int .u8 setV9.rc.c.b3, .int .u8 setV9.rc.c.b4, .int .u8 setV9.rc.c.b5, .int .u8 setV9.rc.c.b6, .int .u8 setV9.rc.c.b7, .int .i64 setV9.rc.n] rfl Try.underlying31 rfl (by kernel_rfl) ?_))
  refine (pport9_any (some ⟨gK9, 0, none⟩) 1 1 [setV9] portV9 _ (by intro s hs; rw [List.mem_singleton.1 hs]; exact setV9_ok) (by omega) ckV9 (rowR9 K9.out rfl)).mono ?_
  rintro e c1 ⟨rfl, hc1⟩
  replace K1 := Lib.hid ((K1.out).keptB hc1)
  replace HB := Lib.hid (bstep HB.out hc1)
  clear hc1
  clear K9
  rw [portV9_best]
  go_upto_region 3 with (first | (refine big_fill rfl 34 _ _ rfl gK2 (chA bestV9) rfl rfl K2.out (by kernel_rfl) (by kernel_rfl) (by kernel_rfl) ?_; intro vK20 nK2 htK2; replace K2 := Lib.hid nK2; replace K1 := Lib.hid ((K1.out).touch htK2 OK1K2.out); replace HB := Lib.hid (btouch HB.out htK2 LK2.out); clear nK2 htK2) | (refine big_alloc rfl 34 rfl (chA zeroCh) (by kernel_rfl) ?_; intro gK2 wK2 hlK2 nK2 hbK2; have K2 := Lib.hid nK2; have LK2 := Lib.hid (Nat.le_trans (HB.out).size hlK2); have OK1K2 := Lib.hid ((K1.out).off hlK2); replace K1 := Lib.hid ((K1.out).keptB hbK2); replace HB := Lib.hid (bstep HB.out hbK2); clear hlK2 nK2 hbK2))
  have x32 := (K2.out).reads (i := 32) (x := .bool true) rfl
  clear x32
  go_wp2_with (first | (refine big_slices rfl 40 34 3 _ rfl (chsA [zeroCh, choiceV9, zeroCh]) 33 Try.underlying40 rfl rfl rfl (of_decide_eq_true (by kernel_rfl)) (of_decide_eq_true (by kernel_rfl)) (by kernel_rfl) ?_; intro gK9 wK9 hlK9 nK9 hbK9; have K9 := Lib.hid nK9; replace K1 := Lib.hid ((K1.out).keptB hbK9); replace K2 := Lib.hid ((K2.out).keptB hbK9); replace HB := Lib.hid (bstep HB.out hbK9); clear hlK9 nK9 hbK9) | (refine big_build rfl 34 _ rfl (chA zeroCh) (by kernel_rfl) ?_) | (refine big_whole rfl 34 _ rfl gK1 rfl K1.out Try.underlying34 rfl (by kernel_rfl) ?_))
  refine (pall9_in _ [zeroCh, choiceV9, zeroCh] _ (by intro s hs; rcases List.mem_cons.1 hs with rfl | hs; exact zeroR9_ok; rcases List.mem_cons.1 hs with rfl | hs; exact setV9_ok; rw [List.mem_singleton.1 hs]; exact zeroR9_ok) (by decide) (rowV9 K9.out rfl)).mono ?_
  rintro e c2 ⟨rfl, hc2⟩
  replace K1 := Lib.hid ((K1.out).keptB hc2)
  replace K2 := Lib.hid ((K2.out).keptB hc2)
  replace HB := Lib.hid (bstep HB.out hc2)
  clear hc2
  clear K9
  rw [allV9]
  go_wp2_with fail
  refine (pall9_in _ [] _ (by simp) (by simp) (nilV9 _)).mono ?_
  rintro e c3 ⟨rfl, hc3⟩
  replace K1 := Lib.hid ((K1.out).keptB hc3)
  replace K2 := Lib.hid ((K2.out).keptB hc3)
  replace HB := Lib.hid (bstep HB.out hc3)
  clear hc3
  rw [show allN [] = -1 from rfl]
  go_wp2_with (first | (refine big_build rfl 34 _ rfl (chA zeroCh) (by kernel_rfl) ?_) | (refine big_whole rfl 34 _ rfl gK1 rfl K1.out Try.underlying34 rfl (by kernel_rfl) ?_))
  refine (pbetter9_any choiceV9 zeroCh _ setV9_ok zeroR9_ok).mono ?_
  rintro e c4 ⟨rfl, hc4⟩
  replace K1 := Lib.hid ((K1.out).keptB hc4)
  replace K2 := Lib.hid ((K2.out).keptB hc4)
  replace HB := Lib.hid (bstep HB.out hc4)
  clear hc4
  rw [betterV9]
  go_wp2_with (first | (refine big_build rfl 34 _ rfl (chA zeroCh) (by kernel_rfl) ?_) | (refine big_whole rfl 34 _ rfl gK1 rfl K1.out Try.underlying34 rfl (by kernel_rfl) ?_))
  refine (pbetter9_any zeroCh choiceV9 _ zeroR9_ok setV9_ok).mono ?_
  rintro e c5 ⟨rfl, hc5⟩
  replace K1 := Lib.hid ((K1.out).keptB hc5)
  replace K2 := Lib.hid ((K2.out).keptB hc5)
  replace HB := Lib.hid (bstep HB.out hc5)
  clear hc5
  rw [worseV9]
  have x32 := (K2.out).reads (i := 32) (x := .bool true) rfl
  have x31 := (K2.out).reads (i := 31) (x := .int .i64 2) rfl
  go_wp2
  go_ret
  exact ⟨rfl, HB.out⟩

end Go.Proofs.Ytcmcgkcljefckaa
