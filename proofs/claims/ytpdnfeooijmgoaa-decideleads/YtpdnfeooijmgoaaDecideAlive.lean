/- The walks over the laws' own alive, own, ints (layer 10). -/
import Derived.Test.YtpdnfeooijmgoaaDecidePlain
import Derived.Deep.DeepCutAuto
import Derived.Deep.LoopGhost
import Derived.WalkMore
namespace Go.Proofs.Ytpdnfeooijmgoaa
set_option maxRecDepth 100000
open Go.RowKit
set_option linter.unusedVariables false
set_option linter.unusedSimpArgs false

def meV10 : Rs := ⟨5, 0, 248, 0, 0, ⟨9, 0, 0, 0, 0, 0, 0, 0⟩, 0, ⟨⟨0, 0, 0, 0, 0, 0, 0, 0⟩, 0⟩, ⟨⟨0, 0, 0, 0, 0, 0, 0, 0⟩, 0⟩⟩
def cV10 : Ch := ⟨⟨1, 0, 0, 0, 0, ⟨1, 0, 0, 0, 0, 0, 0, 0⟩, 0, ⟨⟨0, 0, 0, 0, 0, 0, 0, 0⟩, 0⟩, ⟨⟨0, 0, 0, 0, 0, 0, 0, 0⟩, 0⟩⟩, true⟩
theorem ckV10 : Ck.ok ⟨0, 0, 0, 0, 0, 0, 0, 0⟩ := by unfold Ck.ok Ck.l isByte; decide
theorem meV10_ok : meV10.ok := ⟨by show Ck.ok ⟨9, 0, 0, 0, 0, 0, 0, 0⟩; unfold Ck.ok Ck.l isByte; decide, ckV10, ckV10, by decide, by decide⟩
theorem cV10_ok : cV10.s.ok := ⟨by show Ck.ok ⟨1, 0, 0, 0, 0, 0, 0, 0⟩; unfold Ck.ok Ck.l isByte; decide, ckV10, ckV10, by decide, by decide⟩
theorem zeroR10_ok : zeroR.ok := ⟨ckV10, ckV10, ckV10, by decide, by decide⟩
theorem oneV10 : decideN meV10 [cV10, zeroCh] 0 4 = 4 := by kernel_rfl
theorem twoV10 : decideN meV10 [cV10, zeroCh] 1 4 = 0 := by kernel_rfl
theorem threeV10 : decideN meV10 [zeroCh] 0 6 = 2 := by kernel_rfl
theorem fourV10 : mastersN [1, 2, 3, 4] = 3 := by kernel_rfl
theorem rowV10 {w : World} {g : Nat} {t : TypeId} {l : List Ch} {n : Nat} (h : Holds w g t (chsA l)) (hn : l.length = n) : ChsIn w (.slice (some ⟨g, 0, none⟩) n n) l := ⟨_, _, _, rfl, hn, fun _ => ⟨g, 0, rfl, chs_at h⟩⟩
theorem okV10 : ∀ s ∈ [cV10, zeroCh], s.s.ok := by intro s hs; rcases List.mem_cons.1 hs with rfl | hs; exact cV10_ok; rw [List.mem_singleton.1 hs]; exact zeroR10_ok
theorem okV11 : ∀ s ∈ [zeroCh], s.s.ok := by intro s hs; rw [List.mem_singleton.1 hs]; exact zeroR10_ok
set_option maxHeartbeats 4000000 in
theorem alive10_any  (w : World) :
    Calls Try.prog 9 #[] w fun e w' => e = .returned (.bool true) ∧ Below w.heap.size w w' := by
  have HB := Lib.hid (Below.refl w.heap.size w)
  go_enter Try.func9, Try.ntmps9
  go_upto_region 2 with (first | (refine big_fill rfl 29 _ _ rfl gK1 (rsA meV10) rfl rfl K1.out (by kernel_rfl) (by kernel_rfl) (by kernel_rfl) ?_; intro vK10 nK1 htK1; replace K1 := Lib.hid nK1; replace HB := Lib.hid (btouch HB.out htK1 LK1.out); clear nK1 htK1; try simp only [Act.put, List.setIfInBounds_toArray, List.set_cons_zero, List.set_cons_succ]) | (refine big_alloc rfl 29 rfl (rsA zeroR) (by kernel_rfl) ?_; intro gK1 wK1 hlK1 nK1 hbK1; have K1 := Lib.hid nK1; have LK1 := Lib.hid (Nat.le_trans (HB.out).size hlK1); replace HB := Lib.hid (bstep HB.out hbK1); clear hlK1 nK1 hbK1; try simp only [Act.put, List.setIfInBounds_toArray, List.set_cons_zero, List.set_cons_succ]) | (refine big_build rfl 29 _ rfl (rsA meV10) (by kernel_rfl) ?_; try simp only [Act.put, List.setIfInBounds_toArray, List.set_cons_zero, List.set_cons_succ]) | (refine big_build rfl 25 _ rfl (#[.int .u8 9, .int .u8 0, .int .u8 0, .int .u8 0, .int .u8 0, .int .u8 0, .int .u8 0, .int .u8 0]) (by kernel_rfl) ?_; try simp only [Act.put, List.setIfInBounds_toArray, List.set_cons_zero, List.set_cons_succ]))
  go_upto_region 3 with (first | (refine big_fill rfl 47 _ _ rfl gK2 (chA cV10) rfl rfl K2.out (by kernel_rfl) (by kernel_rfl) (by kernel_rfl) ?_; intro vK20 nK2 htK2; replace K2 := Lib.hid nK2; replace K1 := Lib.hid ((K1.out).touch htK2 OK1K2.out); replace HB := Lib.hid (btouch HB.out htK2 LK2.out); clear nK2 htK2; try simp only [Act.put, List.setIfInBounds_toArray, List.set_cons_zero, List.set_cons_succ]) | (refine big_alloc rfl 47 rfl (chA zeroCh) (by kernel_rfl) ?_; intro gK2 wK2 hlK2 nK2 hbK2; have K2 := Lib.hid nK2; have LK2 := Lib.hid (Nat.le_trans (HB.out).size hlK2); have OK1K2 := Lib.hid ((K1.out).off hlK2); replace K1 := Lib.hid ((K1.out).keptB hbK2); replace HB := Lib.hid (bstep HB.out hbK2); clear hlK2 nK2 hbK2; try simp only [Act.put, List.setIfInBounds_toArray, List.set_cons_zero, List.set_cons_succ]) | (refine big_build rfl 47 _ rfl (chA cV10) (by kernel_rfl) ?_; try simp only [Act.put, List.setIfInBounds_toArray, List.set_cons_zero, List.set_cons_succ]) | (refine big_build rfl 29 _ rfl (rsA cV10.s) (by kernel_rfl) ?_; try simp only [Act.put, List.setIfInBounds_toArray, List.set_cons_zero, List.set_cons_succ]) | (refine big_build rfl 25 _ rfl (#[.int .u8 1, .int .u8 0, .int .u8 0, .int .u8 0, .int .u8 0, .int .u8 0, .int .u8 0, .int .u8 0]) (by kernel_rfl) ?_; try simp only [Act.put, List.setIfInBounds_toArray, List.set_cons_zero, List.set_cons_succ]))
  go_wp2_with (first | (refine big_slices rfl 34 47 2 _ rfl (chsA [cV10, zeroCh]) 33 Try.underlying34 rfl rfl rfl (of_decide_eq_true (by kernel_rfl)) (of_decide_eq_true (by kernel_rfl)) (by kernel_rfl) ?_; intro gK9 wK9 hlK9 nK9 hbK9; have K9 := Lib.hid nK9; replace K1 := Lib.hid ((K1.out).keptB hbK9); replace K2 := Lib.hid ((K2.out).keptB hbK9); replace HB := Lib.hid (bstep HB.out hbK9); clear hlK9 nK9 hbK9; try simp only [Act.put, List.setIfInBounds_toArray, List.set_cons_zero, List.set_cons_succ]) | (refine big_build rfl 47 _ rfl (chA zeroCh) (by kernel_rfl) ?_; try simp only [Act.put, List.setIfInBounds_toArray, List.set_cons_zero, List.set_cons_succ]) | (refine big_whole rfl 47 _ rfl gK2 rfl K2.out Try.underlying47 rfl (by kernel_rfl) ?_; try simp only [Act.put, List.setIfInBounds_toArray, List.set_cons_zero, List.set_cons_succ]) | (refine big_whole rfl 29 _ rfl gK1 rfl K1.out Try.underlying29 rfl (by kernel_rfl) ?_; try simp only [Act.put, List.setIfInBounds_toArray, List.set_cons_zero, List.set_cons_succ]))
  refine (pdport10_any meV10 _ [cV10, zeroCh] 0 4 _ meV10_ok okV10 (by decide) (rowV10 K9.out rfl)).mono ?_
  rintro e c1 ⟨rfl, hc1⟩
  replace K1 := Lib.hid ((K1.out).keptB hc1)
  replace K2 := Lib.hid ((K2.out).keptB hc1)
  replace HB := Lib.hid (bstep HB.out hc1)
  clear hc1
  clear K9
  rw [oneV10]
  go_wp2_with (first | (refine big_slices rfl 34 47 2 _ rfl (chsA [cV10, zeroCh]) 33 Try.underlying34 rfl rfl rfl (of_decide_eq_true (by kernel_rfl)) (of_decide_eq_true (by kernel_rfl)) (by kernel_rfl) ?_; intro gK9 wK9 hlK9 nK9 hbK9; have K9 := Lib.hid nK9; replace K1 := Lib.hid ((K1.out).keptB hbK9); replace K2 := Lib.hid ((K2.out).keptB hbK9); replace HB := Lib.hid (bstep HB.out hbK9); clear hlK9 nK9 hbK9; try simp only [Act.put, List.setIfInBounds_toArray, List.set_cons_zero, List.set_cons_succ]) | (refine big_build rfl 47 _ rfl (chA zeroCh) (by kernel_rfl) ?_; try simp only [Act.put, List.setIfInBounds_toArray, List.set_cons_zero, List.set_cons_succ]) | (refine big_whole rfl 47 _ rfl gK2 rfl K2.out Try.underlying47 rfl (by kernel_rfl) ?_; try simp only [Act.put, List.setIfInBounds_toArray, List.set_cons_zero, List.set_cons_succ]) | (refine big_whole rfl 29 _ rfl gK1 rfl K1.out Try.underlying29 rfl (by kernel_rfl) ?_; try simp only [Act.put, List.setIfInBounds_toArray, List.set_cons_zero, List.set_cons_succ]))
  refine (pdport10_any meV10 _ [cV10, zeroCh] 1 4 _ meV10_ok okV10 (by decide) (rowV10 K9.out rfl)).mono ?_
  rintro e c2 ⟨rfl, hc2⟩
  replace K1 := Lib.hid ((K1.out).keptB hc2)
  replace K2 := Lib.hid ((K2.out).keptB hc2)
  replace HB := Lib.hid (bstep HB.out hc2)
  clear hc2
  clear K9
  rw [twoV10]
  go_wp2_with (first | (refine big_slices rfl 34 47 1 _ rfl (chsA [zeroCh]) 33 Try.underlying34 rfl rfl rfl (of_decide_eq_true (by kernel_rfl)) (of_decide_eq_true (by kernel_rfl)) (by kernel_rfl) ?_; intro gK9 wK9 hlK9 nK9 hbK9; have K9 := Lib.hid nK9; replace K1 := Lib.hid ((K1.out).keptB hbK9); replace K2 := Lib.hid ((K2.out).keptB hbK9); replace HB := Lib.hid (bstep HB.out hbK9); clear hlK9 nK9 hbK9; try simp only [Act.put, List.setIfInBounds_toArray, List.set_cons_zero, List.set_cons_succ]) | (refine big_build rfl 47 _ rfl (chA zeroCh) (by kernel_rfl) ?_; try simp only [Act.put, List.setIfInBounds_toArray, List.set_cons_zero, List.set_cons_succ]) | (refine big_whole rfl 29 _ rfl gK1 rfl K1.out Try.underlying29 rfl (by kernel_rfl) ?_; try simp only [Act.put, List.setIfInBounds_toArray, List.set_cons_zero, List.set_cons_succ]))
  refine (pdport10_any meV10 _ [zeroCh] 0 6 _ meV10_ok okV11 (by decide) (rowV10 K9.out rfl)).mono ?_
  rintro e c3 ⟨rfl, hc3⟩
  replace K1 := Lib.hid ((K1.out).keptB hc3)
  replace K2 := Lib.hid ((K2.out).keptB hc3)
  replace HB := Lib.hid (bstep HB.out hc3)
  clear hc3
  clear K9
  rw [threeV10]
  go_wp2_with ((refine big_slice rfl 31 3 4 _ rfl (#[.int .i64 1, .int .i64 2, .int .i64 3, .int .i64 4]) Try.underlying31 rfl rfl rfl (of_decide_eq_true (by kernel_rfl)) (of_decide_eq_true (by kernel_rfl)) (by kernel_rfl) ?_; intro gK9 wK9 hlK9 nK9 hbK9; have K9 := Lib.hid nK9; replace K1 := Lib.hid ((K1.out).keptB hbK9); replace K2 := Lib.hid ((K2.out).keptB hbK9); replace HB := Lib.hid (bstep HB.out hbK9); clear hlK9 nK9 hbK9; try simp only [Act.put, List.setIfInBounds_toArray, List.set_cons_zero, List.set_cons_succ]))
  refine (pmast10_any _ [1, 2, 3, 4] _ (by decide) (holds_nums K9.out rfl rfl)).mono ?_
  rintro e c4 ⟨rfl, hc4⟩
  replace K1 := Lib.hid ((K1.out).keptB hc4)
  replace K2 := Lib.hid ((K2.out).keptB hc4)
  replace HB := Lib.hid (bstep HB.out hc4)
  clear hc4
  clear K9
  rw [fourV10]
  go_wp2
  go_ret
  exact ⟨rfl, HB.out⟩
set_option maxHeartbeats 4000000 in
theorem own10_in (A : Option Addr) (n c : Nat) (l : List Ch) (w : World) (hn : n ≤ 900) (h : ChsIn w (.slice A n c) l) :
    Calls Try.prog 11 #[.slice A n c] w fun e w' => ∃ x, e = .returned x ∧ ChsIn w' x l ∧ Below w.heap.size w w' := by
  have HB := Lib.hid (Below.refl w.heap.size w)
  have SI := Lib.hid h
  have HN : Hid (l.length = n) := by
    obtain ⟨_, _, _, h1, h2, _⟩ := SI.out
    cases h1
    exact h2
  clear h
  go_enter Try.func11, Try.ntmps11
  obtain ⟨B, hB⟩ : ∃ B, w.heap.size = B := ⟨_, rfl⟩
  have LBS : Hid (∀ g o, A = some ⟨g, o, none⟩ → 0 < n → g < B) := by rw [Hid, ← hB]; exact (SI.out).low
  have HWB := Lib.hid (show w.heap.size ≤ B by rw [← hB]; exact Nat.le_refl _)
  have OW : Hid (RowB w B 47 33 0 (.slice none 0 0) (chsL (l.take 0))) := RowB.nil (Nat.le_of_eq hB.symm)
  clear hB
  go_wp2
  go_loopg [3, 8] n (fun gh s i v => ∃ (j : Nat) (x : Value), j + gh = n ∧ x = s ∧ i = .int .i64 j ∧ Hid (RowB v B 47 33 j x (chsL (l.take j))) ∧ Hid (ChsIn v (.slice A n c) l) ∧ Hid (Below w.heap.size w v))
  case atStart => exact ⟨0, _, by omega, rfl, rfl, OW, SI, HB⟩
  case round =>
    clear SI HB OW
    obtain ⟨j, x, hj, hx, rfl, OW, SI, HB⟩ := hrel
    subst hx
    cases gk with
    | zero =>
      have hd : decide ((j : Int) < (n : Int)) = false := decide_eq_false (by omega)
      obtain rfl : j = n := by omega
      rw [List.take_of_length_le (by rw [HN.out]; omega)] at OW
      have CI := Lib.hid (own_chs (OW.out).row)
      go_wp2
      go_ret
      exact ⟨_, rfl, CI.out, HB.out⟩
    | succ g1 =>
      have hlt : j < n := by omega
      have hd : decide ((j : Int) < (n : Int)) = true := decide_eq_true (by omega)
      obtain ⟨a, ha⟩ : ∃ a, l[j]? = some a := ⟨_, List.getElem?_eq_getElem (show j < l.length by rw [HN.out]; exact hlt)⟩
      have HA := Lib.hid ha
      have HK := Lib.hid hlt
      obtain ⟨g, o, hA⟩ : ∃ g o, A = some ⟨g, o, none⟩ := by
        obtain ⟨_, _, _, h1, _, h3⟩ := SI.out
        cases h1
        obtain ⟨g, o, h4, _⟩ := h3 (by omega)
        exact ⟨g, o, h4⟩
      subst hA
      have HRT : Hid (l.take (j + 1) = l.take j ++ [a]) := by
        rw [Hid, List.take_add_one, ha]
        rfl
      have HCT : Hid (j + 1 ≤ 1000) := by rw [Hid]; omega
      clear ha hlt
      go_upto_region 5 with (first | (refine big_fill rfl 45 _ _ rfl gK5 (chA a) rfl rfl K5.out (by kernel_rfl) (by kernel_rfl) (by kernel_rfl) ?_; intro vK50 nK5 htK5; replace K5 := Lib.hid nK5; replace OW := Lib.hid ((OW.out).touch htK5 OOWK5.out); replace SI := Lib.hid ((SI.out).touch htK5 OSIK5.out); replace HB := Lib.hid (btouch HB.out htK5 LK5.out); clear nK5 htK5; try simp only [Act.put, List.setIfInBounds_toArray, List.set_cons_zero, List.set_cons_succ]) | (refine big_alloc rfl 45 rfl (chA zeroCh) (by kernel_rfl) ?_; intro gK5 wK5 hlK5 nK5 hbK5; have K5 := Lib.hid nK5; have LK5 := Lib.hid (Nat.le_trans (HB.out).size hlK5); have OOWK5 := Lib.hid ((OW.out).off hlK5); have OSIK5 := Lib.hid ((SI.out).off hlK5); replace OW := Lib.hid ((OW.out).keptB hbK5); replace SI := Lib.hid ((SI.out).keptB hbK5); replace HB := Lib.hid (bstep HB.out hbK5); clear hlK5 nK5 hbK5; try simp only [Act.put, List.setIfInBounds_toArray, List.set_cons_zero, List.set_cons_succ]) | (refine big_loadAt rfl 45 _ rfl g (o + j * 33) rfl (chA a) (ch_in SI.out HA.out) Try.underlying45 rfl (by kernel_rfl) ?_; try simp only [Act.put, List.setIfInBounds_toArray, List.set_cons_zero, List.set_cons_succ]) | (refine big_index rfl 30 _ _ rfl g o n c j 33 rfl rfl HK.out Try.underlying30 (by kernel_rfl) ?_; try simp only [Act.put, List.setIfInBounds_toArray, List.set_cons_zero, List.set_cons_succ]))
      go_wp2_with (first | (refine big_append_pch rfl _ _ rfl B rfl (OW.out).row gK9 a rfl K9.out HCT.out (OW.out).low ?_; intro x2 w9 ow9 hb9; replace OW := Lib.hid (RowB.mk ow9 (Nat.le_trans (OW.out).low hb9.size)); replace SI := Lib.hid ((SI.out).keptO hb9 LBS.out); replace HB := Lib.hid (bbelow HB.out hb9 HWB.out); clear ow9 hb9 K9; try simp only [Act.put, List.setIfInBounds_toArray, List.set_cons_zero, List.set_cons_succ]) | (refine big_slices rfl 34 47 1 _ rfl (chsA [a]) 33 Try.underlying34 rfl rfl rfl (of_decide_eq_true (by kernel_rfl)) (of_decide_eq_true (by kernel_rfl)) (by kernel_rfl) ?_; intro gK9 wK9 hlK9 nK9 hbK9; have K9 := Lib.hid nK9; replace OW := Lib.hid ((OW.out).keptB hbK9); replace SI := Lib.hid ((SI.out).keptB hbK9); replace HB := Lib.hid (bstep HB.out hbK9); clear hlK9 nK9 hbK9; try simp only [Act.put, List.setIfInBounds_toArray, List.set_cons_zero, List.set_cons_succ]) | (refine big_whole rfl 45 _ rfl gK5 rfl K5.out Try.underlying45 rfl (by kernel_rfl) ?_; try simp only [Act.put, List.setIfInBounds_toArray, List.set_cons_zero, List.set_cons_succ]))
      go_roundg g1
      case measure => omega
      case rel => exact ⟨j + 1, _, by omega, rfl, by go_num, by rw [HRT.out]; exact OW, SI, HB⟩
set_option maxHeartbeats 4000000 in
theorem ints10_any (A A2 : Option Addr) (n c c2 : Nat) (l : List Int) (w : World) (hn : n ≤ 1000) (h : NumIn w (.slice A n c) l) (h2 : NumIn w (.slice A2 n c2) l) :
    Calls Try.prog 13 #[.slice A n c, .slice A2 n c2] w fun e w' => e = .returned (.bool true) ∧ Below w.heap.size w w' := by
  have HB := Lib.hid (Below.refl w.heap.size w)
  have NA := Lib.hid h
  have NB := Lib.hid h2
  have HLS : Hid (l.length = n) := by
    obtain ⟨_, _, _, h1, h2, _⟩ := NA.out
    cases h1
    exact h2
  clear h h2
  go_enter Try.func13, Try.ntmps13
  go_wp2
  go_loopg [13] n (fun gh i v => ∃ j : Nat, j + gh = n ∧ i = .int .i64 j ∧ Hid (NumIn v (.slice A n c) l) ∧ Hid (NumIn v (.slice A2 n c2) l) ∧ Hid (Below w.heap.size w v))
  case atStart => exact ⟨0, by omega, rfl, NA, NB, HB⟩
  case round =>
    clear NA NB HB
    obtain ⟨j, hj, rfl, NA, NB, HB⟩ := hrel
    cases gk with
    | zero =>
      have hd : decide ((j : Int) < (n : Int)) = false := decide_eq_false (by omega)
      go_wp2
      try rw [Exit.noGoto_ret]
      go_ret
      exact ⟨rfl, HB.out⟩
    | succ gh1 =>
      have hlt : j < n := by omega
      have hd : decide ((j : Int) < (n : Int)) = true := decide_eq_true (by omega)
      obtain ⟨z, hz⟩ : ∃ z, l[j]? = some z := ⟨_, List.getElem?_eq_getElem (show j < l.length by rw [HLS.out]; exact hlt)⟩
      have HZ := Lib.hid hz
      have HK := Lib.hid hlt
      clear hz
      obtain ⟨g1, o1, hA⟩ : ∃ g o, A = some ⟨g, o, none⟩ := by
        obtain ⟨_, _, _, h1, _, h3⟩ := NA.out
        cases h1
        obtain ⟨g, o, h4, _⟩ := h3 (by omega)
        exact ⟨g, o, h4⟩
      subst hA
      obtain ⟨g2, o2, hA⟩ : ∃ g o, A2 = some ⟨g, o, none⟩ := by
        obtain ⟨_, _, _, h1, _, h3⟩ := NB.out
        cases h1
        obtain ⟨g, o, h4, _⟩ := h3 (by omega)
        exact ⟨g, o, h4⟩
      subst hA
      go_wp2
      refine wp_region_noPanic ?_
      refine wp_region_held_drew (S := fun v => Below w.heap.size w v ∧ NumIn v (.slice (some ⟨g1, o1, none⟩) n c) l ∧ NumIn v (.slice (some ⟨g2, o2, none⟩) n c2) l ∧ True) (by kernel_rfl) ?_ (fun hHeld => ?_)
      · exact ⟨bdrew HB.out, (NA.out).drew, (NB.out).drew, trivial⟩
      clear HB NA NB
      refine wpAnyH_take (i := 0) (v := .slice (some ⟨g1, o1, none⟩) n c) (at_list rfl) (by kernel_rfl) (by kernel_rfl) (by kernel_rfl) (fun _ _ _ h => h) (Or.inl ⟨by rfl, ?_⟩) hHeld ?_
      · intro v hSv
        clear hHeld
        go_simp
      try simp only [Act.put, List.setIfInBounds_toArray, List.set_cons_zero, List.set_cons_succ]
      refine wpAnyH_take (i := 1) (v := .int .i64 j) (at_list rfl) (by kernel_rfl) (by kernel_rfl) (by kernel_rfl) (fun _ _ _ h => h) (Or.inl ⟨by rfl, ?_⟩) hHeld ?_
      · intro v hSv
        clear hHeld
        go_simp
      try simp only [Act.put, List.setIfInBounds_toArray, List.set_cons_zero, List.set_cons_succ]
      refine wpAnyH_take (i := 2) (v := .pointer (some ⟨g1, o1 + j * 1, none⟩)) (at_list rfl) (by kernel_rfl) (by kernel_rfl) (by kernel_rfl) (fun _ _ _ h => h) (yields_index (by rfl) 31 _ _ rfl g1 o1 n c j 1 rfl rfl HK.out Try.underlying31 (by kernel_rfl)) hHeld ?_
      try simp only [Act.put, List.setIfInBounds_toArray, List.set_cons_zero, List.set_cons_succ]
      refine wpAnyH_take (i := 3) (v := .int .i64 z) (at_list rfl) (by kernel_rfl) (by kernel_rfl) (by kernel_rfl) (fun _ _ _ h => h) (Or.inl ⟨by rfl, ?_⟩) hHeld ?_
      · intro v hSv
        clear hHeld
        have q_ := num_in (hSv.2.1) HZ.out
        clear hSv
        go_simp
      try simp only [Act.put, List.setIfInBounds_toArray, List.set_cons_zero, List.set_cons_succ]
      refine wpAnyH_take (i := 4) (v := .slice (some ⟨g2, o2, none⟩) n c2) (at_list rfl) (by kernel_rfl) (by kernel_rfl) (by kernel_rfl) (fun _ _ _ h => h) (Or.inl ⟨by rfl, ?_⟩) hHeld ?_
      · intro v hSv
        clear hHeld
        go_simp
      try simp only [Act.put, List.setIfInBounds_toArray, List.set_cons_zero, List.set_cons_succ]
      refine wpAnyH_take (i := 5) (v := .int .i64 j) (at_list rfl) (by kernel_rfl) (by kernel_rfl) (by kernel_rfl) (fun _ _ _ h => h) (Or.inl ⟨by rfl, ?_⟩) hHeld ?_
      · intro v hSv
        clear hHeld
        go_simp
      try simp only [Act.put, List.setIfInBounds_toArray, List.set_cons_zero, List.set_cons_succ]
      refine wpAnyH_take (i := 6) (v := .pointer (some ⟨g2, o2 + j * 1, none⟩)) (at_list rfl) (by kernel_rfl) (by kernel_rfl) (by kernel_rfl) (fun _ _ _ h => h) (yields_index (by rfl) 31 _ _ rfl g2 o2 n c2 j 1 rfl rfl HK.out Try.underlying31 (by kernel_rfl)) hHeld ?_
      try simp only [Act.put, List.setIfInBounds_toArray, List.set_cons_zero, List.set_cons_succ]
      refine wpAnyH_take (i := 7) (v := .int .i64 z) (at_list rfl) (by kernel_rfl) (by kernel_rfl) (by kernel_rfl) (fun _ _ _ h => h) (Or.inl ⟨by rfl, ?_⟩) hHeld ?_
      · intro v hSv
        clear hHeld
        have q_ := num_in (hSv.2.2.1) HZ.out
        clear hSv
        go_simp
      try simp only [Act.put, List.setIfInBounds_toArray, List.set_cons_zero, List.set_cons_succ]
      refine wpAnyH_take (i := 8) (v := .bool false) (at_list rfl) (by kernel_rfl) (by kernel_rfl) (by kernel_rfl) (fun _ _ _ h => h) (Or.inl ⟨by rfl, ?_⟩) hHeld ?_
      · intro v hSv
        clear hHeld
        go_simp
      try simp only [Act.put, List.setIfInBounds_toArray, List.set_cons_zero, List.set_cons_succ]
      refine wpAnyH_done (by kernel_rfl) ?_ _
      refine NoPanic.normal ?_
      have HB := Lib.hid hHeld.1
      have NA := Lib.hid hHeld.2.1
      have NB := Lib.hid hHeld.2.2.1
      clear hHeld
      go_wp2
      go_roundg gh1
      case measure => omega
      case rel => exact ⟨j + 1, by omega, by go_num, NA, NB, HB⟩
theorem ints10_in (v1 v2 : Value) (l : List Int) (w : World) (hn : l.length ≤ 1000) (h : NumIn w v1 l) (h2 : NumIn w v2 l) :
    Calls Try.prog 13 #[v1, v2] w fun e w' => e = .returned (.bool true) ∧ Below w.heap.size w w' := by
  have H1 := h
  have H2 := h2
  obtain ⟨A, n, c, rfl, e1, _⟩ := h
  obtain ⟨A2, n2, c2, rfl, e2, _⟩ := h2
  obtain rfl : n = n2 := by omega
  exact ints10_any A A2 n c c2 l w (by omega) H1 H2

end Go.Proofs.Ytpdnfeooijmgoaa
