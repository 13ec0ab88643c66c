/- The walk over the law's own: choices of the program's. -/
import Derived.Test.YtcmcgkcljefckaaBestMem
import Derived.Deep.DeepCutAuto
import Derived.Deep.LoopGhost
import Derived.WalkMore
namespace Go.Proofs.Ytcmcgkcljefckaa
set_option maxRecDepth 100000
open Go.RowKit
set_option linter.unusedVariables false
set_option linter.unusedSimpArgs false

set_option maxHeartbeats 4000000 in
theorem own9_in (A : Option Addr) (n c : Nat) (l : List Ch) (w : World) (hn : n ≤ 900) (h : ChsIn w (.slice A n c) l) :
    Calls Try.prog 13 #[.slice A n c] w fun e w' => ∃ x, e = .returned x ∧ ChsIn w' x l ∧ Below w.heap.size w w' := by
  have HB := Lib.hid (Below.refl w.heap.size w)
  have SI := Lib.hid h
  have HN : Hid (l.length = n) := by
    obtain ⟨_, _, _, h1, h2, _⟩ := SI.out
    cases h1
    exact h2
  clear h
  go_enter Try.func13, Try.ntmps13
  obtain ⟨B, hB⟩ : ∃ B, w.heap.size = B := ⟨_, rfl⟩
  have LBS : Hid (∀ g o, A = some ⟨g, o, none⟩ → 0 < n → g < B) := by rw [Hid, ← hB]; exact (SI.out).low
  have HWB := Lib.hid (show w.heap.size ≤ B by rw [← hB]; exact Nat.le_refl _)
  have OW : Hid (RowB w B 34 33 0 (.slice none 0 0) (chsL (l.take 0))) := RowB.nil (Nat.le_of_eq hB.symm)
  clear hB
  go_wp2
  go_loopg [3, 8] n (fun gh s i v => ∃ (j : Nat) (x : Value), j + gh = n ∧ x = s ∧ i = .int .i64 j ∧ Hid (RowB v B 34 33 j x (chsL (l.take j))) ∧ Hid (ChsIn v (.slice A n c) l) ∧ Hid (Below w.heap.size w v))
  case atStart => exact ⟨0, _, by omega, rfl, rfl, OW, SI, HB⟩
  case round =>
    clear SI HB OW
    obtain ⟨j, x, hj, hx, rfl, OW, SI, HB⟩ := hrel
    subst hx
    cases gk with
    | zero =>
      have hd : decide ((j : Int) < (n : Int)) = false := decide_eq_false (by omega)
      obtain rfl : j = n := by omega
      rw [List.take_of_length_le (by rw [HN.out]; omega)] at OW
      have CI := Lib.hid (own_chs (OW.out).row)
      go_wp2
      go_ret
      exact ⟨_, rfl, CI.out, HB.out⟩
    | succ g1 =>
      have hlt : j < n := by omega
      have hd : decide ((j : Int) < (n : Int)) = true := decide_eq_true (by omega)
      obtain ⟨a, ha⟩ : ∃ a, l[j]? = some a := ⟨_, List.getElem?_eq_getElem (show j < l.length by rw [HN.out]; exact hlt)⟩
      have HA := Lib.hid ha
      have HK := Lib.hid hlt
      obtain ⟨g, o, hA⟩ : ∃ g o, A = some ⟨g, o, none⟩ := by
        obtain ⟨_, _, _, h1, _, h3⟩ := SI.out
        cases h1
        obtain ⟨g, o, h4, _⟩ := h3 (by omega)
        exact ⟨g, o, h4⟩
      subst hA
      have HRT : Hid (l.take (j + 1) = l.take j ++ [a]) := by
        rw [Hid, List.take_add_one, ha]
        rfl
      have HCT : Hid (j + 1 ≤ 1000) := by rw [Hid]; omega
      clear ha hlt
      go_upto_region 5 with (first | (refine big_fill rfl 33 _ _ rfl gK5 (chA a) rfl rfl K5.out (by kernel_rfl) (by kernel_rfl) (by kernel_rfl) ?_; intro vK50 nK5 htK5; replace K5 := Lib.hid nK5; replace OW := Lib.hid ((OW.out).touch htK5 OOWK5.out); replace SI := Lib.hid ((SI.out).touch htK5 OSIK5.out); replace HB := Lib.hid (btouch HB.out htK5 LK5.out); clear nK5 htK5) | (refine big_alloc rfl 33 rfl (chA zeroCh) (by kernel_rfl) ?_; intro gK5 wK5 hlK5 nK5 hbK5; have K5 := Lib.hid nK5; have LK5 := Lib.hid (Nat.le_trans (HB.out).size hlK5); have OOWK5 := Lib.hid ((OW.out).off hlK5); have OSIK5 := Lib.hid ((SI.out).off hlK5); replace OW := Lib.hid ((OW.out).keptB hbK5); replace SI := Lib.hid ((SI.out).keptB hbK5); replace HB := Lib.hid (bstep HB.out hbK5); clear hlK5 nK5 hbK5) | (refine big_loadAt rfl 33 _ rfl g (o + j * 33) rfl (chA a) (ch_in SI.out HA.out) Try.underlying33 rfl (by kernel_rfl) ?_) | (refine big_index rfl 38 _ _ rfl g o n c j 33 rfl rfl HK.out Try.underlying38 (by kernel_rfl) ?_))
      go_wp2_with (first | (refine big_append_pch rfl _ _ rfl B rfl (OW.out).row gK9 a rfl K9.out HCT.out (OW.out).low ?_; intro x2 w9 ow9 hb9; replace OW := Lib.hid (RowB.mk ow9 (Nat.le_trans (OW.out).low hb9.size)); replace SI := Lib.hid ((SI.out).keptO hb9 LBS.out); replace HB := Lib.hid (bbelow HB.out hb9 HWB.out); clear ow9 hb9 K9) | (refine big_slices rfl 40 34 1 _ rfl (chsA [a]) 33 Try.underlying40 rfl rfl rfl (of_decide_eq_true (by kernel_rfl)) (of_decide_eq_true (by kernel_rfl)) (by kernel_rfl) ?_; intro gK9 wK9 hlK9 nK9 hbK9; have K9 := Lib.hid nK9; replace OW := Lib.hid ((OW.out).keptB hbK9); replace SI := Lib.hid ((SI.out).keptB hbK9); replace HB := Lib.hid (bstep HB.out hbK9); clear hlK9 nK9 hbK9) | (refine big_whole rfl 33 _ rfl gK5 rfl K5.out Try.underlying33 rfl (by kernel_rfl) ?_))
      go_roundg g1
      case measure => omega
      case rel => exact ⟨j + 1, _, by omega, rfl, by go_num, by rw [HRT.out]; exact OW, SI, HB⟩

end Go.Proofs.Ytcmcgkcljefckaa
