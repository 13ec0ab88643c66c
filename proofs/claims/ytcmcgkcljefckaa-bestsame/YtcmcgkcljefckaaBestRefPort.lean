/- The walk over the reference of layer 9: Port. -/
import Derived.Test.YtcmcgkcljefckaaBestRefAll
import Derived.Test.YtcmcgkcljefckaaRowIn
import Derived.Deep.DeepCutAuto
import Derived.Deep.LoopGhost
import Derived.WalkMore
namespace Go.Proofs.Ytcmcgkcljefckaa
set_option maxRecDepth 100000
open Go.RowKit
set_option linter.unusedVariables false
set_option linter.unusedSimpArgs false

theorem size_is9 {w : World} {g : Nat} {t : TypeId} {cs : Array Value} (_ : Holds w g t cs) : ∃ B, w.heap.size = B := ⟨_, rfl⟩
theorem recv_ok {r : Pt} {s : Rs} (hr : r.c.ok) (hs : s.ok) : (recv r s).ok := ⟨hs.g, hs.s, hr, hs.lo, hs.hi⟩
set_option maxHeartbeats 4000000 in
theorem rport9_any (A : Option Addr) (n c : Nat) (l : List Rs) (r : Pt) (w : World) (ho : ∀ s ∈ l, s.ok) (hn : n ≤ 900) (hr : r.c.ok) (h : SetsIn w (.slice A n c) l) :
    Calls Try.prog 11 #[.slice A n c, .agg (ptA r)] w fun e w' => e = .returned (.agg (chA (portN l r))) ∧ Below w.heap.size w w' := by
  have HB := Lib.hid (Below.refl w.heap.size w)
  have SI := Lib.hid h
  have HR := Lib.hid hr
  clear hr
  have HO := Lib.hid ho
  have HN : Hid (l.length = n) := by
    obtain ⟨_, _, _, h1, h2, _⟩ := SI.out
    cases h1
    exact h2
  clear h ho
  go_enter Try.func11, Try.ntmps11
  go_upto_region 1 with (first | (refine big_alloc rfl 33 rfl (chA zeroCh) (by kernel_rfl) ?_; intro gK4 wK4 hlK4 nK4 hbK4; have K4 := Lib.hid nK4; have LK4 := Lib.hid (Nat.le_trans (HB.out).size hlK4); have OSIK4 := Lib.hid ((SI.out).off hlK4); have OK3K4 := Lib.hid ((K3.out).off hlK4); replace SI := Lib.hid ((SI.out).keptB hbK4); replace K3 := Lib.hid ((K3.out).keptB hbK4); replace HB := Lib.hid (bstep HB.out hbK4); clear hlK4 nK4 hbK4; try simp only [Act.put, List.setIfInBounds_toArray, List.set_cons_zero, List.set_cons_succ]) | (refine big_box rfl 26 _ rfl (ptA r) rfl (by kernel_rfl) ?_; intro gK3 wK3 hlK3 nK3 hbK3; have K3 := Lib.hid nK3; have LK3 := Lib.hid (Nat.le_trans (HB.out).size hlK3); have OSIK3 := Lib.hid ((SI.out).off hlK3); replace SI := Lib.hid ((SI.out).keptB hbK3); replace HB := Lib.hid (bstep HB.out hbK3); clear hlK3 nK3 hbK3; try simp only [Act.put, List.setIfInBounds_toArray, List.set_cons_zero, List.set_cons_succ]))
  obtain ⟨B, hB⟩ := size_is9 K4.out
  have LBK3 := Lib.hid (show gK3 < B by rw [← hB]; exact (K3.out).inside)
  have LBK4 := Lib.hid (show gK4 < B by rw [← hB]; exact (K4.out).inside)
  have LBS : Hid (∀ g o, A = some ⟨g, o, none⟩ → 0 < n → g < B) := by rw [Hid, ← hB]; exact (SI.out).low
  have HWB := Lib.hid (show w.heap.size ≤ B by rw [← hB]; exact (HB.out).size)
  have OW : Hid (RowB _ B 33 33 0 (.slice none 0 0) (chsL (hearL r (l.take 0)))) := RowB.nil (Nat.le_of_eq hB.symm)
  clear hB
  go_wp2
  go_loopw [5, 6] (fun s i v => ∃ (j : Nat) (x : Value), j ≤ n ∧ x = s ∧ i = .int .i64 j ∧ Hid (RowB v B 33 33 j x (chsL (hearL r (l.take j)))) ∧ Hid (SetsIn v (.slice A n c) l) ∧ Hid (Holds v gK3 26 (ptA r)) ∧ Hid (Holds v gK4 33 (chA zeroCh)) ∧ Hid (Below w.heap.size w v)) (fun _ i _ => n - (intOf i).toNat)
  case atStart => exact ⟨0, _, by omega, rfl, rfl, OW, SI, K3, K4, HB⟩
  case round =>
    clear SI K3 K4 HB OW
    rename_i V
    obtain ⟨j, x, hj, hx, rfl, OW, SI, K3, K4, HB⟩ := hrel
    subst hx
    by_cases hlt : j < n
    · have hd : decide ((j : Int) < (n : Int)) = true := by simpa using hlt
      obtain ⟨a, ha⟩ : ∃ a, l[j]? = some a := ⟨_, List.getElem?_eq_getElem (show j < l.length by rw [HN.out]; exact hlt)⟩
      have HA := Lib.hid ha
      have HK := Lib.hid hlt
      obtain ⟨g, o, hA⟩ : ∃ g o, A = some ⟨g, o, none⟩ := by
        obtain ⟨_, _, _, h1, _, h3⟩ := SI.out
        cases h1
        obtain ⟨g, o, h4, _⟩ := h3 (by omega)
        exact ⟨g, o, h4⟩
      subst hA
      have HRT : Hid (hearL r (l.take (j + 1)) = hearL r (l.take j) ++ [⟨recv r a, true⟩]) := by
        unfold hearL
        rw [Hid, List.take_add_one, ha]
        simp
      have HCT : Hid (j + 1 ≤ 1000) := by rw [Hid]; omega
      clear ha
      go_upto_region 6 with (first | (refine big_fill rfl 31 _ _ rfl gK7 (rsA a) rfl rfl K7.out (by kernel_rfl) (by kernel_rfl) (by kernel_rfl) ?_; intro vK70 nK7 htK7; replace K7 := Lib.hid nK7; replace OW := Lib.hid ((OW.out).touch htK7 OOWK7.out); replace SI := Lib.hid ((SI.out).touch htK7 OSIK7.out); replace K3 := Lib.hid ((K3.out).touch htK7 OK3K7.out); replace K4 := Lib.hid ((K4.out).touch htK7 OK4K7.out); replace HB := Lib.hid (btouch HB.out htK7 LK7.out); clear nK7 htK7; try simp only [Act.put, List.setIfInBounds_toArray, List.set_cons_zero, List.set_cons_succ]) | (refine big_alloc rfl 31 rfl (rsA zeroR) (by kernel_rfl) ?_; intro gK7 wK7 hlK7 nK7 hbK7; have K7 := Lib.hid nK7; have LK7 := Lib.hid (Nat.le_trans (HB.out).size hlK7); have OOWK7 := Lib.hid ((OW.out).off hlK7); have OSIK7 := Lib.hid ((SI.out).off hlK7); have OK3K7 := Lib.hid ((K3.out).off hlK7); have OK4K7 := Lib.hid ((K4.out).off hlK7); replace OW := Lib.hid ((OW.out).keptB hbK7); replace SI := Lib.hid ((SI.out).keptB hbK7); replace K3 := Lib.hid ((K3.out).keptB hbK7); replace K4 := Lib.hid ((K4.out).keptB hbK7); replace HB := Lib.hid (bstep HB.out hbK7); clear hlK7 nK7 hbK7; try simp only [Act.put, List.setIfInBounds_toArray, List.set_cons_zero, List.set_cons_succ]) | (refine big_loadAt rfl 31 _ rfl g (o + j * 32) rfl (rsA a) (set_in SI.out HA.out) Try.underlying31 rfl (by kernel_rfl) ?_; try simp only [Act.put, List.setIfInBounds_toArray, List.set_cons_zero, List.set_cons_succ]) | (refine big_index rfl 22 _ _ rfl g o n c j 32 rfl rfl HK.out Try.underlying22 (by kernel_rfl) ?_; try simp only [Act.put, List.setIfInBounds_toArray, List.set_cons_zero, List.set_cons_succ]))
      go_upto_region 7 with (first | (refine big_store rfl 26 _ _ rfl gK7 23 [.int .u8 r.c.b0, .int .u8 r.c.b1, .int .u8 r.c.b2, .int .u8 r.c.b3, .int .u8 r.c.b4, .int .u8 r.c.b5, .int .u8 r.c.b6, .int .u8 r.c.b7, .int .i64 r.n] rfl rfl K7.out (by kernel_rfl) (by kernel_rfl) (of_decide_eq_true (by kernel_rfl)) (rsA (recv r a)) (by kernel_rfl) ?_; intro vK70 nK7 htK7; replace K7 := Lib.hid nK7; replace OW := Lib.hid ((OW.out).touch htK7 OOWK7.out); replace SI := Lib.hid ((SI.out).touch htK7 OSIK7.out); replace K3 := Lib.hid ((K3.out).touch htK7 OK3K7.out); replace K4 := Lib.hid ((K4.out).touch htK7 OK4K7.out); replace HB := Lib.hid (btouch HB.out htK7 LK7.out); clear nK7 htK7; try simp only [Act.put, List.setIfInBounds_toArray, List.set_cons_zero, List.set_cons_succ]) | (refine big_load rfl 26 _ rfl gK3 0 rfl K3.out [.int .u8 r.c.b0, .int .u8 r.c.b1, .int .u8 r.c.b2, .int .u8 r.c.b3, .int .u8 r.c.b4, .int .u8 r.c.b5, .int .u8 r.c.b6, .int .u8 r.c.b7, .int .i64 r.n] rfl Try.underlying26 rfl (by kernel_rfl) ?_; try simp only [Act.put, List.setIfInBounds_toArray, List.set_cons_zero, List.set_cons_succ]))
      go_wp2_with (first | (refine big_append_rch rfl _ _ rfl B rfl (OW.out).row gK9 ⟨recv r a, true⟩ rfl K9.out HCT.out (OW.out).low ?_; intro x2 w9 ow9 hb9; replace OW := Lib.hid (RowB.mk ow9 (Nat.le_trans (OW.out).low hb9.size)); replace SI := Lib.hid ((SI.out).keptO hb9 LBS.out); replace K3 := Lib.hid ((K3.out).kept hb9 LBK3.out); replace K4 := Lib.hid ((K4.out).kept hb9 LBK4.out); replace HB := Lib.hid (bbelow HB.out hb9 HWB.out); clear ow9 hb9 K9; try simp only [Act.put, List.setIfInBounds_toArray, List.set_cons_zero, List.set_cons_succ]) | (refine big_slices rfl 38 33 1 _ rfl (chsA [⟨recv r a, true⟩]) 33 Try.underlying38 rfl rfl rfl (of_decide_eq_true (by kernel_rfl)) (of_decide_eq_true (by kernel_rfl)) (by kernel_rfl) ?_; intro gK9 wK9 hlK9 nK9 hbK9; have K9 := Lib.hid nK9; replace OW := Lib.hid ((OW.out).keptB hbK9); replace SI := Lib.hid ((SI.out).keptB hbK9); replace K3 := Lib.hid ((K3.out).keptB hbK9); replace K4 := Lib.hid ((K4.out).keptB hbK9); replace HB := Lib.hid (bstep HB.out hbK9); clear hlK9 nK9 hbK9; try simp only [Act.put, List.setIfInBounds_toArray, List.set_cons_zero, List.set_cons_succ]) | (refine big_build rfl 33 _ rfl (chA ⟨recv r a, true⟩) (by kernel_rfl) ?_; try simp only [Act.put, List.setIfInBounds_toArray, List.set_cons_zero, List.set_cons_succ]) | (refine big_whole rfl 31 _ rfl gK7 rfl K7.out Try.underlying31 rfl (by kernel_rfl) ?_; try simp only [Act.put, List.setIfInBounds_toArray, List.set_cons_zero, List.set_cons_succ]))
      go_roundw
      case rel => exact ⟨j + 1, _, by omega, rfl, by go_num, by rw [HRT.out]; exact OW, SI, K3, K4, HB⟩
      case measure => simp [intOf]; omega
    · have hd : decide ((j : Int) < (n : Int)) = false := by simpa using hlt
      obtain rfl : j = n := by omega
      rw [List.take_of_length_le (by rw [HN.out]; omega)] at OW
      have CI := Lib.hid (own_chs (OW.out).row)
      clear OW
      go_wp2_with fail
      refine (rall9_in _ (hearL r l) _ (by intro s hs; obtain ⟨q, hq, rfl⟩ := List.mem_map.1 hs; exact recv_ok HR.out (HO.out q hq)) (by unfold hearL; rw [List.length_map, HN.out]; omega) CI.out).mono ?_
      rintro e c1 ⟨rfl, hc1⟩
      replace CI := Lib.hid ((CI.out).keptB hc1)
      replace K4 := Lib.hid ((K4.out).keptB hc1)
      replace HB := Lib.hid (bstep HB.out hc1)
      clear hc1
      rcases allN_spec (hearL r l) with ⟨h1, _⟩ | ⟨k, a, h1, h2, _⟩
      · have HX : Hid (portN l r = zeroCh) := by unfold portN; rw [Hid, h1]; rfl
        rw [h1]
        clear h1
        go_wp2_with (first | (refine big_fill rfl 33 _ _ rfl gK4 (chA zeroCh) rfl rfl K4.out (by kernel_rfl) (by kernel_rfl) (by kernel_rfl) ?_; intro vK40 nK4 htK4; replace K4 := Lib.hid nK4; replace HB := Lib.hid (btouch HB.out htK4 LK4.out); clear nK4 htK4; try simp only [Act.put, List.setIfInBounds_toArray, List.set_cons_zero, List.set_cons_succ]) | (refine big_build rfl 33 _ rfl (chA zeroCh) (by kernel_rfl) ?_; try simp only [Act.put, List.setIfInBounds_toArray, List.set_cons_zero, List.set_cons_succ]))
        refine bodyPost_ret (v := .agg (chA zeroCh)) (results_cell_row rfl _ _ gK4 _ _ (0, 0) _ rfl K4.out Try.underlying33 rfl (by kernel_rfl)) rfl ⟨by rw [HX.out], HB.out⟩
      · have HX : Hid (portN l r = a) := by
          unfold portN
          rw [Hid, h1, if_neg (by omega), Int.toNat_natCast, List.getD_eq_getElem?_getD, h2]
          rfl
        rw [h1]
        clear h1
        have HA := Lib.hid h2
        have hkl := (List.getElem?_eq_some_iff.1 h2).1
        clear h2
        obtain ⟨A2, n2, c2, rfl, h3, h4⟩ := CI.out
        obtain ⟨g2, o2, rfl, _⟩ := h4 (by omega)
        have HK : Hid (k < n2) := by rw [Hid, ← h3]; exact hkl
        have hd2 : decide ((k : Int) < 0) = false := decide_eq_false (by omega)
        clear h3 h4 hkl
        go_wp2_with (first | (refine big_fill rfl 33 _ _ rfl gK4 (chA a) rfl rfl K4.out (by kernel_rfl) (by kernel_rfl) (by kernel_rfl) ?_; intro vK41 nK4 htK4; replace K4 := Lib.hid nK4; replace HB := Lib.hid (btouch HB.out htK4 LK4.out); clear nK4 htK4; try simp only [Act.put, List.setIfInBounds_toArray, List.set_cons_zero, List.set_cons_succ]) | (refine big_loadAt rfl 33 _ rfl g2 (o2 + k * 33) rfl (chA a) (ch_in CI.out HA.out) Try.underlying33 rfl (by kernel_rfl) ?_; try simp only [Act.put, List.setIfInBounds_toArray, List.set_cons_zero, List.set_cons_succ]) | (refine big_index rfl 38 _ _ rfl g2 o2 n2 c2 k 33 rfl rfl HK.out Try.underlying38 (by kernel_rfl) ?_; try simp only [Act.put, List.setIfInBounds_toArray, List.set_cons_zero, List.set_cons_succ]))
        refine bodyPost_ret (v := .agg (chA a)) (results_cell_row rfl _ _ gK4 _ _ (0, 0) _ rfl K4.out Try.underlying33 rfl (by kernel_rfl)) rfl ⟨by rw [HX.out], HB.out⟩

end Go.Proofs.Ytcmcgkcljefckaa
