/- The walks over the reference of layer 10: All, Masters. -/
import Derived.Test.YtpdnfeooijmgoaaDecideRef
import Derived.Test.YtpdnfeooijmgoaaIntRow
import Derived.Test.YtpdnfeooijmgoaaBestRefPort
import Derived.Deep.DeepCutAuto
import Derived.Deep.LoopGhost
import Derived.WalkMore
namespace Go.Proofs.Ytpdnfeooijmgoaa
set_option maxRecDepth 100000
open Go.RowKit
set_option linter.unusedVariables false
set_option linter.unusedSimpArgs false

theorem info_int10 : (Try.prog.info? 3).map (fun i => (i.zero, i.size, i.bytes)) = some (some (.int .i64 0), 1, 8) := by kernel_rfl
theorem decAll_in64 (me : Rs) (l : List Ch) (k st : Int) : 0 ≤ decideN me l k st ∧ decideN me l k st ≤ 6 := by
  unfold decideN
  repeat' split
  all_goals omega
set_option maxHeartbeats 4000000 in
theorem rdall10_any (me : Rs) (A : Option Addr) (n c : Nat) (l : List Ch) (A2 : Option Addr) (n2 c2 : Nat) (ss : List Int) (w : World) (hm : me.ok) (ho : ∀ s ∈ l, s.s.ok) (hn : n ≤ 900) (h : ChsIn w (.slice A n c) l) (hs : NumIn w (.slice A2 n2 c2) ss) :
    Calls Try.prog 12 #[.agg (rsA me), .slice A n c, .slice A2 n2 c2] w fun e w' => ∃ x, e = .returned x ∧ NumIn w' x (decAllN me l ss) ∧ Below w.heap.size w w' := by
  have HO := Lib.hid ho
  have OM := Lib.hid hm
  clear ho hm
  have HB := Lib.hid (Below.refl w.heap.size w)
  have CI := Lib.hid h
  have NI := Lib.hid hs
  have HLN : Hid (l.length = n) := by
    obtain ⟨_, _, _, h1, h2, _⟩ := CI.out
    cases h1
    exact h2
  have HLS : Hid (ss.length = n2) := by
    obtain ⟨_, _, _, h1, h2, _⟩ := NI.out
    cases h1
    exact h2
  clear h hs
  go_enter Try.func12, Try.ntmps12
  go_upto_region 1 with ((refine big_box rfl 29 _ rfl (rsA me) rfl (by kernel_rfl) ?_; intro gK3 wK3 hlK3 nK3 hbK3; have K3 := Lib.hid nK3; have LK3 := Lib.hid (Nat.le_trans (HB.out).size hlK3); have OCIK3 := Lib.hid ((CI.out).off hlK3); have ONIK3 := Lib.hid ((NI.out).off hlK3); replace CI := Lib.hid ((CI.out).keptB hbK3); replace NI := Lib.hid ((NI.out).keptB hbK3); replace HB := Lib.hid (bstep HB.out hbK3); clear hlK3 nK3 hbK3; try simp only [Act.put, List.setIfInBounds_toArray, List.set_cons_zero, List.set_cons_succ]))
  obtain ⟨B, hB⟩ := size_is9 K3.out
  have LBK3 := Lib.hid (show gK3 < B by rw [← hB]; exact (K3.out).inside)
  have LBC : Hid (∀ g o, A = some ⟨g, o, none⟩ → 0 < n → g < B) := by rw [Hid, ← hB]; exact (CI.out).low
  have LBN : Hid (∀ g o, A2 = some ⟨g, o, none⟩ → 0 < n2 → g < B) := by rw [Hid, ← hB]; exact (NI.out).low
  have HWB := Lib.hid (show w.heap.size ≤ B by rw [← hB]; exact (HB.out).size)
  have OW : Hid (RowB _ B 3 1 0 (.slice none 0 0) (intsL ((decAllN me l ss).take 0))) := RowB.nil (Nat.le_of_eq hB.symm)
  clear hB
  go_wp2
  go_loopw [7, 8] (fun s i v => ∃ (j : Nat) (x : Value), j ≤ n ∧ x = s ∧ i = .int .i64 j ∧ Hid (RowB v B 3 1 j x (intsL ((decAllN me l ss).take j))) ∧ Hid (ChsIn v (.slice A n c) l) ∧ Hid (NumIn v (.slice A2 n2 c2) ss) ∧ Hid (Holds v gK3 29 (rsA me)) ∧ Hid (Below w.heap.size w v)) (fun _ i _ => n - (intOf i).toNat)
  case atStart => exact ⟨0, _, by omega, rfl, rfl, OW, CI, NI, K3, HB⟩
  case round =>
    clear CI NI K3 HB OW
    rename_i V
    obtain ⟨j, x, hj, hx, rfl, OW, CI, NI, K3, HB⟩ := hrel
    subst hx
    by_cases hlt : j < n
    · have hd : decide ((j : Int) < (n : Int)) = true := by simpa using hlt
      have HST := Lib.hid (decAll_step me l ss (k := j) (by rw [HLN.out]; exact hlt))
      by_cases hs2 : j < n2
      · have d2 : decide ((j : Int) < (n2 : Int)) = true := by simpa using hs2
        obtain ⟨st, hst⟩ : ∃ st, ss[j]? = some st := ⟨_, List.getElem?_eq_getElem (show j < ss.length by rw [HLS.out]; exact hs2)⟩
        rw [show ss.getD j 3 = st by rw [List.getD_eq_getElem?_getD, hst]; rfl] at HST
        obtain ⟨d, HD⟩ : ∃ d, Hid (decideN me l (j : Int) st = d) := ⟨_, Lib.hid rfl⟩
        rw [HD.out] at HST
        obtain ⟨g, o, hA⟩ : ∃ g o, A2 = some ⟨g, o, none⟩ := by
          obtain ⟨_, _, _, h1, _, h3⟩ := NI.out
          cases h1
          obtain ⟨g, o, h4, _⟩ := h3 (by omega)
          exact ⟨g, o, h4⟩
        subst hA
        have xs := num_in NI.out hst
        clear hst
        have HS2 := Lib.hid hs2
        go_upto_region 8 with ((refine big_index rfl 31 _ _ rfl g o n2 c2 j 1 rfl rfl HS2.out Try.underlying31 (by kernel_rfl) ?_; try simp only [Act.put, List.setIfInBounds_toArray, List.set_cons_zero, List.set_cons_succ]))
        clear xs
        go_wp2_with ((refine big_whole rfl 29 _ rfl gK3 rfl K3.out Try.underlying29 rfl (by kernel_rfl) ?_; try simp only [Act.put, List.setIfInBounds_toArray, List.set_cons_zero, List.set_cons_succ]))
        refine (rdport10_any me A n c l (j : Int) st _ OM.out HO.out hn CI.out).mono ?_
        rintro e c1 ⟨rfl, hc1⟩
        replace OW := Lib.hid ((OW.out).keptB hc1)
        replace CI := Lib.hid ((CI.out).keptB hc1)
        replace NI := Lib.hid ((NI.out).keptB hc1)
        replace K3 := Lib.hid ((K3.out).keptB hc1)
        replace HB := Lib.hid (bstep HB.out hc1)
        clear hc1
        rw [HD.out]
        go_wp2_with (first | (refine big_append rfl _ _ 31 3 rfl (.int .i64 0) 1 8 Try.underlying31 info_int10 rfl (by omega) (by omega) B rfl OW.out gK9 1 (intsL [d]) rfl rfl ((K9.out).range (by kernel_rfl)) (by kernel_rfl) (by omega) (by omega) ?_; intro x2 w9 ow9 hg9 hn9; replace CI := Lib.hid ((CI.out).grown hg9 (fun g2 o2 h2 h3 => (OW.out).ne ((LBC.out) g2 o2 h2 h3))); replace NI := Lib.hid ((NI.out).grown hg9 (fun g2 o2 h2 h3 => (OW.out).ne ((LBN.out) g2 o2 h2 h3))); replace K3 := Lib.hid ((K3.out).grown hg9 ((OW.out).ne LBK3.out)); replace HB := Lib.hid ((OW.out).hb HWB.out HB.out hg9); replace OW := Lib.hid ow9; clear ow9 hg9 hn9 K9; try simp only [Act.put, List.setIfInBounds_toArray, List.set_cons_zero, List.set_cons_succ]) | (refine big_slice rfl 31 3 1 _ rfl (#[.int .i64 d]) Try.underlying31 rfl rfl rfl (of_decide_eq_true (by kernel_rfl)) (of_decide_eq_true (by kernel_rfl)) (by kernel_rfl) ?_; intro gK9 wK9 hlK9 nK9 hbK9; have K9 := Lib.hid nK9; replace OW := Lib.hid ((OW.out).keptB hbK9); replace CI := Lib.hid ((CI.out).keptB hbK9); replace NI := Lib.hid ((NI.out).keptB hbK9); replace K3 := Lib.hid ((K3.out).keptB hbK9); replace HB := Lib.hid (bstep HB.out hbK9); clear hlK9 nK9 hbK9; try simp only [Act.put, List.setIfInBounds_toArray, List.set_cons_zero, List.set_cons_succ]))
        go_roundw
        case rel => exact ⟨j + 1, _, by omega, rfl, by go_num, by rw [HST.out, intsL_append]; exact OW, CI, NI, K3, HB⟩
        case measure => simp [intOf]; omega
      · have d2 : decide ((j : Int) < (n2 : Int)) = false := by simpa using hs2
        rw [show ss.getD j 3 = 3 by rw [List.getD_eq_getElem?_getD, List.getElem?_eq_none (by rw [HLS.out]; omega)]; rfl] at HST
        obtain ⟨d, HD⟩ : ∃ d, Hid (decideN me l (j : Int) 3 = d) := ⟨_, Lib.hid rfl⟩
        rw [HD.out] at HST
        go_wp2_with ((refine big_whole rfl 29 _ rfl gK3 rfl K3.out Try.underlying29 rfl (by kernel_rfl) ?_; try simp only [Act.put, List.setIfInBounds_toArray, List.set_cons_zero, List.set_cons_succ]))
        refine (rdport10_any me A n c l (j : Int) 3 _ OM.out HO.out hn CI.out).mono ?_
        rintro e c1 ⟨rfl, hc1⟩
        replace OW := Lib.hid ((OW.out).keptB hc1)
        replace CI := Lib.hid ((CI.out).keptB hc1)
        replace NI := Lib.hid ((NI.out).keptB hc1)
        replace K3 := Lib.hid ((K3.out).keptB hc1)
        replace HB := Lib.hid (bstep HB.out hc1)
        clear hc1
        rw [HD.out]
        go_wp2_with (first | (refine big_append rfl _ _ 31 3 rfl (.int .i64 0) 1 8 Try.underlying31 info_int10 rfl (by omega) (by omega) B rfl OW.out gK9 1 (intsL [d]) rfl rfl ((K9.out).range (by kernel_rfl)) (by kernel_rfl) (by omega) (by omega) ?_; intro x2 w9 ow9 hg9 hn9; replace CI := Lib.hid ((CI.out).grown hg9 (fun g2 o2 h2 h3 => (OW.out).ne ((LBC.out) g2 o2 h2 h3))); replace NI := Lib.hid ((NI.out).grown hg9 (fun g2 o2 h2 h3 => (OW.out).ne ((LBN.out) g2 o2 h2 h3))); replace K3 := Lib.hid ((K3.out).grown hg9 ((OW.out).ne LBK3.out)); replace HB := Lib.hid ((OW.out).hb HWB.out HB.out hg9); replace OW := Lib.hid ow9; clear ow9 hg9 hn9 K9; try simp only [Act.put, List.setIfInBounds_toArray, List.set_cons_zero, List.set_cons_succ]) | (refine big_slice rfl 31 3 1 _ rfl (#[.int .i64 d]) Try.underlying31 rfl rfl rfl (of_decide_eq_true (by kernel_rfl)) (of_decide_eq_true (by kernel_rfl)) (by kernel_rfl) ?_; intro gK9 wK9 hlK9 nK9 hbK9; have K9 := Lib.hid nK9; replace OW := Lib.hid ((OW.out).keptB hbK9); replace CI := Lib.hid ((CI.out).keptB hbK9); replace NI := Lib.hid ((NI.out).keptB hbK9); replace K3 := Lib.hid ((K3.out).keptB hbK9); replace HB := Lib.hid (bstep HB.out hbK9); clear hlK9 nK9 hbK9; try simp only [Act.put, List.setIfInBounds_toArray, List.set_cons_zero, List.set_cons_succ]))
        go_roundw
        case rel => exact ⟨j + 1, _, by omega, rfl, by go_num, by rw [HST.out, intsL_append]; exact OW, CI, NI, K3, HB⟩
        case measure => simp [intOf]; omega
    · have hd : decide ((j : Int) < (n : Int)) = false := by simpa using hlt
      obtain rfl : j = n := by omega
      rw [List.take_of_length_le (by rw [decAll_len, HLN.out]; omega)] at OW
      have RI := Lib.hid (OW.out).nums
      go_wp2
      go_ret
      exact ⟨_, rfl, RI.out, HB.out⟩
set_option maxHeartbeats 4000000 in
theorem rmast10_any (A : Option Addr) (n c : Nat) (l : List Int) (w : World) (hn : n ≤ 1000000) (hs : NumIn w (.slice A n c) l) :
    Calls Try.prog 15 #[.slice A n c] w fun e w' => e = .returned (.int .i64 (mastersN l)) ∧ Below w.heap.size w w' := by
  have HB := Lib.hid (Below.refl w.heap.size w)
  have NI := Lib.hid hs
  have HLS : Hid (l.length = n) := by
    obtain ⟨_, _, _, h1, h2, _⟩ := NI.out
    cases h1
    exact h2
  clear hs
  go_enter Try.func15, Try.ntmps15
  go_wp2
  go_loopw [3, 4] (fun s i v => ∃ (j : Nat), j ≤ n ∧ s = .int .i64 (mastersN (l.take j)) ∧ i = .int .i64 j ∧ Hid (NumIn v (.slice A n c) l) ∧ Hid (Below w.heap.size w v)) (fun _ i _ => n - (intOf i).toNat)
  case atStart => exact ⟨0, by omega, rfl, rfl, NI, HB⟩
  case round =>
    clear NI HB
    rename_i V
    obtain ⟨j, hj, rfl, rfl, NI, HB⟩ := hrel
    by_cases hlt : j < n
    · have hd : decide ((j : Int) < (n : Int)) = true := by simpa using hlt
      obtain ⟨z, hz⟩ : ∃ z, l[j]? = some z := ⟨_, List.getElem?_eq_getElem (show j < l.length by rw [HLS.out]; exact hlt)⟩
      obtain ⟨g, o, hA⟩ : ∃ g o, A = some ⟨g, o, none⟩ := by
        obtain ⟨_, _, _, h1, _, h3⟩ := NI.out
        cases h1
        obtain ⟨g, o, h4, _⟩ := h3 (by omega)
        exact ⟨g, o, h4⟩
      subst hA
      have xs := num_in NI.out hz
      have HK := Lib.hid hlt
      have HST := Lib.hid (masters_step hz)
      have b0 := masters_bd (l.take j)
      have b1 : (l.take j).length ≤ j := by simp; omega
      obtain ⟨m, hm⟩ : ∃ m, mastersN (l.take j) = m := ⟨_, rfl⟩
      rw [hm] at b0 HST ⊢
      have hm1 : 0 ≤ m ∧ m ≤ 1000000 := by omega
      clear hz hm b0 b1
      by_cases t1 : z = 1
      · have e1 : (z == 1) = true := by simpa using t1
        have HM : Hid (mastersN (l.take (j + 1)) = m + 1) := by rw [Hid, HST.out]; unfold mastB; simp [e1]
        go_wp2_with ((refine big_index rfl 31 _ _ rfl g o n c j 1 rfl rfl HK.out Try.underlying31 (by kernel_rfl) ?_; try simp only [Act.put, List.setIfInBounds_toArray, List.set_cons_zero, List.set_cons_succ]))
        go_roundw
        case rel => exact ⟨j + 1, by omega, by rw [HM.out], by go_num, NI, HB⟩
        case measure => simp [intOf]; omega
      · by_cases t2 : z = 2
        · have e1 : (z == 1) = false := by simpa using t1
          have e2 : (z == 2) = true := by simpa using t2
          have HM : Hid (mastersN (l.take (j + 1)) = m + 1) := by rw [Hid, HST.out]; unfold mastB; simp [e1, e2]
          go_wp2_with ((refine big_index rfl 31 _ _ rfl g o n c j 1 rfl rfl HK.out Try.underlying31 (by kernel_rfl) ?_; try simp only [Act.put, List.setIfInBounds_toArray, List.set_cons_zero, List.set_cons_succ]))
          go_roundw
          case rel => exact ⟨j + 1, by omega, by rw [HM.out], by go_num, NI, HB⟩
          case measure => simp [intOf]; omega
        · by_cases t3 : z = 3
          · have e1 : (z == 1) = false := by simpa using t1
            have e2 : (z == 2) = false := by simpa using t2
            have e3 : (z == 3) = true := by simpa using t3
            have HM : Hid (mastersN (l.take (j + 1)) = m + 1) := by rw [Hid, HST.out]; unfold mastB; simp [e1, e2, e3]
            go_wp2_with ((refine big_index rfl 31 _ _ rfl g o n c j 1 rfl rfl HK.out Try.underlying31 (by kernel_rfl) ?_; try simp only [Act.put, List.setIfInBounds_toArray, List.set_cons_zero, List.set_cons_succ]))
            go_roundw
            case rel => exact ⟨j + 1, by omega, by rw [HM.out], by go_num, NI, HB⟩
            case measure => simp [intOf]; omega
          · have e1 : (z == 1) = false := by simpa using t1
            have e2 : (z == 2) = false := by simpa using t2
            have e3 : (z == 3) = false := by simpa using t3
            have HM : Hid (mastersN (l.take (j + 1)) = m + 0) := by rw [Hid, HST.out]; unfold mastB; simp [e1, e2, e3]
            go_wp2_with ((refine big_index rfl 31 _ _ rfl g o n c j 1 rfl rfl HK.out Try.underlying31 (by kernel_rfl) ?_; try simp only [Act.put, List.setIfInBounds_toArray, List.set_cons_zero, List.set_cons_succ]))
            go_roundw
            case rel => exact ⟨j + 1, by omega, by rw [HM.out]; simp, by go_num, NI, HB⟩
            case measure => simp [intOf]; omega
    · have hd : decide ((j : Int) < (n : Int)) = false := by simpa using hlt
      rw [List.take_of_length_le (by rw [HLS.out]; omega)]
      go_wp2
      go_ret
      exact ⟨rfl, HB.out⟩

end Go.Proofs.Ytpdnfeooijmgoaa
