/- The walk over the reference's Forget. -/
import Derived.Test.YtpbfnmokhmioaaaDoorSeqsRef3
import Derived.Deep.DeepCutAuto
import Derived.Deep.LoopGhost
import Derived.WalkMore
namespace Go.Proofs.YtpbfnmokhmioaaaDoor
set_option maxRecDepth 100000
open Go.RowKit
set_option linter.unusedVariables false
set_option linter.unusedSimpArgs false

theorem row_far {w : World} {B size n0 n c g : Nat} {e : TypeId} {A : Option Addr} {xs : List Value} (h : RowB w B e size n0 (.slice A n c) xs) (hg : g < B) : ∀ g' o, A = some ⟨g', o, none⟩ → 0 < n → g' ≠ g := by
  rintro g' o rfl _ rfl
  exact h.ne hg rfl
set_option maxHeartbeats 4000000 in
theorem rforget11_any (r : Rb) (A : Option Addr) (n c : Nat) (A1 : Option Addr) (n1 d1 : Nat) (s3 : Sl) (q : Pt) (w : World) (h : RbIn w r ⟨A, n, c⟩ ⟨A1, n1, d1⟩ s3) (hS : r.S.length ≤ 10000) (hL : r.L.length ≤ 10000) (hH : r.H.length ≤ 10000) :
    Calls Tryd.prog 23 #[.agg (rbA r.sent ⟨A, n, c⟩ ⟨A1, n1, d1⟩ s3), .agg (ptA q)] w fun e w' => ∃ t1 t2 t3 : Sl, e = .returned (.tuple #[.agg (rbA r.sent t1 t2 t3), .bool (knownB r.S q)]) ∧ RbIn w' (rforgetR r q) t1 t2 t3 ∧ Below w.heap.size w w' := by
  have HB := Lib.hid (Below.refl w.heap.size w)
  have HS := Lib.hid hS
  have HL := Lib.hid hL
  have HH := Lib.hid hH
  have RI := Lib.hid h
  clear hS hL hH h
  have HLN : Hid (r.S.length = n) := (RI.out).S.len
  have HLM : Hid (r.L.length = n1) := (RI.out).L.len
  have hn : n ≤ 10000 := by have := HS.out; have := HLN.out; omega
  have hn1 : n1 ≤ 10000 := by have := HL.out; have := HLM.out; omega
  go_enter Tryd.func23, Tryd.ntmps23
  go_upto_region 1 with (first | (refine big_alloc rfl 31 rfl (rbA (fun _ => 0) nilS nilS nilS) (by kernel_rfl) ?_; intro gK4 wK4 hlK4 nK4 hbK4; have K4 := Lib.hid nK4; have LK4 := Lib.hid (Nat.le_trans (HB.out).size hlK4); have ORIK4 := Lib.hid ((RI.out).off hlK4); have OK2K4 := Lib.hid ((K2.out).off hlK4); have OK3K4 := Lib.hid ((K3.out).off hlK4); replace RI := Lib.hid ((RI.out).keptB hbK4); replace K2 := Lib.hid ((K2.out).keptB hbK4); replace K3 := Lib.hid ((K3.out).keptB hbK4); replace HB := Lib.hid (bstep HB.out hbK4); clear hlK4 nK4 hbK4; try simp only [Act.put, List.setIfInBounds_toArray, List.set_cons_zero, List.set_cons_succ]) | (refine big_box rfl 35 _ rfl (ptA q) rfl (by kernel_rfl) ?_; intro gK3 wK3 hlK3 nK3 hbK3; have K3 := Lib.hid nK3; have LK3 := Lib.hid (Nat.le_trans (HB.out).size hlK3); have ORIK3 := Lib.hid ((RI.out).off hlK3); have OK2K3 := Lib.hid ((K2.out).off hlK3); replace RI := Lib.hid ((RI.out).keptB hbK3); replace K2 := Lib.hid ((K2.out).keptB hbK3); replace HB := Lib.hid (bstep HB.out hbK3); clear hlK3 nK3 hbK3; try simp only [Act.put, List.setIfInBounds_toArray, List.set_cons_zero, List.set_cons_succ]) | (refine big_box rfl 31 _ rfl (rbA r.sent ⟨A, n, c⟩ ⟨A1, n1, d1⟩ s3) rfl (by kernel_rfl) ?_; intro gK2 wK2 hlK2 nK2 hbK2; have K2 := Lib.hid nK2; have LK2 := Lib.hid (Nat.le_trans (HB.out).size hlK2); have ORIK2 := Lib.hid ((RI.out).off hlK2); replace RI := Lib.hid ((RI.out).keptB hbK2); replace HB := Lib.hid (bstep HB.out hbK2); clear hlK2 nK2 hbK2; try simp only [Act.put, List.setIfInBounds_toArray, List.set_cons_zero, List.set_cons_succ]))
  go_wp2_with (first | (refine big_whole rfl 31 _ rfl gK2 rfl K2.out Tryd.underlying31 rfl (by kernel_rfl) ?_; try simp only [Act.put, List.setIfInBounds_toArray, List.set_cons_zero, List.set_cons_succ]) | (refine big_whole rfl 35 _ rfl gK3 rfl K3.out Tryd.underlying35 rfl (by kernel_rfl) ?_; try simp only [Act.put, List.setIfInBounds_toArray, List.set_cons_zero, List.set_cons_succ]))
  refine (rknown11_any r.sent A n c ⟨A1, n1, d1⟩ s3 r.S q _ (RI.out).S (by omega)).mono ?_
  rintro e c1 ⟨rfl, hc1⟩
  replace RI := Lib.hid ((RI.out).keptB hc1)
  replace K2 := Lib.hid ((K2.out).keptB hc1)
  replace K3 := Lib.hid ((K3.out).keptB hc1)
  replace K4 := Lib.hid ((K4.out).keptB hc1)
  replace HB := Lib.hid (bstep HB.out hc1)
  clear hc1
  cases hq : knownB r.S q
  · have HX : Hid (rforgetR r q = r) := by unfold rforgetR; rw [Hid, hq]; rfl
    have HQQ := Lib.hid hq
    clear hq
    go_wp2_with (first | (refine big_fill rfl 31 _ _ rfl gK4 (rbA r.sent ⟨A, n, c⟩ ⟨A1, n1, d1⟩ s3) rfl rfl K4.out (by kernel_rfl) (by kernel_rfl) (by kernel_rfl) ?_; intro vK43 nK4 htK4; replace K4 := Lib.hid nK4; replace RI := Lib.hid ((RI.out).touch htK4 ORIK4.out); replace K2 := Lib.hid ((K2.out).touch htK4 OK2K4.out); replace K3 := Lib.hid ((K3.out).touch htK4 OK3K4.out); replace HB := Lib.hid (btouch HB.out htK4 LK4.out); clear nK4 htK4; try simp only [Act.put, List.setIfInBounds_toArray, List.set_cons_zero, List.set_cons_succ]) | (refine big_whole rfl 31 _ rfl gK2 rfl K2.out Tryd.underlying31 rfl (by kernel_rfl) ?_; try simp only [Act.put, List.setIfInBounds_toArray, List.set_cons_zero, List.set_cons_succ]))
    refine bodyPost_ret (v := .tuple #[.agg (rbA r.sent ⟨A, n, c⟩ ⟨A1, n1, d1⟩ s3), .bool false]) (results_two rfl _ _ gK4 _ _ _ _ rfl rfl (K4).out Tryd.underlying31 rfl (by kernel_rfl)) rfl ?_
    rw [HX.out, HQQ.out]
    exact ⟨_, _, _, rfl, RI.out, HB.out⟩
  · have HX : Hid (rforgetR r q = ⟨r.sent, noS r.S q, noL r.L q, noH r.H q⟩) := by unfold rforgetR; rw [Hid, hq]; rfl
    have HQQ := Lib.hid hq
    clear hq
    obtain ⟨B, hB⟩ := size_isH K4
    have LBK2 := Lib.hid (show gK2 < B by rw [← hB]; exact (K2.out).inside)
    have LBK3 := Lib.hid (show gK3 < B by rw [← hB]; exact (K3.out).inside)
    have LBK4 := Lib.hid (show gK4 < B by rw [← hB]; exact (K4.out).inside)
    have LBRI := Lib.hid ((RI.out).low (Nat.le_of_eq hB))
    have HWB := Lib.hid (show w.heap.size ≤ B by rw [← hB]; exact (HB.out).size)
    have OW : Hid (RowB _ B 35 9 ([] : List Pt).length (.slice none 0 0) (rowsL ([] : List Pt))) := RowB.nil (Nat.le_of_eq hB.symm)
    clear hB
    go_wp2
    go_loopw [6, 7] (fun s i v => ∃ (k : Nat) (F : List Pt) (x : Value), k ≤ n ∧ x = s ∧ i = .int .i64 k ∧ Hid (noS (r.S.take k) q = F) ∧ Hid (RowB v B 35 9 F.length x (rowsL F)) ∧ Hid (RbIn v r ⟨A, n, c⟩ ⟨A1, n1, d1⟩ s3) ∧ Hid (Holds v gK2 31 (rbA r.sent ⟨A, n, c⟩ ⟨A1, n1, d1⟩ s3)) ∧ Hid (Holds v gK3 35 (ptA q)) ∧ Hid (Holds v gK4 31 (rbA (fun _ => 0) nilS nilS nilS)) ∧ Hid (Below w.heap.size w v)) (fun _ i _ => n - (intOf i).toNat)
    case atStart => exact ⟨0, [], _, by omega, rfl, rfl, Lib.hid rfl, OW, RI, K2, K3, K4, HB⟩
    case round =>
      clear OW RI K2 K3 K4 HB
      rename_i V
      obtain ⟨k, F, x, hk, hx, rfl, HF, OW, RI, K2, K3, K4, HB⟩ := hrel
      subst hx
      by_cases hlt : k < n
      · have hd : decide ((k : Int) < (n : Int)) = true := by simpa using hlt
        obtain ⟨y, hx⟩ : ∃ x, r.S[k]? = some x := ⟨_, List.getElem?_eq_getElem (show k < r.S.length by rw [HLN.out]; exact hlt)⟩
        have HXE := Lib.hid hx
        have HK := Lib.hid hlt
        obtain ⟨g, o, hA⟩ := ((RI.out).S).lies (show 0 < n by omega)
        change A = _ at hA
        subst hA
        clear hx
        have HLE : Hid (F.length ≤ k) := by
          have h1 := noS_le (r.S.take k) q
          have h2 : (r.S.take k).length ≤ k := by rw [List.length_take]; omega
          rw [Hid, ← HF.out]
          omega
        have HST := Lib.hid (noS_step (q := q) HXE.out)
        rw [HF.out] at HST
        have x16 := (K2.out).reads (i := 16) (x := .slice (some ⟨g, o, none⟩) n c) rfl
        go_upto_region 7 with fail
        clear x16
        cases hq : eqP y q
        · have HF2 : Hid (noS (r.S.take (k + 1)) q = F ++ [y]) := by rw [Hid, HST.out, hq]; simp
          have HQ := Lib.hid hq
          clear hq
          refine wp_region_noPanic ?_
          refine wp_region_held_drew (S := fun v => Below w.heap.size w v ∧ RbIn v r ⟨some ⟨g, o, none⟩, n, c⟩ ⟨A1, n1, d1⟩ s3 ∧ Holds v gK2 31 (rbA r.sent ⟨some ⟨g, o, none⟩, n, c⟩ ⟨A1, n1, d1⟩ s3) ∧ Holds v gK3 35 (ptA q) ∧ RowB v B 35 9 F.length x (rowsL F) ∧ Holds v gK4 31 (rbA (fun _ => 0) nilS nilS nilS) ∧ True) (by kernel_rfl) ?_ (fun hHeld => ?_)
          · exact ⟨bdrew HB.out, (RI.out).drew, (K2.out).drew, (K3.out).drew, (OW.out).drew, (K4.out).drew, trivial⟩
          clear HB RI K2 K3 OW K4
          refine wpAnyH_take (i := 0) (v := .pointer (some ⟨gK2, 16, none⟩)) (at_list rfl) (by kernel_rfl) (by kernel_rfl) (by kernel_rfl) (fun _ _ _ h => h) (Or.inl ⟨by rfl, ?_⟩) hHeld ?_
          · intro v hSv
            clear hHeld
            go_simp
          try simp only [Act.put, List.setIfInBounds_toArray, List.set_cons_zero, List.set_cons_succ]
          refine wpAnyH_take (i := 1) (v := .slice (some ⟨g, o, none⟩) n c) (at_list rfl) (by kernel_rfl) (by kernel_rfl) (by kernel_rfl) (fun _ _ _ h => h) (Or.inl ⟨by rfl, ?_⟩) hHeld ?_
          · intro v hSv
            clear hHeld
            have q := Holds.reads (hSv.2.2.1) (i := 16) (x := .slice (some ⟨g, o, none⟩) n c) rfl
            clear hSv
            go_simp
          try simp only [Act.put, List.setIfInBounds_toArray, List.set_cons_zero, List.set_cons_succ]
          refine wpAnyH_take (i := 2) (v := .int .i64 k) (at_list rfl) (by kernel_rfl) (by kernel_rfl) (by kernel_rfl) (fun _ _ _ h => h) (Or.inl ⟨by rfl, ?_⟩) hHeld ?_
          · intro v hSv
            clear hHeld
            go_simp
          try simp only [Act.put, List.setIfInBounds_toArray, List.set_cons_zero, List.set_cons_succ]
          refine wpAnyH_take (i := 3) (v := .pointer (some ⟨g, o + k * 9, none⟩)) (at_list rfl) (by kernel_rfl) (by kernel_rfl) (by kernel_rfl) (fun _ _ _ h => h) (yields_index (by rfl) 27 _ _ rfl g o n c k 9 rfl rfl HK.out Tryd.underlying27 (by kernel_rfl)) hHeld ?_
          try simp only [Act.put, List.setIfInBounds_toArray, List.set_cons_zero, List.set_cons_succ]
          refine wpAnyH_take (i := 4) (v := .agg (ptA y)) (at_list rfl) (by kernel_rfl) (by kernel_rfl) (by kernel_rfl) (fun _ _ _ h => h) (yieldsIf_load_mid (by rfl) 35 _ rfl g (o + k * 9) rfl (ptA y).toList _ (fun v hv => pts_at (hv.2.1).S HXE.out) Tryd.underlying35 rfl (by kernel_rfl)) hHeld ?_
          try simp only [Act.put, List.setIfInBounds_toArray, List.set_cons_zero, List.set_cons_succ]
          refine wpAnyH_take (i := 5) (v := .agg (ptA q)) (at_list rfl) (by kernel_rfl) (by kernel_rfl) (by kernel_rfl) (fun _ _ _ h => h) (yields_whole (by rfl) 35 _ rfl gK3 rfl (fun v hv => hv.2.2.2.1) Tryd.underlying35 rfl (by kernel_rfl)) hHeld ?_
          try simp only [Act.put, List.setIfInBounds_toArray, List.set_cons_zero, List.set_cons_succ]
          refine wpAnyH_take (i := 6) (v := .bool true) (at_list rfl) (by kernel_rfl) (by kernel_rfl) (by kernel_rfl) (fun _ _ _ h => h) (yields_cmp (by rfl) .neq 35 _ _ _ rfl (ptA y) (ptA q) rfl rfl (by kernel_rfl) true (fun v => (neq_port y q v).trans (by rw [HQ.out]; rfl))) hHeld ?_
          try simp only [Act.put, List.setIfInBounds_toArray, List.set_cons_zero, List.set_cons_succ]
          refine wpAnyH_done (by kernel_rfl) ?_ _
          refine NoPanic.normal ?_
          have HB := Lib.hid hHeld.1
          have RI := Lib.hid hHeld.2.1
          have K2 := Lib.hid hHeld.2.2.1
          have K3 := Lib.hid hHeld.2.2.2.1
          have OW := Lib.hid hHeld.2.2.2.2.1
          have K4 := Lib.hid hHeld.2.2.2.2.2.1
          clear hHeld
          have x16 := (K2.out).reads (i := 16) (x := .slice (some ⟨g, o, none⟩) n c) rfl
          go_wp2_with (first | (refine big_append rfl _ _ 27 35 rfl _ 9 16 Tryd.underlying27 info_pt rfl (by omega) (by omega) B rfl OW.out gK9 1 (ptA y).toList rfl rfl ((K9.out).range (by kernel_rfl)) (by kernel_rfl) (by omega) (by have := HLE.out; omega) ?_; intro x2 w9 ow9 hg9 hn9; replace RI := Lib.hid ((RI.out).grown hg9 LBRI.out (fun b hb => (OW.out).ne hb)); replace K2 := Lib.hid ((K2.out).grown hg9 ((OW.out).ne LBK2.out)); replace K3 := Lib.hid ((K3.out).grown hg9 ((OW.out).ne LBK3.out)); replace K4 := Lib.hid ((K4.out).grown hg9 ((OW.out).ne LBK4.out)); replace HB := Lib.hid ((OW.out).hb HWB.out HB.out hg9); replace OW := Lib.hid ow9; clear ow9 hg9 hn9 K9; try simp only [Act.put, List.setIfInBounds_toArray, List.set_cons_zero, List.set_cons_succ]) | (refine big_slices rfl 27 35 1 _ rfl (ptA y) 9 Tryd.underlying27 rfl rfl rfl (of_decide_eq_true (by kernel_rfl)) (of_decide_eq_true (by kernel_rfl)) (by kernel_rfl) ?_; intro gK9 wK9 hlK9 nK9 hbK9; have K9 := Lib.hid nK9; replace OW := Lib.hid ((OW.out).keptB hbK9); replace RI := Lib.hid ((RI.out).keptB hbK9); replace K2 := Lib.hid ((K2.out).keptB hbK9); replace K3 := Lib.hid ((K3.out).keptB hbK9); replace K4 := Lib.hid ((K4.out).keptB hbK9); replace HB := Lib.hid (bstep HB.out hbK9); clear hlK9 nK9 hbK9; try simp only [Act.put, List.setIfInBounds_toArray, List.set_cons_zero, List.set_cons_succ]) | (refine big_loadAt rfl 35 _ rfl g (o + k * 9) rfl (ptA y) (pts_at (RI.out).S HXE.out) Tryd.underlying35 rfl (by kernel_rfl) ?_; try simp only [Act.put, List.setIfInBounds_toArray, List.set_cons_zero, List.set_cons_succ]) | (refine big_index rfl 27 _ _ rfl g o n c k 9 rfl rfl HK.out Tryd.underlying27 (by kernel_rfl) ?_; try simp only [Act.put, List.setIfInBounds_toArray, List.set_cons_zero, List.set_cons_succ]))
          replace OW := Lib.hid (pt_snoc OW.out)
          go_roundw
          case rel => exact ⟨k + 1, (F ++ [y]), _, by omega, rfl, by go_num, HF2, OW, RI, K2, K3, K4, HB⟩
          case measure => simp [intOf]; omega
        · have HF2 : Hid (noS (r.S.take (k + 1)) q = F) := by rw [Hid, HST.out, hq]; simp
          have HQ := Lib.hid hq
          clear hq
          refine wp_region_noPanic ?_
          refine wp_region_held_drew (S := fun v => Below w.heap.size w v ∧ RbIn v r ⟨some ⟨g, o, none⟩, n, c⟩ ⟨A1, n1, d1⟩ s3 ∧ Holds v gK2 31 (rbA r.sent ⟨some ⟨g, o, none⟩, n, c⟩ ⟨A1, n1, d1⟩ s3) ∧ Holds v gK3 35 (ptA q) ∧ RowB v B 35 9 F.length x (rowsL F) ∧ Holds v gK4 31 (rbA (fun _ => 0) nilS nilS nilS) ∧ True) (by kernel_rfl) ?_ (fun hHeld => ?_)
          · exact ⟨bdrew HB.out, (RI.out).drew, (K2.out).drew, (K3.out).drew, (OW.out).drew, (K4.out).drew, trivial⟩
          clear HB RI K2 K3 OW K4
          refine wpAnyH_take (i := 0) (v := .pointer (some ⟨gK2, 16, none⟩)) (at_list rfl) (by kernel_rfl) (by kernel_rfl) (by kernel_rfl) (fun _ _ _ h => h) (Or.inl ⟨by rfl, ?_⟩) hHeld ?_
          · intro v hSv
            clear hHeld
            go_simp
          try simp only [Act.put, List.setIfInBounds_toArray, List.set_cons_zero, List.set_cons_succ]
          refine wpAnyH_take (i := 1) (v := .slice (some ⟨g, o, none⟩) n c) (at_list rfl) (by kernel_rfl) (by kernel_rfl) (by kernel_rfl) (fun _ _ _ h => h) (Or.inl ⟨by rfl, ?_⟩) hHeld ?_
          · intro v hSv
            clear hHeld
            have q := Holds.reads (hSv.2.2.1) (i := 16) (x := .slice (some ⟨g, o, none⟩) n c) rfl
            clear hSv
            go_simp
          try simp only [Act.put, List.setIfInBounds_toArray, List.set_cons_zero, List.set_cons_succ]
          refine wpAnyH_take (i := 2) (v := .int .i64 k) (at_list rfl) (by kernel_rfl) (by kernel_rfl) (by kernel_rfl) (fun _ _ _ h => h) (Or.inl ⟨by rfl, ?_⟩) hHeld ?_
          · intro v hSv
            clear hHeld
            go_simp
          try simp only [Act.put, List.setIfInBounds_toArray, List.set_cons_zero, List.set_cons_succ]
          refine wpAnyH_take (i := 3) (v := .pointer (some ⟨g, o + k * 9, none⟩)) (at_list rfl) (by kernel_rfl) (by kernel_rfl) (by kernel_rfl) (fun _ _ _ h => h) (yields_index (by rfl) 27 _ _ rfl g o n c k 9 rfl rfl HK.out Tryd.underlying27 (by kernel_rfl)) hHeld ?_
          try simp only [Act.put, List.setIfInBounds_toArray, List.set_cons_zero, List.set_cons_succ]
          refine wpAnyH_take (i := 4) (v := .agg (ptA y)) (at_list rfl) (by kernel_rfl) (by kernel_rfl) (by kernel_rfl) (fun _ _ _ h => h) (yieldsIf_load_mid (by rfl) 35 _ rfl g (o + k * 9) rfl (ptA y).toList _ (fun v hv => pts_at (hv.2.1).S HXE.out) Tryd.underlying35 rfl (by kernel_rfl)) hHeld ?_
          try simp only [Act.put, List.setIfInBounds_toArray, List.set_cons_zero, List.set_cons_succ]
          refine wpAnyH_take (i := 5) (v := .agg (ptA q)) (at_list rfl) (by kernel_rfl) (by kernel_rfl) (by kernel_rfl) (fun _ _ _ h => h) (yields_whole (by rfl) 35 _ rfl gK3 rfl (fun v hv => hv.2.2.2.1) Tryd.underlying35 rfl (by kernel_rfl)) hHeld ?_
          try simp only [Act.put, List.setIfInBounds_toArray, List.set_cons_zero, List.set_cons_succ]
          refine wpAnyH_take (i := 6) (v := .bool false) (at_list rfl) (by kernel_rfl) (by kernel_rfl) (by kernel_rfl) (fun _ _ _ h => h) (yields_cmp (by rfl) .neq 35 _ _ _ rfl (ptA y) (ptA q) rfl rfl (by kernel_rfl) false (fun v => (neq_port y q v).trans (by rw [HQ.out]; rfl))) hHeld ?_
          try simp only [Act.put, List.setIfInBounds_toArray, List.set_cons_zero, List.set_cons_succ]
          refine wpAnyH_done (by kernel_rfl) ?_ _
          refine NoPanic.normal ?_
          have HB := Lib.hid hHeld.1
          have RI := Lib.hid hHeld.2.1
          have K2 := Lib.hid hHeld.2.2.1
          have K3 := Lib.hid hHeld.2.2.2.1
          have OW := Lib.hid hHeld.2.2.2.2.1
          have K4 := Lib.hid hHeld.2.2.2.2.2.1
          clear hHeld
          go_wp2
          go_roundw
          case rel => exact ⟨k + 1, F, _, by omega, rfl, by go_num, HF2, OW, RI, K2, K3, K4, HB⟩
          case measure => simp [intOf]; omega
      · have hd : decide ((k : Int) < (n : Int)) = false := by simpa using hlt
        obtain rfl : n = k := by omega
        have x16 := (K2.out).reads (i := 16) (x := .slice A n c) rfl
        rw [List.take_of_length_le (by rw [HLN.out]; omega)] at HF
        obtain rfl := HF.out
        obtain ⟨A2, n2, c2, rfl⟩ := (OW.out).form_
        have NN2 : Hid (∀ g' o, A2 = some ⟨g', o, none⟩ → 0 < n2 → g' ≠ gK2) := row_far (OW.out) LBK2.out
        have NN4 : Hid (∀ g' o, A2 = some ⟨g', o, none⟩ → 0 < n2 → g' ≠ gK4) := row_far (OW.out) LBK4.out
        have NI : Hid (RowsIn _ (.slice A2 n2 c2) (noS r.S q)) := (OW.out).rows
        clear OW LBK2 LBK3 LBK4 LBRI HWB HF hlt
        obtain ⟨B2, hB⟩ := size_isH K4
        have LBK2 := Lib.hid (show gK2 < B2 by rw [← hB]; exact (K2.out).inside)
        have LBK3 := Lib.hid (show gK3 < B2 by rw [← hB]; exact (K3.out).inside)
        have LBK4 := Lib.hid (show gK4 < B2 by rw [← hB]; exact (K4.out).inside)
        have LBRI := Lib.hid ((RI.out).low (Nat.le_of_eq hB))
        have HWB := Lib.hid (show w.heap.size ≤ B2 by rw [← hB]; exact (HB.out).size)
        have LBNI : Hid (SlLow ⟨A2, n2, c2⟩ B2) := by rw [Hid, ← hB]; exact (NI.out).low
        have OW : Hid (RowB _ B2 76 11 ([] : List Rl).length (.slice none 0 0) (rowsL ([] : List Rl))) := RowB.nil (Nat.le_of_eq hB.symm)
        clear hB
        go_wp2
        go_loopw [8, 9] (fun s i v => ∃ (j : Nat) (F : List Rl) (x : Value), j ≤ n1 ∧ x = s ∧ i = .int .i64 j ∧ Hid (noL (r.L.take j) q = F) ∧ Hid (RowB v B2 76 11 F.length x (rowsL F)) ∧ Hid (RbIn v r ⟨A, n, c⟩ ⟨A1, n1, d1⟩ s3) ∧ Hid (Holds v gK2 31 (rbA r.sent ⟨A, n, c⟩ ⟨A1, n1, d1⟩ s3)) ∧ Hid (Holds v gK3 35 (ptA q)) ∧ Hid (Holds v gK4 31 (rbA (fun _ => 0) nilS nilS nilS)) ∧ Hid (RowsIn v (.slice A2 n2 c2) (noS r.S q)) ∧ Hid (Below w.heap.size w v)) (fun _ i _ => n1 - (intOf i).toNat)
        case atStart => exact ⟨0, [], _, by omega, rfl, rfl, Lib.hid rfl, OW, RI, K2, K3, K4, NI, HB⟩
        case round =>
          clear OW RI K2 K3 K4 NI HB
          rename_i V
          obtain ⟨k, F, x, hk, hx, rfl, HF, OW, RI, K2, K3, K4, NI, HB⟩ := hrel
          subst hx
          by_cases hlt : k < n1
          · have hd : decide ((k : Int) < (n1 : Int)) = true := by simpa using hlt
            obtain ⟨y, hx⟩ : ∃ x, r.L[k]? = some x := ⟨_, List.getElem?_eq_getElem (show k < r.L.length by rw [HLM.out]; exact hlt)⟩
            have HXE := Lib.hid hx
            have HK := Lib.hid hlt
            obtain ⟨g, o, hA⟩ := ((RI.out).L).lies (show 0 < n1 by omega)
            change A1 = _ at hA
            subst hA
            clear hx
            have HLE : Hid (F.length ≤ k) := by
              have h1 := noL_le (r.L.take k) q
              have h2 : (r.L.take k).length ≤ k := by rw [List.length_take]; omega
              rw [Hid, ← HF.out]
              omega
            have HST := Lib.hid (noL_step (q := q) HXE.out)
            rw [HF.out] at HST
            have x16 := (K2.out).reads (i := 17) (x := .slice (some ⟨g, o, none⟩) n1 d1) rfl
            go_upto_region 13 with fail
            clear x16
            cases hq : eqP y.p q
            · have HF2 : Hid (noL (r.L.take (k + 1)) q = F ++ [y]) := by rw [Hid, HST.out, hq]; simp
              have HQ := Lib.hid hq
              clear hq
              refine wp_region_noPanic ?_
              refine wp_region_held_drew (S := fun v => Below w.heap.size w v ∧ RbIn v r ⟨A, n, c⟩ ⟨some ⟨g, o, none⟩, n1, d1⟩ s3 ∧ Holds v gK2 31 (rbA r.sent ⟨A, n, c⟩ ⟨some ⟨g, o, none⟩, n1, d1⟩ s3) ∧ Holds v gK3 35 (ptA q) ∧ RowB v B2 76 11 F.length x (rowsL F) ∧ Holds v gK4 31 (rbA (fun _ => 0) nilS nilS nilS) ∧ RowsIn v (.slice A2 n2 c2) (noS r.S q) ∧ True) (by kernel_rfl) ?_ (fun hHeld => ?_)
              · exact ⟨bdrew HB.out, (RI.out).drew, (K2.out).drew, (K3.out).drew, (OW.out).drew, (K4.out).drew, (NI.out).drew, trivial⟩
              clear HB RI K2 K3 OW K4 NI
              refine wpAnyH_take (i := 0) (v := .pointer (some ⟨gK2, 17, none⟩)) (at_list rfl) (by kernel_rfl) (by kernel_rfl) (by kernel_rfl) (fun _ _ _ h => h) (Or.inl ⟨by rfl, ?_⟩) hHeld ?_
              · intro v hSv
                clear hHeld
                go_simp
              try simp only [Act.put, List.setIfInBounds_toArray, List.set_cons_zero, List.set_cons_succ]
              refine wpAnyH_take (i := 1) (v := .slice (some ⟨g, o, none⟩) n1 d1) (at_list rfl) (by kernel_rfl) (by kernel_rfl) (by kernel_rfl) (fun _ _ _ h => h) (Or.inl ⟨by rfl, ?_⟩) hHeld ?_
              · intro v hSv
                clear hHeld
                have q := Holds.reads (hSv.2.2.1) (i := 17) (x := .slice (some ⟨g, o, none⟩) n1 d1) rfl
                clear hSv
                go_simp
              try simp only [Act.put, List.setIfInBounds_toArray, List.set_cons_zero, List.set_cons_succ]
              refine wpAnyH_take (i := 2) (v := .int .i64 k) (at_list rfl) (by kernel_rfl) (by kernel_rfl) (by kernel_rfl) (fun _ _ _ h => h) (Or.inl ⟨by rfl, ?_⟩) hHeld ?_
              · intro v hSv
                clear hHeld
                go_simp
              try simp only [Act.put, List.setIfInBounds_toArray, List.set_cons_zero, List.set_cons_succ]
              refine wpAnyH_take (i := 3) (v := .pointer (some ⟨g, o + k * 11, none⟩)) (at_list rfl) (by kernel_rfl) (by kernel_rfl) (by kernel_rfl) (fun _ _ _ h => h) (yields_index (by rfl) 28 _ _ rfl g o n1 d1 k 11 rfl rfl HK.out Tryd.underlying28 (by kernel_rfl)) hHeld ?_
              try simp only [Act.put, List.setIfInBounds_toArray, List.set_cons_zero, List.set_cons_succ]
              refine wpAnyH_take (i := 4) (v := .pointer (some ⟨g, o + k * 11, none⟩)) (at_list rfl) (by kernel_rfl) (by kernel_rfl) (by kernel_rfl) (fun _ _ _ h => h) (Or.inl ⟨by rfl, ?_⟩) hHeld ?_
              · intro v hSv
                clear hHeld
                go_simp
              try simp only [Act.put, List.setIfInBounds_toArray, List.set_cons_zero, List.set_cons_succ]
              refine wpAnyH_take (i := 5) (v := .agg (ptA y.p)) (at_list rfl) (by kernel_rfl) (by kernel_rfl) (by kernel_rfl) (fun _ _ _ h => h) (yieldsIf_load_mid (by rfl) 35 _ rfl g (o + k * 11) rfl (ptA y.p).toList _ (fun v hv => las_port (hv.2.1).L HXE.out) Tryd.underlying35 rfl (by kernel_rfl)) hHeld ?_
              try simp only [Act.put, List.setIfInBounds_toArray, List.set_cons_zero, List.set_cons_succ]
              refine wpAnyH_take (i := 6) (v := .agg (ptA q)) (at_list rfl) (by kernel_rfl) (by kernel_rfl) (by kernel_rfl) (fun _ _ _ h => h) (yields_whole (by rfl) 35 _ rfl gK3 rfl (fun v hv => hv.2.2.2.1) Tryd.underlying35 rfl (by kernel_rfl)) hHeld ?_
              try simp only [Act.put, List.setIfInBounds_toArray, List.set_cons_zero, List.set_cons_succ]
              refine wpAnyH_take (i := 7) (v := .bool true) (at_list rfl) (by kernel_rfl) (by kernel_rfl) (by kernel_rfl) (fun _ _ _ h => h) (yields_cmp (by rfl) .neq 35 _ _ _ rfl (ptA y.p) (ptA q) rfl rfl (by kernel_rfl) true (fun v => (neq_port y.p q v).trans (by rw [HQ.out]; rfl))) hHeld ?_
              try simp only [Act.put, List.setIfInBounds_toArray, List.set_cons_zero, List.set_cons_succ]
              refine wpAnyH_done (by kernel_rfl) ?_ _
              refine NoPanic.normal ?_
              have HB := Lib.hid hHeld.1
              have RI := Lib.hid hHeld.2.1
              have K2 := Lib.hid hHeld.2.2.1
              have K3 := Lib.hid hHeld.2.2.2.1
              have OW := Lib.hid hHeld.2.2.2.2.1
              have K4 := Lib.hid hHeld.2.2.2.2.2.1
              have NI := Lib.hid hHeld.2.2.2.2.2.2.1
              clear hHeld
              have x16 := (K2.out).reads (i := 17) (x := .slice (some ⟨g, o, none⟩) n1 d1) rfl
              go_wp2_with (first | (refine big_append rfl _ _ 28 76 rfl _ 11 32 Tryd.underlying28 info_rl rfl (by omega) (by omega) B2 rfl OW.out gK9 1 (rlA y).toList rfl rfl ((K9.out).range (by kernel_rfl)) (by kernel_rfl) (by omega) (by have := HLE.out; omega) ?_; intro x2 w9 ow9 hg9 hn9; replace RI := Lib.hid ((RI.out).grown hg9 LBRI.out (fun b hb => (OW.out).ne hb)); replace K2 := Lib.hid ((K2.out).grown hg9 ((OW.out).ne LBK2.out)); replace K3 := Lib.hid ((K3.out).grown hg9 ((OW.out).ne LBK3.out)); replace K4 := Lib.hid ((K4.out).grown hg9 ((OW.out).ne LBK4.out)); replace NI := Lib.hid ((NI.out).grown hg9 (fun g2 o2 h2 h3 => (OW.out).ne (LBNI.out g2 o2 h2 h3))); replace HB := Lib.hid ((OW.out).hb HWB.out HB.out hg9); replace OW := Lib.hid ow9; clear ow9 hg9 hn9 K9; try simp only [Act.put, List.setIfInBounds_toArray, List.set_cons_zero, List.set_cons_succ]) | (refine big_slices rfl 28 76 1 _ rfl (rlA y) 11 Tryd.underlying28 rfl rfl rfl (of_decide_eq_true (by kernel_rfl)) (of_decide_eq_true (by kernel_rfl)) (by kernel_rfl) ?_; intro gK9 wK9 hlK9 nK9 hbK9; have K9 := Lib.hid nK9; replace OW := Lib.hid ((OW.out).keptB hbK9); replace RI := Lib.hid ((RI.out).keptB hbK9); replace K2 := Lib.hid ((K2.out).keptB hbK9); replace K3 := Lib.hid ((K3.out).keptB hbK9); replace K4 := Lib.hid ((K4.out).keptB hbK9); replace NI := Lib.hid ((NI.out).keptB hbK9); replace HB := Lib.hid (bstep HB.out hbK9); clear hlK9 nK9 hbK9; try simp only [Act.put, List.setIfInBounds_toArray, List.set_cons_zero, List.set_cons_succ]) | (refine big_loadAt rfl 76 _ rfl g (o + k * 11) rfl (rlA y) (las_at (RI.out).L HXE.out) Tryd.underlying76 rfl (by kernel_rfl) ?_; try simp only [Act.put, List.setIfInBounds_toArray, List.set_cons_zero, List.set_cons_succ]) | (refine big_index rfl 28 _ _ rfl g o n1 d1 k 11 rfl rfl HK.out Tryd.underlying28 (by kernel_rfl) ?_; try simp only [Act.put, List.setIfInBounds_toArray, List.set_cons_zero, List.set_cons_succ]))
              replace OW := Lib.hid (rl_snoc OW.out)
              go_roundw
              case rel => exact ⟨k + 1, (F ++ [y]), _, by omega, rfl, by go_num, HF2, OW, RI, K2, K3, K4, NI, HB⟩
              case measure => simp [intOf]; omega
            · have HF2 : Hid (noL (r.L.take (k + 1)) q = F) := by rw [Hid, HST.out, hq]; simp
              have HQ := Lib.hid hq
              clear hq
              refine wp_region_noPanic ?_
              refine wp_region_held_drew (S := fun v => Below w.heap.size w v ∧ RbIn v r ⟨A, n, c⟩ ⟨some ⟨g, o, none⟩, n1, d1⟩ s3 ∧ Holds v gK2 31 (rbA r.sent ⟨A, n, c⟩ ⟨some ⟨g, o, none⟩, n1, d1⟩ s3) ∧ Holds v gK3 35 (ptA q) ∧ RowB v B2 76 11 F.length x (rowsL F) ∧ Holds v gK4 31 (rbA (fun _ => 0) nilS nilS nilS) ∧ RowsIn v (.slice A2 n2 c2) (noS r.S q) ∧ True) (by kernel_rfl) ?_ (fun hHeld => ?_)
              · exact ⟨bdrew HB.out, (RI.out).drew, (K2.out).drew, (K3.out).drew, (OW.out).drew, (K4.out).drew, (NI.out).drew, trivial⟩
              clear HB RI K2 K3 OW K4 NI
              refine wpAnyH_take (i := 0) (v := .pointer (some ⟨gK2, 17, none⟩)) (at_list rfl) (by kernel_rfl) (by kernel_rfl) (by kernel_rfl) (fun _ _ _ h => h) (Or.inl ⟨by rfl, ?_⟩) hHeld ?_
              · intro v hSv
                clear hHeld
                go_simp
              try simp only [Act.put, List.setIfInBounds_toArray, List.set_cons_zero, List.set_cons_succ]
              refine wpAnyH_take (i := 1) (v := .slice (some ⟨g, o, none⟩) n1 d1) (at_list rfl) (by kernel_rfl) (by kernel_rfl) (by kernel_rfl) (fun _ _ _ h => h) (Or.inl ⟨by rfl, ?_⟩) hHeld ?_
              · intro v hSv
                clear hHeld
                have q := Holds.reads (hSv.2.2.1) (i := 17) (x := .slice (some ⟨g, o, none⟩) n1 d1) rfl
                clear hSv
                go_simp
              try simp only [Act.put, List.setIfInBounds_toArray, List.set_cons_zero, List.set_cons_succ]
              refine wpAnyH_take (i := 2) (v := .int .i64 k) (at_list rfl) (by kernel_rfl) (by kernel_rfl) (by kernel_rfl) (fun _ _ _ h => h) (Or.inl ⟨by rfl, ?_⟩) hHeld ?_
              · intro v hSv
                clear hHeld
                go_simp
              try simp only [Act.put, List.setIfInBounds_toArray, List.set_cons_zero, List.set_cons_succ]
              refine wpAnyH_take (i := 3) (v := .pointer (some ⟨g, o + k * 11, none⟩)) (at_list rfl) (by kernel_rfl) (by kernel_rfl) (by kernel_rfl) (fun _ _ _ h => h) (yields_index (by rfl) 28 _ _ rfl g o n1 d1 k 11 rfl rfl HK.out Tryd.underlying28 (by kernel_rfl)) hHeld ?_
              try simp only [Act.put, List.setIfInBounds_toArray, List.set_cons_zero, List.set_cons_succ]
              refine wpAnyH_take (i := 4) (v := .pointer (some ⟨g, o + k * 11, none⟩)) (at_list rfl) (by kernel_rfl) (by kernel_rfl) (by kernel_rfl) (fun _ _ _ h => h) (Or.inl ⟨by rfl, ?_⟩) hHeld ?_
              · intro v hSv
                clear hHeld
                go_simp
              try simp only [Act.put, List.setIfInBounds_toArray, List.set_cons_zero, List.set_cons_succ]
              refine wpAnyH_take (i := 5) (v := .agg (ptA y.p)) (at_list rfl) (by kernel_rfl) (by kernel_rfl) (by kernel_rfl) (fun _ _ _ h => h) (yieldsIf_load_mid (by rfl) 35 _ rfl g (o + k * 11) rfl (ptA y.p).toList _ (fun v hv => las_port (hv.2.1).L HXE.out) Tryd.underlying35 rfl (by kernel_rfl)) hHeld ?_
              try simp only [Act.put, List.setIfInBounds_toArray, List.set_cons_zero, List.set_cons_succ]
              refine wpAnyH_take (i := 6) (v := .agg (ptA q)) (at_list rfl) (by kernel_rfl) (by kernel_rfl) (by kernel_rfl) (fun _ _ _ h => h) (yields_whole (by rfl) 35 _ rfl gK3 rfl (fun v hv => hv.2.2.2.1) Tryd.underlying35 rfl (by kernel_rfl)) hHeld ?_
              try simp only [Act.put, List.setIfInBounds_toArray, List.set_cons_zero, List.set_cons_succ]
              refine wpAnyH_take (i := 7) (v := .bool false) (at_list rfl) (by kernel_rfl) (by kernel_rfl) (by kernel_rfl) (fun _ _ _ h => h) (yields_cmp (by rfl) .neq 35 _ _ _ rfl (ptA y.p) (ptA q) rfl rfl (by kernel_rfl) false (fun v => (neq_port y.p q v).trans (by rw [HQ.out]; rfl))) hHeld ?_
              try simp only [Act.put, List.setIfInBounds_toArray, List.set_cons_zero, List.set_cons_succ]
              refine wpAnyH_done (by kernel_rfl) ?_ _
              refine NoPanic.normal ?_
              have HB := Lib.hid hHeld.1
              have RI := Lib.hid hHeld.2.1
              have K2 := Lib.hid hHeld.2.2.1
              have K3 := Lib.hid hHeld.2.2.2.1
              have OW := Lib.hid hHeld.2.2.2.2.1
              have K4 := Lib.hid hHeld.2.2.2.2.2.1
              have NI := Lib.hid hHeld.2.2.2.2.2.2.1
              clear hHeld
              go_wp2
              go_roundw
              case rel => exact ⟨k + 1, F, _, by omega, rfl, by go_num, HF2, OW, RI, K2, K3, K4, NI, HB⟩
              case measure => simp [intOf]; omega
          · have hd : decide ((k : Int) < (n1 : Int)) = false := by simpa using hlt
            obtain rfl : k = n1 := by omega
            have x16 := (K2.out).reads (i := 17) (x := .slice A1 k d1) rfl
            rw [List.take_of_length_le (by rw [HLM.out]; omega)] at HF
            obtain rfl := HF.out
            obtain ⟨A3, n3, c3, rfl⟩ := (OW.out).form_
            have NL2 : Hid (∀ g' o, A3 = some ⟨g', o, none⟩ → 0 < n3 → g' ≠ gK2) := row_far (OW.out) LBK2.out
            have NL4 : Hid (∀ g' o, A3 = some ⟨g', o, none⟩ → 0 < n3 → g' ≠ gK4) := row_far (OW.out) LBK4.out
            have LI : Hid (RowsIn _ (.slice A3 n3 c3) (noL r.L q)) := (OW.out).rows
            clear OW
            go_upto_region 15 with fail
            clear x16
            go_upto_region 17 with (first | (refine big_set rfl 28 _ _ rfl gK2 17 (.slice A3 n3 c3) rfl rfl K2.out (by kernel_rfl) rfl rfl (of_decide_eq_true (by kernel_rfl)) (rbA r.sent ⟨A2, n2, c2⟩ ⟨A3, n3, c3⟩ s3) (by kernel_rfl) ?_; intro vK22 nK2 htK2; replace RI := Lib.hid ((RI.out).touch htK2 ORIK2.out); replace NI := Lib.hid ((NI.out).touch htK2 NN2.out); replace LI := Lib.hid ((LI.out).touch htK2 NL2.out); replace K3 := Lib.hid ((K3.out).touch htK2 (Ne.symm OK2K3.out)); replace K4 := Lib.hid ((K4.out).touch htK2 (Ne.symm OK2K4.out)); replace HB := Lib.hid (btouch HB.out htK2 LK2.out); replace K2 := Lib.hid nK2; clear nK2 htK2; try simp only [Act.put, List.setIfInBounds_toArray, List.set_cons_zero, List.set_cons_succ]) | (refine big_set rfl 27 _ _ rfl gK2 16 (.slice A2 n2 c2) rfl rfl K2.out (by kernel_rfl) rfl rfl (of_decide_eq_true (by kernel_rfl)) (rbA r.sent ⟨A2, n2, c2⟩ ⟨A1, k, d1⟩ s3) (by kernel_rfl) ?_; intro vK21 nK2 htK2; replace RI := Lib.hid ((RI.out).touch htK2 ORIK2.out); replace NI := Lib.hid ((NI.out).touch htK2 NN2.out); replace LI := Lib.hid ((LI.out).touch htK2 NL2.out); replace K3 := Lib.hid ((K3.out).touch htK2 (Ne.symm OK2K3.out)); replace K4 := Lib.hid ((K4.out).touch htK2 (Ne.symm OK2K4.out)); replace HB := Lib.hid (btouch HB.out htK2 LK2.out); replace K2 := Lib.hid nK2; clear nK2 htK2; try simp only [Act.put, List.setIfInBounds_toArray, List.set_cons_zero, List.set_cons_succ]))
            go_wp2_with (first | (refine big_whole rfl 31 _ rfl gK2 rfl K2.out Tryd.underlying31 rfl (by kernel_rfl) ?_; try simp only [Act.put, List.setIfInBounds_toArray, List.set_cons_zero, List.set_cons_succ]) | (refine big_whole rfl 35 _ rfl gK3 rfl K3.out Tryd.underlying35 rfl (by kernel_rfl) ?_; try simp only [Act.put, List.setIfInBounds_toArray, List.set_cons_zero, List.set_cons_succ]))
            refine (rwithout11_any r.sent ⟨A2, n2, c2⟩ ⟨A3, n3, c3⟩ s3.a s3.n s3.c r.H q _ (RI.out).H (by have := HH.out; have := (RI.out).H.len; omega)).mono ?_
            rintro e c9 ⟨x, rfl, how, hc9⟩
            have E4 := Lib.hid (how.ne (K4.out).inside)
            have HRB := Lib.hid how
            replace RI := Lib.hid ((RI.out).keptB hc9)
            replace K2 := Lib.hid ((K2.out).keptB hc9)
            replace K3 := Lib.hid ((K3.out).keptB hc9)
            replace K4 := Lib.hid ((K4.out).keptB hc9)
            replace NI := Lib.hid ((NI.out).keptB hc9)
            replace LI := Lib.hid ((LI.out).keptB hc9)
            replace HB := Lib.hid (bstep HB.out hc9)
            clear how hc9
            go_wp2_with ((refine big_fill rfl 31 _ _ rfl gK4 (rbA r.sent ⟨A2, n2, c2⟩ ⟨A3, n3, c3⟩ x) rfl rfl K4.out (by kernel_rfl) (by kernel_rfl) (by kernel_rfl) ?_; intro vK4 nK4 htK4; replace HRB := Lib.hid ((HRB.out).touch htK4 E4.out); replace NI := Lib.hid ((NI.out).touch htK4 NN4.out); replace LI := Lib.hid ((LI.out).touch htK4 NL4.out); replace HB := Lib.hid (btouch HB.out htK4 LK4.out); replace K4 := Lib.hid nK4; clear nK4 htK4; try simp only [Act.put, List.setIfInBounds_toArray, List.set_cons_zero, List.set_cons_succ]))
            try rw [Exit.noGoto_ret]
            refine bodyPost_ret (v := .tuple #[.agg (rbA r.sent ⟨A2, n2, c2⟩ ⟨A3, n3, c3⟩ x), .bool true]) (results_two rfl _ _ gK4 _ _ _ _ rfl rfl (K4).out Tryd.underlying31 rfl (by kernel_rfl)) rfl ?_
            rw [HX.out, HQQ.out]
            exact ⟨⟨A2, n2, c2⟩, ⟨A3, n3, c3⟩, x, rfl, ⟨NI.out, LI.out, (HRB.out).rows⟩, HB.out⟩

end Go.Proofs.YtpbfnmokhmioaaaDoor
