/- The walk over makeRoom. -/
import Derived.Test.YtnddmaadmibpeaaForeignLong
import Derived.Deep.DeepCutAuto
namespace Go.Proofs.Ytnddmaadmibpeaa
set_option maxRecDepth 100000
open Go.RowKit
set_option linter.unusedVariables false

theorem Only.then_ {s : List Nat} {B : Nat} {a w v : World} (h : Below B a w) (k : Only s w.heap.size w v) (hB : B ≤ w.heap.size) : Only s B a v :=
  ⟨k.os.trans h.os, k.tape.trans h.tape, k.output.trans h.output, Nat.le_trans h.size k.size, fun i hi hn => (k.block i (by omega) hn).trans (h.block i hi)⟩
set_option maxHeartbeats 4000000 in
theorem room8_any (p m : Nat) (own : Ck) (win : Int) (L : List Fe) (q : Pt) (now : Int) (w : World) (hL : TabOk L) (h : TabAt w p m own win L) (ok : ptOk q) (h0 : 0 ≤ now) (h1 : now ≤ 4611686018427387904) (h2 : 0 ≤ win) (h3 : win ≤ 4398046511104) :
    Calls Try.prog 22 #[.pointer (some ⟨p, 0, none⟩), .agg (ptA q), .int .i64 now] w fun e w' => e = .returned (.int .i64 (roomE L q (now - win)).1) ∧ TabAt w' p m own win (roomE L q (now - win)).2 ∧ Only [m] w.heap.size w w' := by
  have HB := Lib.hid (Below.refl w.heap.size w)
  have TB := Lib.hid h
  have HOK := Lib.hid ok
  have HL := Lib.hid hL
  clear h ok hL
  go_enter Try.func22, Try.ntmps22
  go_upto_region 1 with ((refine big_box rfl 35 _ rfl (ptA q) rfl (by kernel_rfl) ?_; intro gK3 wK3 hlK3 nK3 hbK3; have K3 := Lib.hid nK3; have LK3 := Lib.hid (Nat.le_trans (HB.out).size hlK3); have OTBK3 := Lib.hid ((TB.out).off hlK3); replace TB := Lib.hid ((TB.out).keptB hbK3); replace HB := Lib.hid (bstep HB.out hbK3); clear hlK3 nK3 hbK3))
  refine wp_region_held_drew (S := fun v => Below w.heap.size w v ∧ TabAt v p m own win L ∧ Holds v gK3 35 (ptA q) ∧ True) (by kernel_rfl) ?_ (fun hHeld => ?_)
  · exact ⟨bdrew HB.out, (TB.out).drew, (K3.out).drew, trivial⟩
  clear HB TB K3
  refine wpAnyH_take (i := 0) (v := .pointer (some ⟨p, 0, none⟩)) (at_list rfl) (by kernel_rfl) (by kernel_rfl) (by kernel_rfl) (fun _ _ _ h => h) (Or.inl ⟨by rfl, ?_⟩) hHeld ?_
  · intro v hSv
    clear hHeld
    go_simp
  try simp only [Act.put, List.setIfInBounds_toArray, List.set_cons_zero, List.set_cons_succ]
  refine wpAnyH_take (i := 1) (v := .pointer (some ⟨p, 0, none⟩)) (at_list rfl) (by kernel_rfl) (by kernel_rfl) (by kernel_rfl) (fun _ _ _ h => h) (Or.inl ⟨by rfl, ?_⟩) hHeld ?_
  · intro v hSv
    clear hHeld
    go_simp
  try simp only [Act.put, List.setIfInBounds_toArray, List.set_cons_zero, List.set_cons_succ]
  refine wpAnyH_take (i := 2) (v := .pointer (some ⟨p, 9, none⟩)) (at_list rfl) (by kernel_rfl) (by kernel_rfl) (by kernel_rfl) (fun _ _ _ h => h) (Or.inl ⟨by rfl, ?_⟩) hHeld ?_
  · intro v hSv
    clear hHeld
    go_simp
  try simp only [Act.put, List.setIfInBounds_toArray, List.set_cons_zero, List.set_cons_succ]
  refine wpAnyH_take (i := 3) (v := .map (some m)) (at_list rfl) (by kernel_rfl) (by kernel_rfl) (by kernel_rfl) (fun _ _ _ h => h) (Or.inl ⟨by rfl, ?_⟩) hHeld ?_
  · intro v hSv
    clear hHeld
    have q9 := Holds.reads ((hSv.2.1).tab) (i := 9) (x := .map (some m)) rfl
    clear hSv
    go_simp
  try simp only [Act.put, List.setIfInBounds_toArray, List.set_cons_zero, List.set_cons_succ]
  refine wpAnyH_take (i := 4) (v := .agg (ptA q)) (at_list rfl) (by kernel_rfl) (by kernel_rfl) (by kernel_rfl) (fun _ _ _ h => h) (yields_whole (by rfl) 35 _ rfl gK3 rfl (fun v hv => hv.2.2.1) Try.underlying35 rfl (by kernel_rfl)) hHeld ?_
  try simp only [Act.put, List.setIfInBounds_toArray, List.set_cons_zero, List.set_cons_succ]
  refine wpAnyH_take (i := 5) (v := .tuple #[.agg (feA (atE L q)), .bool (hasE L q)]) (at_list rfl) (by kernel_rfl) (by kernel_rfl) (by kernel_rfl) (fun _ _ _ h => h) (yields_look2 (by rfl) _ _ rfl rfl rfl (fun v hv => hv.2.1.map) HOK.out) hHeld ?_
  try simp only [Act.put, List.setIfInBounds_toArray, List.set_cons_zero, List.set_cons_succ]
  refine wpAnyH_take (i := 6) (v := .tuple #[.agg (feA (atE L q)), .bool (hasE L q)]) (at_list rfl) (by kernel_rfl) (by kernel_rfl) (by kernel_rfl) (fun _ _ _ h => h) (Or.inl ⟨by rfl, ?_⟩) hHeld ?_
  · intro v hSv
    clear hHeld
    go_simp
  try simp only [Act.put, List.setIfInBounds_toArray, List.set_cons_zero, List.set_cons_succ]
  refine wpAnyH_take (i := 7) (v := .agg (feA (atE L q))) (at_list rfl) (by kernel_rfl) (by kernel_rfl) (by kernel_rfl) (fun _ _ _ h => h) (Or.inl ⟨by rfl, ?_⟩) hHeld ?_
  · intro v hSv
    clear hHeld
    go_simp
  try simp only [Act.put, List.setIfInBounds_toArray, List.set_cons_zero, List.set_cons_succ]
  refine wpAnyH_take (i := 8) (v := .bool (hasE L q)) (at_list rfl) (by kernel_rfl) (by kernel_rfl) (by kernel_rfl) (fun _ _ _ h => h) (Or.inl ⟨by rfl, ?_⟩) hHeld ?_
  · intro v hSv
    clear hHeld
    go_simp
  try simp only [Act.put, List.setIfInBounds_toArray, List.set_cons_zero, List.set_cons_succ]
  refine wpAnyH_ready (rs := [9]) (by kernel_rfl) (by simp) ?_
  refine AllReadyH.cons (at_list rfl) (fun K hK => ?_) AllReadyH.nil
  refine step_alloc (by rfl) 60 rfl (feA zeroFe) (by kernel_rfl) ?_
  intro gK5 wK5 hlK5 nK5 hbK5
  have K5 := Lib.hid nK5
  have LK5 := Lib.hid (Nat.le_trans (hHeld.1).size hlK5)
  have OTBK5 := Lib.hid ((hHeld.2.1).off hlK5)
  have OK3K5 := Lib.hid ((hHeld.2.2.1).off hlK5)
  refine hK.out _ _ ?_ (fun hHeld2 => ?_)
  · exact ⟨bstep hHeld.1 hbK5, (hHeld.2.1).keptB hbK5, (hHeld.2.2.1).keptB hbK5, trivial⟩
  clear hK K hHeld
  have hHeld := hHeld2
  clear hHeld2
  try simp only [Act.put]
  clear hlK5 nK5 hbK5
  try simp only [List.setIfInBounds_toArray, List.set_cons_zero, List.set_cons_succ]
  refine wpAnyH_ready (rs := [10]) (by kernel_rfl) (by simp) ?_
  refine AllReadyH.cons (at_list rfl) (fun K hK => ?_) AllReadyH.nil
  refine step_fill (by rfl) 60 _ _ rfl gK5 (feA (atE L q)) rfl rfl K5.out (by kernel_rfl) (by kernel_rfl) (by kernel_rfl) ?_
  intro vK50 nK5 htK5
  replace K5 := Lib.hid nK5
  refine hK.out _ _ ?_ (fun hHeld2 => ?_)
  · exact ⟨btouch hHeld.1 htK5 LK5.out, (hHeld.2.1).touch htK5 OTBK5.out, (hHeld.2.2.1).touch htK5 OK3K5.out, trivial⟩
  clear hK K hHeld
  have hHeld := hHeld2
  clear hHeld2
  try simp only [Act.put]
  clear nK5 htK5
  try simp only [List.setIfInBounds_toArray, List.set_cons_zero, List.set_cons_succ]
  refine wpAnyH_take (i := 11) (v := .bool (hasE L q)) (at_list rfl) (by kernel_rfl) (by kernel_rfl) (by kernel_rfl) (fun _ _ _ h => h) (Or.inl ⟨by rfl, ?_⟩) hHeld ?_
  · intro v hSv
    clear hHeld
    go_simp
  try simp only [Act.put, List.setIfInBounds_toArray, List.set_cons_zero, List.set_cons_succ]
  refine wpAnyH_done (by kernel_rfl) ?_ _
  have HB := Lib.hid hHeld.1
  have TB := Lib.hid hHeld.2.1
  have K3 := Lib.hid hHeld.2.2.1
  clear hHeld
  clear K5 LK5 OTBK5 OK3K5
  cases hh : hasE L q
  · by_cases hl : L.length < 5
    · have HX : Hid (roomE L q (now - win) = (2, L)) := by unfold roomE; rw [Hid, hh, if_pos hl]; rfl
      have dl : decide ((L.length : Int) < 5) = true := decide_eq_true (by omega)
      clear hh hl
      have x9 := ((TB.out).tab).reads (i := 9) (x := .map (some m)) rfl
      go_wp2_with (refine big_lenM rfl _ rfl rfl (TB.out).map ?_)
      go_ret
      rw [HX.out]
      exact ⟨rfl, TB.out, only_of HB.out⟩
    · have HY : Hid (roomE L q (now - win) = (match oldE L (now - win) with | none => (4, L) | some o => (3, delE L o.s.sn))) := by unfold roomE; rw [Hid, hh, if_neg hl]; rfl
      have dl : decide ((L.length : Int) < 5) = false := decide_eq_false (by omega)
      clear hh hl
      have x9 := ((TB.out).tab).reads (i := 9) (x := .map (some m)) rfl
      go_wp2_with (refine big_lenM rfl _ rfl rfl (TB.out).map ?_)
      clear x9 dl
      refine (over8_any p m own win L now _ HL.out TB.out h0 h1 h2 h3).mono ?_
      rintro e c1 ⟨rfl, hc1⟩
      replace TB := Lib.hid ((TB.out).keptB hc1)
      replace K3 := Lib.hid ((K3.out).keptB hc1)
      replace HB := Lib.hid (bstep HB.out hc1)
      clear hc1
      cases ho : oldE L (now - win) with
      | none =>
        have HX : Hid (roomE L q (now - win) = (4, L)) := by rw [Hid, HY.out, ho]
        rw [show oldT L (now - win) = .tuple #[.agg (ptA zP), .bool false] by unfold oldT; rw [ho]]
        clear HY ho
        go_wp2_with (first | (refine big_fill rfl 35 _ _ rfl gK9 (ptA zP) rfl rfl K9.out (by kernel_rfl) (by kernel_rfl) (by kernel_rfl) ?_; intro vK90 nK9 htK9; replace K9 := Lib.hid nK9; replace TB := Lib.hid ((TB.out).touch htK9 OTBK9.out); replace K3 := Lib.hid ((K3.out).touch htK9 OK3K9.out); replace HB := Lib.hid (btouch HB.out htK9 LK9.out); clear nK9 htK9) | (refine big_alloc rfl 35 rfl (ptA zP) (by kernel_rfl) ?_; intro gK9 wK9 hlK9 nK9 hbK9; have K9 := Lib.hid nK9; have LK9 := Lib.hid (Nat.le_trans (HB.out).size hlK9); have OTBK9 := Lib.hid ((TB.out).off hlK9); have OK3K9 := Lib.hid ((K3.out).off hlK9); replace TB := Lib.hid ((TB.out).keptB hbK9); replace K3 := Lib.hid ((K3.out).keptB hbK9); replace HB := Lib.hid (bstep HB.out hbK9); clear hlK9 nK9 hbK9))
        go_ret
        rw [HX.out]
        exact ⟨rfl, TB.out, only_of HB.out⟩
      | some o =>
        have HX : Hid (roomE L q (now - win) = (3, delE L o.s.sn)) := by rw [Hid, HY.out, ho]
        have HKO : Hid (ptOk o.s.sn) := ((HL.out).ok o (oldE_mem ho).1).key
        rw [show oldT L (now - win) = .tuple #[.agg (ptA o.s.sn), .bool true] by unfold oldT; rw [ho]]
        clear HY ho
        go_upto_region 9 with (first | (refine big_fill rfl 35 _ _ rfl gK9 (ptA o.s.sn) rfl rfl K9.out (by kernel_rfl) (by kernel_rfl) (by kernel_rfl) ?_; intro vK90 nK9 htK9; replace K9 := Lib.hid nK9; replace TB := Lib.hid ((TB.out).touch htK9 OTBK9.out); replace K3 := Lib.hid ((K3.out).touch htK9 OK3K9.out); replace HB := Lib.hid (btouch HB.out htK9 LK9.out); clear nK9 htK9) | (refine big_alloc rfl 35 rfl (ptA zP) (by kernel_rfl) ?_; intro gK9 wK9 hlK9 nK9 hbK9; have K9 := Lib.hid nK9; have LK9 := Lib.hid (Nat.le_trans (HB.out).size hlK9); have OTBK9 := Lib.hid ((TB.out).off hlK9); have OK3K9 := Lib.hid ((K3.out).off hlK9); replace TB := Lib.hid ((TB.out).keptB hbK9); replace K3 := Lib.hid ((K3.out).keptB hbK9); replace HB := Lib.hid (bstep HB.out hbK9); clear hlK9 nK9 hbK9))
        have TT := Lib.hid (TB.out).tab
        have HNE := Lib.hid (TB.out).ne
        have NK := Lib.hid ((TB.out).map.not_cells K9.out)
        replace TB := Lib.hid ((TB.out).drew)
        refine wp_region_held_drew (S := fun v => Only [m] w.heap.size w v ∧ Holds v p 54 (taA own win m) ∧ Holds v gK9 35 (ptA o.s.sn) ∧ True) (by kernel_rfl) ?_ (fun hHeld => ?_)
        · exact ⟨only_of (bdrew HB.out), (TT.out).drew, (K9.out).drew, trivial⟩
        clear HB TT K9
        refine wpAnyH_take (i := 0) (v := .pointer (some ⟨p, 0, none⟩)) (at_list rfl) (by kernel_rfl) (by kernel_rfl) (by kernel_rfl) (fun _ _ _ h => h) (Or.inl ⟨by rfl, ?_⟩) hHeld ?_
        · intro v hSv
          clear hHeld
          go_simp
        try simp only [Act.put, List.setIfInBounds_toArray, List.set_cons_zero, List.set_cons_succ]
        refine wpAnyH_take (i := 1) (v := .pointer (some ⟨p, 0, none⟩)) (at_list rfl) (by kernel_rfl) (by kernel_rfl) (by kernel_rfl) (fun _ _ _ h => h) (Or.inl ⟨by rfl, ?_⟩) hHeld ?_
        · intro v hSv
          clear hHeld
          go_simp
        try simp only [Act.put, List.setIfInBounds_toArray, List.set_cons_zero, List.set_cons_succ]
        refine wpAnyH_take (i := 2) (v := .pointer (some ⟨p, 9, none⟩)) (at_list rfl) (by kernel_rfl) (by kernel_rfl) (by kernel_rfl) (fun _ _ _ h => h) (Or.inl ⟨by rfl, ?_⟩) hHeld ?_
        · intro v hSv
          clear hHeld
          go_simp
        try simp only [Act.put, List.setIfInBounds_toArray, List.set_cons_zero, List.set_cons_succ]
        refine wpAnyH_take (i := 3) (v := .map (some m)) (at_list rfl) (by kernel_rfl) (by kernel_rfl) (by kernel_rfl) (fun _ _ _ h => h) (Or.inl ⟨by rfl, ?_⟩) hHeld ?_
        · intro v hSv
          clear hHeld
          have q9 := Holds.reads (hSv.2.1) (i := 9) (x := .map (some m)) rfl
          clear hSv
          go_simp
        try simp only [Act.put, List.setIfInBounds_toArray, List.set_cons_zero, List.set_cons_succ]
        refine wpAnyH_take (i := 4) (v := .agg (ptA o.s.sn)) (at_list rfl) (by kernel_rfl) (by kernel_rfl) (by kernel_rfl) (fun _ _ _ h => h) (yields_whole (by rfl) 35 _ rfl gK9 rfl (fun v hv => hv.2.2.1) Try.underlying35 rfl (by kernel_rfl)) hHeld ?_
        try simp only [Act.put, List.setIfInBounds_toArray, List.set_cons_zero, List.set_cons_succ]
        refine wpAnyH_ready (rs := [5]) (by kernel_rfl) (by simp) ?_
        refine AllReadyH.cons (at_list rfl) (fun K hK => ?_) AllReadyH.nil
        refine step_delM (by rfl) _ _ rfl rfl rfl (TB.out).map HKO.out ?_
        intro w5 h5 t5
        replace TB := Lib.hid ((TB.out).with_ h5 t5)
        refine hK.out _ _ ?_ (fun hHeld2 => ?_)
        · exact ⟨Only.touch hHeld.1 t5 (fun _ => by simp), (hHeld.2.1).touch t5 (Ne.symm HNE.out), (hHeld.2.2.1).touch t5 (Ne.symm NK.out), trivial⟩
        clear hK K hHeld
        have hHeld := hHeld2
        clear hHeld2
        try simp only [Act.put]
        clear h5 t5
        refine wpAnyH_done (by kernel_rfl) ?_ _
        have HO := Lib.hid hHeld.1
        clear hHeld
        go_wp2
        go_ret
        rw [HX.out]
        exact ⟨rfl, TB.out, HO.out⟩
  · have HX : Hid (roomE L q (now - win) = (1, L)) := by unfold roomE; rw [Hid, hh]; rfl
    clear hh
    go_wp2
    go_ret
    rw [HX.out]
    exact ⟨rfl, TB.out, only_of HB.out⟩

end Go.Proofs.Ytnddmaadmibpeaa
