/- The walk over Hear. -/
import Derived.Test.YtnddmaadmibpeaaForeignHeeds
import Derived.Deep.DeepCutAuto
namespace Go.Proofs.Ytnddmaadmibpeaa
set_option maxRecDepth 100000
open Go.RowKit
set_option linter.unusedVariables false
set_option linter.unusedSimpArgs false

set_option maxHeartbeats 4000000 in
theorem hear8_any (p m : Nat) (own : Ck) (win : Int) (L : List Fe) (s : Rs) (now : Int) (w : World) (hL : TabOk L) (h : TabAt w p m own win L) (ok : ptOk s.sn) (h2 : 0 ≤ win) (h3 : win ≤ 4398046511104) :
    Calls Try.prog 15 #[.pointer (some ⟨p, 0, none⟩), .agg (rsA s), .int .i64 now] w fun e w' => e = .returned (.int .i64 (hearE own win L s now).1) ∧ TabAt w' p m own win (hearE own win L s now).2 ∧ Only [m] w.heap.size w w' := by
  have HB := Lib.hid (Below.refl w.heap.size w)
  have TB := Lib.hid h
  have HOK := Lib.hid ok
  have HL := Lib.hid hL
  clear h ok hL
  go_enter Try.func15, Try.ntmps15
  go_wp2_with (first | (refine big_box rfl 37 _ rfl (rsA s) rfl (by kernel_rfl) ?_; intro gK4 wK4 hlK4 nK4 hbK4; have K4 := Lib.hid nK4; have LK4 := Lib.hid (Nat.le_trans (HB.out).size hlK4); have OTBK4 := Lib.hid ((TB.out).off hlK4); replace TB := Lib.hid ((TB.out).keptB hbK4); replace HB := Lib.hid (bstep HB.out hbK4); clear hlK4 nK4 hbK4) | (refine big_whole rfl 37 _ rfl gK4 rfl K4.out Try.underlying37 rfl (by kernel_rfl) ?_))
  refine (heeds8_any p m own win L s now _ TB.out HOK.out).mono ?_
  rintro e c1 ⟨rfl, hc1⟩
  replace TB := Lib.hid ((TB.out).keptB hc1)
  replace K4 := Lib.hid ((K4.out).keptB hc1)
  replace HB := Lib.hid (bstep HB.out hc1)
  clear hc1
  cases hh : heedE own L s now
  · have HX : Hid (hearE own win L s now = (0, L)) := by unfold hearE; rw [Hid, hh]; rfl
    clear hh
    go_wp2
    go_ret
    rw [HX.out]
    exact ⟨rfl, TB.out, only_of HB.out⟩
  · obtain ⟨n0, n1, _⟩ := says_no (heed_yes hh).1
    have HRO := Lib.hid (roomE_spec L HL.out s.sn (now - win))
    have HX : Hid (hearE own win L s now = if (roomE L s.sn (now - win)).1 = 4 then (4, (roomE L s.sn (now - win)).2) else ((roomE L s.sn (now - win)).1, putE (roomE L s.sn (now - win)).2 (heardE (atE (roomE L s.sn (now - win)).2 s.sn) s now))) := by
      unfold hearE
      rw [Hid, hh]
      rfl
    clear hh
    go_wp2_with ((refine big_load rfl 35 _ rfl gK4 14 rfl K4.out [.int .u8 s.sn.c.b0, .int .u8 s.sn.c.b1, .int .u8 s.sn.c.b2, .int .u8 s.sn.c.b3, .int .u8 s.sn.c.b4, .int .u8 s.sn.c.b5, .int .u8 s.sn.c.b6, .int .u8 s.sn.c.b7, .int .i64 s.sn.n] rfl Try.underlying35 rfl (by kernel_rfl) ?_))
    have NK := Lib.hid ((TB.out).map.not_cells K4.out)
    refine (room8_any p m own win L s.sn now _ HL.out TB.out HOK.out n0 n1 h2 h3).mono ?_
    rintro e c2 ⟨rfl, ht, ho⟩
    clear n0 n1
    obtain ⟨⟨r1, R⟩, hR⟩ : ∃ R, roomE L s.sn (now - win) = R := ⟨_, rfl⟩
    rw [hR] at ht HX HRO ⊢
    clear hR
    simp only [] at ht HX HRO ⊢
    replace K4 := Lib.hid ((K4.out).only ho (by have := NK.out; simp; omega))
    replace TB := Lib.hid ht
    have HO := Lib.hid (Only.then_ HB.out ho (HB.out).size)
    clear ht ho HB
    by_cases h4 : r1 = 4
    · subst h4
      replace HX : Hid (hearE own win L s now = (4, R)) := by rw [Hid, HX.out]; rfl
      go_wp2
      go_ret
      rw [HX.out]
      exact ⟨rfl, TB.out, HO.out⟩
    · replace HX : Hid (hearE own win L s now = (r1, putE R (heardE (atE R s.sn) s now))) := by rw [Hid, HX.out, if_neg h4]
      have d4 : (r1 == 4) = false := by simpa using h4
      clear h4
      go_upto_region 5 with fail
      refine wp_region_end (S := fun v => Only [m] w.heap.size w v ∧ TabAt v p m own win R ∧ Holds v gK4 37 (rsA s)) 16 (by kernel_rfl) ?_ (fun hHeld => ?_)
      · exact ⟨only_drew HO.out, (TB.out).drew, (K4.out).drew⟩
      clear HO TB K4
      refine wpAnyE_take (hfb := by kernel_rfl) (i := 0) (v := .pointer (some ⟨p, 0, none⟩)) (at_list rfl) (by kernel_rfl) (by kernel_rfl) (by kernel_rfl) (fun _ _ _ h => h) (Or.inl ⟨by rfl, ?_⟩) hHeld ?_
      · intro v hSv
        clear hHeld
        go_simp
      try simp only [Act.put, List.setIfInBounds_toArray, List.set_cons_zero, List.set_cons_succ]
      refine wpAnyE_take (hfb := by kernel_rfl) (i := 1) (v := .pointer (some ⟨p, 0, none⟩)) (at_list rfl) (by kernel_rfl) (by kernel_rfl) (by kernel_rfl) (fun _ _ _ h => h) (Or.inl ⟨by rfl, ?_⟩) hHeld ?_
      · intro v hSv
        clear hHeld
        go_simp
      try simp only [Act.put, List.setIfInBounds_toArray, List.set_cons_zero, List.set_cons_succ]
      refine wpAnyE_take (hfb := by kernel_rfl) (i := 2) (v := .pointer (some ⟨p, 9, none⟩)) (at_list rfl) (by kernel_rfl) (by kernel_rfl) (by kernel_rfl) (fun _ _ _ h => h) (Or.inl ⟨by rfl, ?_⟩) hHeld ?_
      · intro v hSv
        clear hHeld
        go_simp
      try simp only [Act.put, List.setIfInBounds_toArray, List.set_cons_zero, List.set_cons_succ]
      refine wpAnyE_take (hfb := by kernel_rfl) (i := 3) (v := .map (some m)) (at_list rfl) (by kernel_rfl) (by kernel_rfl) (by kernel_rfl) (fun _ _ _ h => h) (Or.inl ⟨by rfl, ?_⟩) hHeld ?_
      · intro v hSv
        clear hHeld
        have q9 := Holds.reads ((hSv.2.1).tab) (i := 9) (x := .map (some m)) rfl
        clear hSv
        go_simp
      try simp only [Act.put, List.setIfInBounds_toArray, List.set_cons_zero, List.set_cons_succ]
      refine wpAnyE_take (hfb := by kernel_rfl) (i := 4) (v := .pointer (some ⟨gK4, 14, none⟩)) (at_list rfl) (by kernel_rfl) (by kernel_rfl) (by kernel_rfl) (fun _ _ _ h => h) (Or.inl ⟨by rfl, ?_⟩) hHeld ?_
      · intro v hSv
        clear hHeld
        go_simp
      try simp only [Act.put, List.setIfInBounds_toArray, List.set_cons_zero, List.set_cons_succ]
      refine wpAnyE_take (hfb := by kernel_rfl) (i := 5) (v := .agg #[.int .u8 s.sn.c.b0, .int .u8 s.sn.c.b1, .int .u8 s.sn.c.b2, .int .u8 s.sn.c.b3, .int .u8 s.sn.c.b4, .int .u8 s.sn.c.b5, .int .u8 s.sn.c.b6, .int .u8 s.sn.c.b7, .int .i64 s.sn.n]) (at_list rfl) (by kernel_rfl) (by kernel_rfl) (by kernel_rfl) (fun _ _ _ h => h) (yieldsIf_load_mid (by rfl) 35 _ rfl gK4 14 rfl [.int .u8 s.sn.c.b0, .int .u8 s.sn.c.b1, .int .u8 s.sn.c.b2, .int .u8 s.sn.c.b3, .int .u8 s.sn.c.b4, .int .u8 s.sn.c.b5, .int .u8 s.sn.c.b6, .int .u8 s.sn.c.b7, .int .i64 s.sn.n] _ (fun v hv => Holds.range hv.2.2 rfl) Try.underlying35 rfl (by kernel_rfl)) hHeld ?_
      try simp only [Act.put, List.setIfInBounds_toArray, List.set_cons_zero, List.set_cons_succ]
      refine wpAnyE_take (hfb := by kernel_rfl) (i := 6) (v := .pointer (some ⟨p, 0, none⟩)) (at_list rfl) (by kernel_rfl) (by kernel_rfl) (by kernel_rfl) (fun _ _ _ h => h) (Or.inl ⟨by rfl, ?_⟩) hHeld ?_
      · intro v hSv
        clear hHeld
        go_simp
      try simp only [Act.put, List.setIfInBounds_toArray, List.set_cons_zero, List.set_cons_succ]
      refine wpAnyE_take (hfb := by kernel_rfl) (i := 7) (v := .pointer (some ⟨p, 0, none⟩)) (at_list rfl) (by kernel_rfl) (by kernel_rfl) (by kernel_rfl) (fun _ _ _ h => h) (Or.inl ⟨by rfl, ?_⟩) hHeld ?_
      · intro v hSv
        clear hHeld
        go_simp
      try simp only [Act.put, List.setIfInBounds_toArray, List.set_cons_zero, List.set_cons_succ]
      refine wpAnyE_take (hfb := by kernel_rfl) (i := 8) (v := .pointer (some ⟨p, 9, none⟩)) (at_list rfl) (by kernel_rfl) (by kernel_rfl) (by kernel_rfl) (fun _ _ _ h => h) (Or.inl ⟨by rfl, ?_⟩) hHeld ?_
      · intro v hSv
        clear hHeld
        go_simp
      try simp only [Act.put, List.setIfInBounds_toArray, List.set_cons_zero, List.set_cons_succ]
      refine wpAnyE_take (hfb := by kernel_rfl) (i := 9) (v := .map (some m)) (at_list rfl) (by kernel_rfl) (by kernel_rfl) (by kernel_rfl) (fun _ _ _ h => h) (Or.inl ⟨by rfl, ?_⟩) hHeld ?_
      · intro v hSv
        clear hHeld
        have q9 := Holds.reads ((hSv.2.1).tab) (i := 9) (x := .map (some m)) rfl
        clear hSv
        go_simp
      try simp only [Act.put, List.setIfInBounds_toArray, List.set_cons_zero, List.set_cons_succ]
      refine wpAnyE_take (hfb := by kernel_rfl) (i := 10) (v := .pointer (some ⟨gK4, 14, none⟩)) (at_list rfl) (by kernel_rfl) (by kernel_rfl) (by kernel_rfl) (fun _ _ _ h => h) (Or.inl ⟨by rfl, ?_⟩) hHeld ?_
      · intro v hSv
        clear hHeld
        go_simp
      try simp only [Act.put, List.setIfInBounds_toArray, List.set_cons_zero, List.set_cons_succ]
      refine wpAnyE_take (hfb := by kernel_rfl) (i := 11) (v := .agg #[.int .u8 s.sn.c.b0, .int .u8 s.sn.c.b1, .int .u8 s.sn.c.b2, .int .u8 s.sn.c.b3, .int .u8 s.sn.c.b4, .int .u8 s.sn.c.b5, .int .u8 s.sn.c.b6, .int .u8 s.sn.c.b7, .int .i64 s.sn.n]) (at_list rfl) (by kernel_rfl) (by kernel_rfl) (by kernel_rfl) (fun _ _ _ h => h) (yieldsIf_load_mid (by rfl) 35 _ rfl gK4 14 rfl [.int .u8 s.sn.c.b0, .int .u8 s.sn.c.b1, .int .u8 s.sn.c.b2, .int .u8 s.sn.c.b3, .int .u8 s.sn.c.b4, .int .u8 s.sn.c.b5, .int .u8 s.sn.c.b6, .int .u8 s.sn.c.b7, .int .i64 s.sn.n] _ (fun v hv => Holds.range hv.2.2 rfl) Try.underlying35 rfl (by kernel_rfl)) hHeld ?_
      try simp only [Act.put, List.setIfInBounds_toArray, List.set_cons_zero, List.set_cons_succ]
      refine wpAnyE_take (hfb := by kernel_rfl) (i := 12) (v := .agg (feA (atE R s.sn))) (at_list rfl) (by kernel_rfl) (by kernel_rfl) (by kernel_rfl) (fun _ _ _ h => h) (yields_look (by rfl) _ _ rfl rfl rfl (fun v hv => hv.2.1.map) HOK.out) hHeld ?_
      try simp only [Act.put, List.setIfInBounds_toArray, List.set_cons_zero, List.set_cons_succ]
      refine wpAnyE_take (hfb := by kernel_rfl) (i := 13) (v := .agg (rsA s)) (at_list rfl) (by kernel_rfl) (by kernel_rfl) (by kernel_rfl) (fun _ _ _ h => h) (yields_whole (by rfl) 37 _ rfl gK4 rfl (fun v hv => hv.2.2) Try.underlying37 rfl (by kernel_rfl)) hHeld ?_
      try simp only [Act.put, List.setIfInBounds_toArray, List.set_cons_zero, List.set_cons_succ]
      refine wpAnyE_take (hfb := by kernel_rfl) (i := 14) (v := .int .i64 now) (at_list rfl) (by kernel_rfl) (by kernel_rfl) (by kernel_rfl) (fun _ _ _ h => h) (Or.inl ⟨by rfl, ?_⟩) hHeld ?_
      · intro v hSv
        clear hHeld
        go_simp
      try simp only [Act.put, List.setIfInBounds_toArray, List.set_cons_zero, List.set_cons_succ]
      refine wpAnyE_ready (i := 15) (by kernel_rfl) (at_list rfl) (fun K hK => ?_)
      go_simp
      refine (heard8_any (atE R s.sn) s now _ (atE_ok (HRO.out).1 s.sn)).mono ?_
      rintro e v1 ⟨rfl, hv1⟩
      go_wp2_with fail
      refine hK.out _ _ ?_ (fun hHeld2 => ?_)
      · exact ⟨(hHeld.1).step hv1, (hHeld.2.1).keptB hv1, (hHeld.2.2).keptB hv1⟩
      clear hK K hHeld
      have hHeld := hHeld2
      clear hHeld2 hv1
      try simp only [Act.put, List.setIfInBounds_toArray, List.set_cons_zero, List.set_cons_succ]
      refine wpAnyE_last (by kernel_rfl) (at_list rfl) (by kernel_rfl) (fun K hK => ?_)
      refine step_putM (by rfl) _ _ _ rfl (e := heardE (atE R s.sn) s now) rfl rfl rfl (hHeld.2.1).map HOK.out (Nat.lt_of_le_of_lt ((HRO.out).1).len (by decide)) ?_
      intro w5 h5 t5
      have TB := Lib.hid ((hHeld.2.1).with_ h5 t5)
      have HO := Lib.hid (Only.touch hHeld.1 t5 (fun _ => by simp))
      clear h5 t5 hHeld
      refine hK.out _ _ ?_
      clear hK K
      try simp only [Act.put]
      go_wp2
      go_ret
      rw [HX.out]
      exact ⟨rfl, TB.out, HO.out⟩

end Go.Proofs.Ytnddmaadmibpeaa
