/- The walks over the small functions of seqs. -/
import Derived.Test.YtpbfnmokhmioaaaDoorSeqsMap
import Derived.Test.YtpbfnmokhmioaaaDoorSeqsEq
import Derived.Test.YtpbfnmokhmioaaaDoorHeadNumPlain
import Derived.Test.YtpbfnmokhmioaaaDoorByHand
import Derived.Test.YtpbfnmokhmioaaaDoorRegionEnd
import Derived.Deep.DeepCutAuto
namespace Go.Proofs.YtpbfnmokhmioaaaDoor
set_option maxRecDepth 100000
open Go.RowKit
set_option linter.unusedVariables false
set_option linter.unusedSimpArgs false

/-- a book in memory, and the table of lengths -/
structure BookAt (w : World) (p m h : Nat) (b : Bk) : Prop where
  tab : Holds w p 59 (bkC b.nx m h)
  last : MapOf w rowA m b.L
  half : MapOf w hfA h b.H
  lens : Lens w
  mh : m ≠ h
  far : 0 ≠ p ∧ 0 ≠ m ∧ 0 ≠ h
theorem Lens.inside {w : World} (h : Lens w) : 0 < w.heap.size := by
  have h0 := h 0 (by decide)
  by_cases hg : 0 < w.heap.size
  · exact hg
  · have hnone : w.heap[(0 : Nat)]? = none := Array.getElem?_eq_none (by omega)
    simp [World.cell?, hnone] at h0
theorem Lens.block_ {w v : World} (h : Lens w) (hv : v.heap[(0 : Nat)]? = w.heap[(0 : Nat)]?) : Lens v := fun k hk => by
  rw [World.cell?_of_block (w := w) (a := ⟨0, k, none⟩) hv]
  exact h k hk
theorem Lens.touch {w v : World} {g : Nat} (h : Lens w) (ht : Touch g w v) (hg : 0 ≠ g) : Lens v := h.block_ (ht.block _ hg)
theorem Lens.only {w v : World} {s : List Nat} (h : Lens w) (ht : Only s w.heap.size w v) (hg : 0 ∉ s) : Lens v := h.block_ (ht.block _ h.inside hg)
section
variable {w v : World} {p m h g : Nat} {b : Bk}
theorem BookAt.keptB (k : BookAt w p m h b) (hb : Below w.heap.size w v) : BookAt v p m h b := ⟨k.tab.keptB hb, k.last.keptB hb, k.half.keptB hb, k.lens.keptB hb, k.mh, k.far⟩
theorem BookAt.drew (k : BookAt w p m h b) : BookAt w.drew p m h b := ⟨k.tab.drew, k.last.drew, k.half.drew, k.lens.drew, k.mh, k.far⟩
theorem BookAt.off (k : BookAt w p m h b) (hg : w.heap.size ≤ g) : p ≠ g ∧ m ≠ g ∧ h ≠ g ∧ 0 ≠ g := ⟨by have := k.tab.inside; omega, by have := k.last.lt; omega, by have := k.half.lt; omega, by have := k.lens.inside; omega⟩
theorem BookAt.touch (k : BookAt w p m h b) (ht : Touch g w v) (hg : p ≠ g ∧ m ≠ g ∧ h ≠ g ∧ 0 ≠ g) : BookAt v p m h b := ⟨k.tab.touch ht hg.1, k.last.touch ht hg.2.1, k.half.touch ht hg.2.2.1, k.lens.touch ht hg.2.2.2, k.mh, k.far⟩
theorem BookAt.only {s : List Nat} (k : BookAt w p m h b) (ho : Only s w.heap.size w v) (hs : p ∉ s ∧ m ∉ s ∧ h ∉ s ∧ 0 ∉ s) : BookAt v p m h b := ⟨k.tab.only ho hs.1, k.last.only ho hs.2.1, k.half.only ho hs.2.2.1, k.lens.only ho hs.2.2.2, k.mh, k.far⟩
theorem BookAt.pm (k : BookAt w p m h b) : m ≠ p := k.last.not_cells k.tab
theorem BookAt.ph (k : BookAt w p m h b) : h ≠ p := k.half.not_cells k.tab
theorem BookAt.withM {L : List (Pt × (Int → Nb))} (k : BookAt w p m h b) (hm : MapOf v rowA m L) (ht : Touch m w v) : BookAt v p m h ⟨b.nx, L, b.H⟩ := ⟨k.tab.touch ht k.pm.symm, hm, k.half.touch ht k.mh.symm, k.lens.touch ht k.far.2.1, k.mh, k.far⟩
theorem BookAt.withH {H : List (Pt × Hf)} (k : BookAt w p m h b) (hm : MapOf v hfA h H) (ht : Touch h w v) : BookAt v p m h ⟨b.nx, b.L, H⟩ := ⟨k.tab.touch ht k.ph.symm, k.last.touch ht k.mh, hm, k.lens.touch ht k.far.2.2, k.mh, k.far⟩
theorem BookAt.withP {f : Int → Int} (k : BookAt w p m h b) (hp : Holds v p 59 (bkC f m h)) (ht : Touch p w v) : BookAt v p m h ⟨f, b.L, b.H⟩ := ⟨hp, k.last.touch ht k.pm, k.half.touch ht k.ph, k.lens.touch ht k.far.1, k.mh, k.far⟩
end
theorem kinds11 {k : Int} (h : longN k ≠ 0) : k = 0 ∨ k = 1 ∨ k = 8 ∨ k = 9 ∨ k = 11 := by
  unfold longN at h
  repeat (split at h; omega)
  omega
set_option maxHeartbeats 4000000 in
theorem new11_any  (w : World) (hl : Lens w) :
    Calls Tryd.prog 9 #[] w fun e w' => ∃ p m h, e = .returned (.pointer (some ⟨p, 0, none⟩)) ∧ BookAt w' p m h newBk ∧ w.heap.size ≤ p ∧ w.heap.size ≤ m ∧ w.heap.size ≤ h ∧ Below w.heap.size w w' := by
  have HB := Lib.hid (Below.refl w.heap.size w)
  have LN := Lib.hid hl
  clear hl
  go_enter Tryd.func9, Tryd.ntmps9
  go_wp2_with (first | (refine big_box rfl 59 _ rfl (bkC newBk.nx gA gB) rfl (by kernel_rfl) ?_; intro gT wT hlT nT hbT; have LT := Lib.hid (Nat.le_trans (HB.out).size hlT); have KT := Lib.hid nT; have NT := Lib.hid (show 0 ≠ gT by have := (LN.out).inside; omega); replace A := Lib.hid ((A.out).keptB hbT); replace B := Lib.hid ((B.out).keptB hbT); replace LN := Lib.hid ((LN.out).keptB hbT); replace HB := Lib.hid (bstep HB.out hbT); clear hlT nT hbT; try simp only [Act.put, List.setIfInBounds_toArray, List.set_cons_zero, List.set_cons_succ]) | (refine big_build rfl 59 _ rfl (bkC newBk.nx gA gB) (by kernel_rfl) ?_; try simp only [Act.put, List.setIfInBounds_toArray, List.set_cons_zero, List.set_cons_succ]) | (refine big_makeA (mt := 56) rfl rfl hfA ?_; intro gB wB hlB nB hbB; have LB := Lib.hid (Nat.le_trans (HB.out).size hlB); have B := Lib.hid nB; have NB := Lib.hid (show 0 ≠ gB by have := (LN.out).inside; omega); have OAB := Lib.hid (show gA ≠ gB by have := (A.out).lt; omega); replace A := Lib.hid ((A.out).keptB hbB); replace LN := Lib.hid ((LN.out).keptB hbB); replace HB := Lib.hid (bstep HB.out hbB); clear hlB nB hbB; try simp only [Act.put, List.setIfInBounds_toArray, List.set_cons_zero, List.set_cons_succ]) | (refine big_makeA (mt := 55) rfl rfl rowA ?_; intro gA wA hlA nA hbA; have LA := Lib.hid (Nat.le_trans (HB.out).size hlA); have A := Lib.hid nA; have NA := Lib.hid (show 0 ≠ gA by have := (LN.out).inside; omega); replace LN := Lib.hid ((LN.out).keptB hbA); replace HB := Lib.hid (bstep HB.out hbA); clear hlA nA hbA; try simp only [Act.put, List.setIfInBounds_toArray, List.set_cons_zero, List.set_cons_succ]))
  go_ret
  exact ⟨gT, gA, gB, rfl, ⟨KT.out, A.out, B.out, LN.out, OAB.out, NT.out, NA.out, NB.out⟩, LT.out, LA.out, LB.out, HB.out⟩
set_option maxHeartbeats 4000000 in
theorem len11_any (p m h : Nat) (b : Bk) (w : World) (hb : BookAt w p m h b) :
    Calls Tryd.prog 13 #[.pointer (some ⟨p, 0, none⟩)] w fun e w' => e = .returned (.int .i64 b.L.length) ∧ w = w' := by
  have x12 := (hb.tab).reads (i := 12) (x := .map (some m)) rfl
  have M := Lib.hid hb.last
  clear hb
  go_enter Tryd.func13, Tryd.ntmps13
  go_wp2_with (refine big_lenA (mt := 55) rfl _ rfl rfl M.out Tryd.underlying55 ?_)
  go_ret
  exact ⟨rfl, rfl⟩
set_option maxHeartbeats 4000000 in
theorem isseq11_any (n : Int) (w : World) :
    Calls Tryd.prog 25 #[.int .i64 n] w fun e w' => e = .returned (.bool (inB n 0 65535)) ∧ w = w' := by
  by_cases h1 : 0 ≤ n
  · have d1 : decide (0 ≤ n) = true := by simpa using h1
    have HX := Lib.hid (show inB n 0 65535 = decide (n ≤ 65535) by unfold inB; simp [h1])
    clear h1
    go_enter Tryd.func25, Tryd.ntmps25
    go_wp2
    go_ret
    exact ⟨ret_bool' HX.out.symm, rfl⟩
  · have d1 : decide (0 ≤ n) = false := by simpa using h1
    have HX := Lib.hid (show inB n 0 65535 = false by unfold inB; simp [h1])
    clear h1
    go_enter Tryd.func25, Tryd.ntmps25
    go_wp2
    go_ret
    exact ⟨ret_bool' HX.out.symm, rfl⟩
set_option maxHeartbeats 4000000 in
theorem rem11_any (p m h : Nat) (b : Bk) (q : Pt) (w : World) (hb : BookAt w p m h b) (ok : ptOk q) :
    Calls Tryd.prog 28 #[.pointer (some ⟨p, 0, none⟩), .agg (ptA q)] w fun e w' => e = .returned (.bool (hasA b.L q)) ∧ Below w.heap.size w w' := by
  have HB := Lib.hid (Below.refl w.heap.size w)
  have TB := Lib.hid hb
  clear hb
  have HOK := Lib.hid ok
  clear ok
  go_enter Tryd.func28, Tryd.ntmps28
  go_upto_region 1 with ((refine big_box rfl 35 _ rfl (ptA q) rfl (by kernel_rfl) ?_; intro gK3 wK3 hlK3 nK3 hbK3; have K3 := Lib.hid nK3; have LK3 := Lib.hid (Nat.le_trans (HB.out).size hlK3); have OTBK3 := Lib.hid ((TB.out).off hlK3); replace TB := Lib.hid ((TB.out).keptB hbK3); replace HB := Lib.hid (bstep HB.out hbK3); clear hlK3 nK3 hbK3; try simp only [Act.put, List.setIfInBounds_toArray, List.set_cons_zero, List.set_cons_succ]))
  refine wp_region_held_drew (S := fun v => Below w.heap.size w v ∧ BookAt v p m h b ∧ Holds v gK3 35 (ptA q) ∧ True) (by kernel_rfl) ?_ (fun hHeld => ?_)
  · exact ⟨bdrew HB.out, (TB.out).drew, (K3.out).drew, trivial⟩
  clear HB TB K3
  refine wpAnyH_take (i := 0) (v := .pointer (some ⟨p, 0, none⟩)) (at_list rfl) (by kernel_rfl) (by kernel_rfl) (by kernel_rfl) (fun _ _ _ h => h) (Or.inl ⟨by rfl, ?_⟩) hHeld ?_
  · intro v hSv
    clear hHeld
    go_simp
  try simp only [Act.put, List.setIfInBounds_toArray, List.set_cons_zero, List.set_cons_succ]
  refine wpAnyH_take (i := 1) (v := .pointer (some ⟨p, 0, none⟩)) (at_list rfl) (by kernel_rfl) (by kernel_rfl) (by kernel_rfl) (fun _ _ _ h => h) (Or.inl ⟨by rfl, ?_⟩) hHeld ?_
  · intro v hSv
    clear hHeld
    go_simp
  try simp only [Act.put, List.setIfInBounds_toArray, List.set_cons_zero, List.set_cons_succ]
  refine wpAnyH_take (i := 2) (v := .pointer (some ⟨p, 12, none⟩)) (at_list rfl) (by kernel_rfl) (by kernel_rfl) (by kernel_rfl) (fun _ _ _ h => h) (Or.inl ⟨by rfl, ?_⟩) hHeld ?_
  · intro v hSv
    clear hHeld
    go_simp
  try simp only [Act.put, List.setIfInBounds_toArray, List.set_cons_zero, List.set_cons_succ]
  refine wpAnyH_take (i := 3) (v := .map (some m)) (at_list rfl) (by kernel_rfl) (by kernel_rfl) (by kernel_rfl) (fun _ _ _ h => h) (Or.inl ⟨by rfl, ?_⟩) hHeld ?_
  · intro v hSv
    clear hHeld
    have q9 := Holds.reads ((hSv.2.1).tab) (i := 12) (x := .map (some m)) rfl
    clear hSv
    go_simp
  try simp only [Act.put, List.setIfInBounds_toArray, List.set_cons_zero, List.set_cons_succ]
  refine wpAnyH_take (i := 4) (v := .agg (ptA q)) (at_list rfl) (by kernel_rfl) (by kernel_rfl) (by kernel_rfl) (fun _ _ _ h => h) (yields_whole (by rfl) 35 _ rfl gK3 rfl (fun v hv => hv.2.2.1) Tryd.underlying35 rfl (by kernel_rfl)) hHeld ?_
  try simp only [Act.put, List.setIfInBounds_toArray, List.set_cons_zero, List.set_cons_succ]
  refine wpAnyH_take (i := 5) (v := .tuple #[.agg (rowA (atA zRow b.L q)), .bool (hasA b.L q)]) (at_list rfl) (by kernel_rfl) (by kernel_rfl) (by kernel_rfl) (fun _ _ _ h => h) (yields_lookA2 (by rfl) _ _ rfl rfl rfl (fun v hv => hv.2.1.last) HOK.out Tryd.underlying55 zero_row) hHeld ?_
  try simp only [Act.put, List.setIfInBounds_toArray, List.set_cons_zero, List.set_cons_succ]
  refine wpAnyH_take (i := 6) (v := .tuple #[.agg (rowA (atA zRow b.L q)), .bool (hasA b.L q)]) (at_list rfl) (by kernel_rfl) (by kernel_rfl) (by kernel_rfl) (fun _ _ _ h => h) (Or.inl ⟨by rfl, ?_⟩) hHeld ?_
  · intro v hSv
    clear hHeld
    go_simp
  try simp only [Act.put, List.setIfInBounds_toArray, List.set_cons_zero, List.set_cons_succ]
  refine wpAnyH_take (i := 7) (v := .agg (rowA (atA zRow b.L q))) (at_list rfl) (by kernel_rfl) (by kernel_rfl) (by kernel_rfl) (fun _ _ _ h => h) (Or.inl ⟨by rfl, ?_⟩) hHeld ?_
  · intro v hSv
    clear hHeld
    go_simp
  try simp only [Act.put, List.setIfInBounds_toArray, List.set_cons_zero, List.set_cons_succ]
  refine wpAnyH_take (i := 8) (v := .bool (hasA b.L q)) (at_list rfl) (by kernel_rfl) (by kernel_rfl) (by kernel_rfl) (fun _ _ _ h => h) (Or.inl ⟨by rfl, ?_⟩) hHeld ?_
  · intro v hSv
    clear hHeld
    go_simp
  try simp only [Act.put, List.setIfInBounds_toArray, List.set_cons_zero, List.set_cons_succ]
  refine wpAnyH_ready (rs := [9]) (by kernel_rfl) (by simp) ?_
  refine AllReadyH.cons (at_list rfl) (fun K hK => ?_) AllReadyH.nil
  refine step_alloc (by rfl) 71 rfl (rowA zRow) (by kernel_rfl) ?_
  intro gK5 wK5 hlK5 nK5 hbK5
  have K5 := Lib.hid nK5
  have LK5 := Lib.hid (Nat.le_trans (hHeld.1).size hlK5)
  have OTBK5 := Lib.hid ((hHeld.2.1).off hlK5)
  have OK3K5 := Lib.hid ((hHeld.2.2.1).off hlK5)
  refine hK.out _ _ ?_ (fun hHeld2 => ?_)
  · exact ⟨bstep hHeld.1 hbK5, (hHeld.2.1).keptB hbK5, (hHeld.2.2.1).keptB hbK5, trivial⟩
  clear hK K hHeld
  have hHeld := hHeld2
  clear hHeld2
  try simp only [Act.put]
  clear hlK5 nK5 hbK5
  try simp only [List.setIfInBounds_toArray, List.set_cons_zero, List.set_cons_succ]
  refine wpAnyH_ready (rs := [10]) (by kernel_rfl) (by simp) ?_
  refine AllReadyH.cons (at_list rfl) (fun K hK => ?_) AllReadyH.nil
  refine step_fill (by rfl) 71 _ _ rfl gK5 (rowA (atA zRow b.L q)) rfl rfl K5.out (by kernel_rfl) (by kernel_rfl) (by kernel_rfl) ?_
  intro vK50 nK5 htK5
  replace K5 := Lib.hid nK5
  refine hK.out _ _ ?_ (fun hHeld2 => ?_)
  · exact ⟨btouch hHeld.1 htK5 LK5.out, (hHeld.2.1).touch htK5 OTBK5.out, (hHeld.2.2.1).touch htK5 OK3K5.out, trivial⟩
  clear hK K hHeld
  have hHeld := hHeld2
  clear hHeld2
  try simp only [Act.put]
  clear nK5 htK5
  try simp only [List.setIfInBounds_toArray, List.set_cons_zero, List.set_cons_succ]
  refine wpAnyH_take (i := 11) (v := .bool (hasA b.L q)) (at_list rfl) (by kernel_rfl) (by kernel_rfl) (by kernel_rfl) (fun _ _ _ h => h) (Or.inl ⟨by rfl, ?_⟩) hHeld ?_
  · intro v hSv
    clear hHeld
    go_simp
  try simp only [Act.put, List.setIfInBounds_toArray, List.set_cons_zero, List.set_cons_succ]
  refine wpAnyH_done (by kernel_rfl) ?_ _
  have HB := Lib.hid hHeld.1
  have TB := Lib.hid hHeld.2.1
  have K3 := Lib.hid hHeld.2.2.1
  clear hHeld
  go_wp2
  go_ret
  exact ⟨rfl, HB.out⟩
set_option maxHeartbeats 4000000 in
theorem room11_any (p m h : Nat) (b : Bk) (q : Pt) (w : World) (hb : BookAt w p m h b) (ok : ptOk q) :
    Calls Tryd.prog 26 #[.pointer (some ⟨p, 0, none⟩), .agg (ptA q)] w fun e w' => e = .returned (.bool (roomB b q)) ∧ Below w.heap.size w w' := by
  have HB := Lib.hid (Below.refl w.heap.size w)
  have TB := Lib.hid hb
  clear hb
  have HOK := Lib.hid ok
  clear ok
  go_enter Tryd.func26, Tryd.ntmps26
  go_wp2_with (first | (refine big_box rfl 35 _ rfl (ptA q) rfl (by kernel_rfl) ?_; intro gK3 wK3 hlK3 nK3 hbK3; have K3 := Lib.hid nK3; have LK3 := Lib.hid (Nat.le_trans (HB.out).size hlK3); have OTBK3 := Lib.hid ((TB.out).off hlK3); replace TB := Lib.hid ((TB.out).keptB hbK3); replace HB := Lib.hid (bstep HB.out hbK3); clear hlK3 nK3 hbK3; try simp only [Act.put, List.setIfInBounds_toArray, List.set_cons_zero, List.set_cons_succ]) | (refine big_whole rfl 35 _ rfl gK3 rfl K3.out Tryd.underlying35 rfl (by kernel_rfl) ?_; try simp only [Act.put, List.setIfInBounds_toArray, List.set_cons_zero, List.set_cons_succ]))
  refine (rem11_any p m h b q _ TB.out HOK.out).mono ?_
  rintro e c1 ⟨rfl, hc1⟩
  replace TB := Lib.hid ((TB.out).keptB hc1)
  replace K3 := Lib.hid ((K3.out).keptB hc1)
  replace HB := Lib.hid (bstep HB.out hc1)
  clear hc1
  cases hh : hasA b.L q
  · have HX : Hid (roomB b q = decide ((b.L.length : Int) < 16)) := by unfold roomB; rw [Hid, hh]; rfl
    clear hh
    go_wp2_with fail
    refine (len11_any p m h b _ TB.out).mono ?_
    rintro e w2 ⟨rfl, rfl⟩
    go_wp2
    go_ret
    exact ⟨ret_bool' HX.out.symm, HB.out⟩
  · have HX : Hid (roomB b q = true) := by unfold roomB; rw [Hid, hh]; rfl
    clear hh
    go_wp2
    go_ret
    exact ⟨ret_bool' HX.out.symm, HB.out⟩

end Go.Proofs.YtpbfnmokhmioaaaDoor
