/- The closures of overLongest: is a sender kept; whose last time is less. -/
import Derived.Test.YtnddmaadmibpeaaForeignSort
namespace Go.Proofs.Ytnddmaadmibpeaa
set_option maxRecDepth 100000
open Go.RowKit
set_option linter.unusedVariables false

/-- what the closures have captured -/
structure ClosAt (w : World) (bt bs p m : Nat) (own : Ck) (win : Int) (L : List Fe) (st : Int) : Prop where
  tt : Holds w bt 27 #[.pointer (some ⟨p, 0, none⟩)]
  ss : Holds w bs 3 #[.int .i64 st]
  tab : TabAt w p m own win L
section
variable {w v : World} {bt bs p m g : Nat} {own : Ck} {win : Int} {L : List Fe} {st : Int}
theorem ClosAt.keptB (h : ClosAt w bt bs p m own win L st) (hb : Below w.heap.size w v) : ClosAt v bt bs p m own win L st := ⟨h.tt.keptB hb, h.ss.keptB hb, h.tab.keptB hb⟩
theorem ClosAt.drew (h : ClosAt w bt bs p m own win L st) : ClosAt w.drew bt bs p m own win L st := ⟨h.tt.drew, h.ss.drew, h.tab.drew⟩
theorem ClosAt.off (h : ClosAt w bt bs p m own win L st) (hg : w.heap.size ≤ g) : bt ≠ g ∧ bs ≠ g ∧ p ≠ g ∧ m ≠ g := ⟨h.tt.off hg, h.ss.off hg, h.tab.off hg⟩
theorem ClosAt.touch (h : ClosAt w bt bs p m own win L st) (ht : Touch g w v) (hg : bt ≠ g ∧ bs ≠ g ∧ p ≠ g ∧ m ≠ g) : ClosAt v bt bs p m own win L st := ⟨h.tt.touch ht hg.1, h.ss.touch ht hg.2.1, h.tab.touch ht hg.2.2⟩
end
/-- is a sender's entry not over? -/
def keptP (L : List Fe) (st : Int) (q : Pt) : Bool := decide (st ≤ (atE L q).t0)
set_option maxHeartbeats 4000000 in
theorem kept8_true (bt bs p m : Nat) (own : Ck) (win : Int) (L : List Fe) (st : Int) (q : Pt) (w : World) (h : ClosAt w bt bs p m own win L st) (ok : ptOk q) (hk : keptP L st q = true) :
    Calls Try.prog 33 #[.agg (ptA q), .pointer (some ⟨bt, 0, none⟩), .pointer (some ⟨bs, 0, none⟩)] w fun e w' => e = .returned (.bool (keptP L st q)) ∧ Below w.heap.size w w' := by
  have HB := Lib.hid (Below.refl w.heap.size w)
  have CA := Lib.hid h
  have HOK := Lib.hid ok
  have HX := Lib.hid hk
  have hd : decide ((atE L q).t0 ≥ st) = true := hk
  clear h ok hk
  go_enter Try.func33, Try.ntmps33
  go_upto_region 1 with ((refine big_box rfl 35 _ rfl (ptA q) rfl (by kernel_rfl) ?_; intro gK3 wK3 hlK3 nK3 hbK3; have K3 := Lib.hid nK3; have LK3 := Lib.hid (Nat.le_trans (HB.out).size hlK3); have OCAK3 := Lib.hid ((CA.out).off hlK3); replace CA := Lib.hid ((CA.out).keptB hbK3); replace HB := Lib.hid (bstep HB.out hbK3); clear hlK3 nK3 hbK3))
  refine wp_region_held_drew (S := fun v => Below w.heap.size w v ∧ ClosAt v bt bs p m own win L st ∧ Holds v gK3 35 (ptA q) ∧ True) (by kernel_rfl) ?_ (fun hHeld => ?_)
  · exact ⟨bdrew HB.out, (CA.out).drew, (K3.out).drew, trivial⟩
  clear HB CA K3
  refine wpAnyH_take (i := 0) (v := .pointer (some ⟨p, 0, none⟩)) (at_list rfl) (by kernel_rfl) (by kernel_rfl) (by kernel_rfl) (fun _ _ _ h => h) (Or.inl ⟨by rfl, ?_⟩) hHeld ?_
  · intro v hSv
    clear hHeld
    have q0 := Holds.reads ((hSv.2.1).tt) (i := 0) (x := .pointer (some ⟨p, 0, none⟩)) rfl
    clear hSv
    go_simp
  try simp only [Act.put, List.setIfInBounds_toArray, List.set_cons_zero, List.set_cons_succ]
  refine wpAnyH_take (i := 1) (v := .pointer (some ⟨p, 0, none⟩)) (at_list rfl) (by kernel_rfl) (by kernel_rfl) (by kernel_rfl) (fun _ _ _ h => h) (Or.inl ⟨by rfl, ?_⟩) hHeld ?_
  · intro v hSv
    clear hHeld
    go_simp
  try simp only [Act.put, List.setIfInBounds_toArray, List.set_cons_zero, List.set_cons_succ]
  refine wpAnyH_take (i := 2) (v := .pointer (some ⟨p, 9, none⟩)) (at_list rfl) (by kernel_rfl) (by kernel_rfl) (by kernel_rfl) (fun _ _ _ h => h) (Or.inl ⟨by rfl, ?_⟩) hHeld ?_
  · intro v hSv
    clear hHeld
    go_simp
  try simp only [Act.put, List.setIfInBounds_toArray, List.set_cons_zero, List.set_cons_succ]
  refine wpAnyH_take (i := 3) (v := .map (some m)) (at_list rfl) (by kernel_rfl) (by kernel_rfl) (by kernel_rfl) (fun _ _ _ h => h) (Or.inl ⟨by rfl, ?_⟩) hHeld ?_
  · intro v hSv
    clear hHeld
    have q9 := Holds.reads ((hSv.2.1).tab.tab) (i := 9) (x := .map (some m)) rfl
    clear hSv
    go_simp
  try simp only [Act.put, List.setIfInBounds_toArray, List.set_cons_zero, List.set_cons_succ]
  refine wpAnyH_take (i := 4) (v := .agg (ptA q)) (at_list rfl) (by kernel_rfl) (by kernel_rfl) (by kernel_rfl) (fun _ _ _ h => h) (yields_whole (by rfl) 35 _ rfl gK3 rfl (fun v hv => hv.2.2.1) Try.underlying35 rfl (by kernel_rfl)) hHeld ?_
  try simp only [Act.put, List.setIfInBounds_toArray, List.set_cons_zero, List.set_cons_succ]
  refine wpAnyH_take (i := 5) (v := .agg (feA (atE L q))) (at_list rfl) (by kernel_rfl) (by kernel_rfl) (by kernel_rfl) (fun _ _ _ h => h) (yields_look (by rfl) _ _ rfl rfl rfl (fun v hv => hv.2.1.tab.map) HOK.out) hHeld ?_
  try simp only [Act.put, List.setIfInBounds_toArray, List.set_cons_zero, List.set_cons_succ]
  refine wpAnyH_take (i := 7) (v := .int .i64 st) (at_list rfl) (by kernel_rfl) (by kernel_rfl) (by kernel_rfl) (fun _ _ _ h => h) (Or.inl ⟨by rfl, ?_⟩) hHeld ?_
  · intro v hSv
    clear hHeld
    have q0 := Holds.reads ((hSv.2.1).ss) (i := 0) (x := .int .i64 st) rfl
    clear hSv
    go_simp
  try simp only [Act.put, List.setIfInBounds_toArray, List.set_cons_zero, List.set_cons_succ]
  refine wpAnyH_ready (rs := [6]) (by kernel_rfl) (by simp) ?_
  refine AllReadyH.cons (at_list rfl) (fun K hK => ?_) AllReadyH.nil
  go_simp
  refine (last8_any (atE L q) _).mono ?_
  rintro e v1 ⟨rfl, hv1⟩
  go_wp2_with fail
  refine hK.out _ _ ?_ (fun hHeld2 => ?_)
  · exact ⟨bstep hHeld.1 hv1, (hHeld.2.1).keptB hv1, (hHeld.2.2.1).keptB hv1, trivial⟩
  clear hK K hHeld
  have hHeld := hHeld2
  clear hHeld2 hv1
  try simp only [Act.put, List.setIfInBounds_toArray, List.set_cons_zero, List.set_cons_succ]
  refine wpAnyH_take (i := 8) (v := .bool true) (at_list rfl) (by kernel_rfl) (by kernel_rfl) (by kernel_rfl) (fun _ _ _ h => h) (Or.inl ⟨by rfl, ?_⟩) hHeld ?_
  · intro v hSv
    clear hHeld
    go_simp
  try simp only [Act.put, List.setIfInBounds_toArray, List.set_cons_zero, List.set_cons_succ]
  refine wpAnyH_take (i := 9) (v := .bool true) (at_list rfl) (by kernel_rfl) (by kernel_rfl) (by kernel_rfl) (fun _ _ _ h => h) (Or.inl ⟨by rfl, ?_⟩) hHeld ?_
  · intro v hSv
    clear hHeld
    go_simp
  try simp only [Act.put, List.setIfInBounds_toArray, List.set_cons_zero, List.set_cons_succ]
  refine wpAnyH_done (by kernel_rfl) ?_ _
  have HB := Lib.hid hHeld.1
  have CA := Lib.hid hHeld.2.1
  have K3 := Lib.hid hHeld.2.2.1
  clear hHeld
  go_wp2
  go_ret
  exact ⟨ret_bool8 HX.out.symm, HB.out⟩
set_option maxHeartbeats 4000000 in
theorem kept8_false (bt bs p m : Nat) (own : Ck) (win : Int) (L : List Fe) (st : Int) (q : Pt) (w : World) (h : ClosAt w bt bs p m own win L st) (ok : ptOk q) (hk : keptP L st q = false) :
    Calls Try.prog 33 #[.agg (ptA q), .pointer (some ⟨bt, 0, none⟩), .pointer (some ⟨bs, 0, none⟩)] w fun e w' => e = .returned (.bool (keptP L st q)) ∧ Below w.heap.size w w' := by
  have HB := Lib.hid (Below.refl w.heap.size w)
  have CA := Lib.hid h
  have HOK := Lib.hid ok
  have HX := Lib.hid hk
  have hd : decide ((atE L q).t0 ≥ st) = false := hk
  clear h ok hk
  go_enter Try.func33, Try.ntmps33
  go_upto_region 1 with ((refine big_box rfl 35 _ rfl (ptA q) rfl (by kernel_rfl) ?_; intro gK3 wK3 hlK3 nK3 hbK3; have K3 := Lib.hid nK3; have LK3 := Lib.hid (Nat.le_trans (HB.out).size hlK3); have OCAK3 := Lib.hid ((CA.out).off hlK3); replace CA := Lib.hid ((CA.out).keptB hbK3); replace HB := Lib.hid (bstep HB.out hbK3); clear hlK3 nK3 hbK3))
  refine wp_region_held_drew (S := fun v => Below w.heap.size w v ∧ ClosAt v bt bs p m own win L st ∧ Holds v gK3 35 (ptA q) ∧ True) (by kernel_rfl) ?_ (fun hHeld => ?_)
  · exact ⟨bdrew HB.out, (CA.out).drew, (K3.out).drew, trivial⟩
  clear HB CA K3
  refine wpAnyH_take (i := 0) (v := .pointer (some ⟨p, 0, none⟩)) (at_list rfl) (by kernel_rfl) (by kernel_rfl) (by kernel_rfl) (fun _ _ _ h => h) (Or.inl ⟨by rfl, ?_⟩) hHeld ?_
  · intro v hSv
    clear hHeld
    have q0 := Holds.reads ((hSv.2.1).tt) (i := 0) (x := .pointer (some ⟨p, 0, none⟩)) rfl
    clear hSv
    go_simp
  try simp only [Act.put, List.setIfInBounds_toArray, List.set_cons_zero, List.set_cons_succ]
  refine wpAnyH_take (i := 1) (v := .pointer (some ⟨p, 0, none⟩)) (at_list rfl) (by kernel_rfl) (by kernel_rfl) (by kernel_rfl) (fun _ _ _ h => h) (Or.inl ⟨by rfl, ?_⟩) hHeld ?_
  · intro v hSv
    clear hHeld
    go_simp
  try simp only [Act.put, List.setIfInBounds_toArray, List.set_cons_zero, List.set_cons_succ]
  refine wpAnyH_take (i := 2) (v := .pointer (some ⟨p, 9, none⟩)) (at_list rfl) (by kernel_rfl) (by kernel_rfl) (by kernel_rfl) (fun _ _ _ h => h) (Or.inl ⟨by rfl, ?_⟩) hHeld ?_
  · intro v hSv
    clear hHeld
    go_simp
  try simp only [Act.put, List.setIfInBounds_toArray, List.set_cons_zero, List.set_cons_succ]
  refine wpAnyH_take (i := 3) (v := .map (some m)) (at_list rfl) (by kernel_rfl) (by kernel_rfl) (by kernel_rfl) (fun _ _ _ h => h) (Or.inl ⟨by rfl, ?_⟩) hHeld ?_
  · intro v hSv
    clear hHeld
    have q9 := Holds.reads ((hSv.2.1).tab.tab) (i := 9) (x := .map (some m)) rfl
    clear hSv
    go_simp
  try simp only [Act.put, List.setIfInBounds_toArray, List.set_cons_zero, List.set_cons_succ]
  refine wpAnyH_take (i := 4) (v := .agg (ptA q)) (at_list rfl) (by kernel_rfl) (by kernel_rfl) (by kernel_rfl) (fun _ _ _ h => h) (yields_whole (by rfl) 35 _ rfl gK3 rfl (fun v hv => hv.2.2.1) Try.underlying35 rfl (by kernel_rfl)) hHeld ?_
  try simp only [Act.put, List.setIfInBounds_toArray, List.set_cons_zero, List.set_cons_succ]
  refine wpAnyH_take (i := 5) (v := .agg (feA (atE L q))) (at_list rfl) (by kernel_rfl) (by kernel_rfl) (by kernel_rfl) (fun _ _ _ h => h) (yields_look (by rfl) _ _ rfl rfl rfl (fun v hv => hv.2.1.tab.map) HOK.out) hHeld ?_
  try simp only [Act.put, List.setIfInBounds_toArray, List.set_cons_zero, List.set_cons_succ]
  refine wpAnyH_take (i := 7) (v := .int .i64 st) (at_list rfl) (by kernel_rfl) (by kernel_rfl) (by kernel_rfl) (fun _ _ _ h => h) (Or.inl ⟨by rfl, ?_⟩) hHeld ?_
  · intro v hSv
    clear hHeld
    have q0 := Holds.reads ((hSv.2.1).ss) (i := 0) (x := .int .i64 st) rfl
    clear hSv
    go_simp
  try simp only [Act.put, List.setIfInBounds_toArray, List.set_cons_zero, List.set_cons_succ]
  refine wpAnyH_ready (rs := [6]) (by kernel_rfl) (by simp) ?_
  refine AllReadyH.cons (at_list rfl) (fun K hK => ?_) AllReadyH.nil
  go_simp
  refine (last8_any (atE L q) _).mono ?_
  rintro e v1 ⟨rfl, hv1⟩
  go_wp2_with fail
  refine hK.out _ _ ?_ (fun hHeld2 => ?_)
  · exact ⟨bstep hHeld.1 hv1, (hHeld.2.1).keptB hv1, (hHeld.2.2.1).keptB hv1, trivial⟩
  clear hK K hHeld
  have hHeld := hHeld2
  clear hHeld2 hv1
  try simp only [Act.put, List.setIfInBounds_toArray, List.set_cons_zero, List.set_cons_succ]
  refine wpAnyH_take (i := 8) (v := .bool false) (at_list rfl) (by kernel_rfl) (by kernel_rfl) (by kernel_rfl) (fun _ _ _ h => h) (Or.inl ⟨by rfl, ?_⟩) hHeld ?_
  · intro v hSv
    clear hHeld
    go_simp
  try simp only [Act.put, List.setIfInBounds_toArray, List.set_cons_zero, List.set_cons_succ]
  refine wpAnyH_take (i := 9) (v := .bool false) (at_list rfl) (by kernel_rfl) (by kernel_rfl) (by kernel_rfl) (fun _ _ _ h => h) (Or.inl ⟨by rfl, ?_⟩) hHeld ?_
  · intro v hSv
    clear hHeld
    go_simp
  try simp only [Act.put, List.setIfInBounds_toArray, List.set_cons_zero, List.set_cons_succ]
  refine wpAnyH_done (by kernel_rfl) ?_ _
  have HB := Lib.hid hHeld.1
  have CA := Lib.hid hHeld.2.1
  have K3 := Lib.hid hHeld.2.2.1
  clear hHeld
  go_wp2
  go_ret
  exact ⟨ret_bool8 HX.out.symm, HB.out⟩
theorem kept8_any (bt bs p m : Nat) (own : Ck) (win : Int) (L : List Fe) (st : Int) (q : Pt) (w : World) (h : ClosAt w bt bs p m own win L st) (ok : ptOk q) :
    Calls Try.prog 33 #[.agg (ptA q), .pointer (some ⟨bt, 0, none⟩), .pointer (some ⟨bs, 0, none⟩)] w fun e w' => e = .returned (.bool (keptP L st q)) ∧ Below w.heap.size w w' := by
  cases hk : keptP L st q
  · rw [← hk]; exact kept8_false bt bs p m own win L st q w h ok hk
  · rw [← hk]; exact kept8_true bt bs p m own win L st q w h ok hk
set_option maxHeartbeats 4000000 in
theorem bytime8_any (bt bs p m : Nat) (own : Ck) (win : Int) (L : List Fe) (st : Int) (a b : Pt) (w : World) (h : ClosAt w bt bs p m own win L st) (oa : ptOk a) (ob : ptOk b) :
    Calls Try.prog 34 #[.agg (ptA a), .agg (ptA b), .pointer (some ⟨bt, 0, none⟩)] w fun e w' => e = .returned (.int .i64 (cmpI (atE L a).t0 (atE L b).t0)) ∧ Below w.heap.size w w' := by
  have HB := Lib.hid (Below.refl w.heap.size w)
  have CA := Lib.hid h
  have HOA := Lib.hid oa
  have HOB := Lib.hid ob
  clear h oa ob
  go_enter Try.func34, Try.ntmps34
  go_upto_region 1 with (first | (refine big_box rfl 35 _ rfl (ptA b) rfl (by kernel_rfl) ?_; intro gK4 wK4 hlK4 nK4 hbK4; have K4 := Lib.hid nK4; have LK4 := Lib.hid (Nat.le_trans (HB.out).size hlK4); have OCAK4 := Lib.hid ((CA.out).off hlK4); have OK3K4 := Lib.hid ((K3.out).off hlK4); replace CA := Lib.hid ((CA.out).keptB hbK4); replace K3 := Lib.hid ((K3.out).keptB hbK4); replace HB := Lib.hid (bstep HB.out hbK4); clear hlK4 nK4 hbK4) | (refine big_box rfl 35 _ rfl (ptA a) rfl (by kernel_rfl) ?_; intro gK3 wK3 hlK3 nK3 hbK3; have K3 := Lib.hid nK3; have LK3 := Lib.hid (Nat.le_trans (HB.out).size hlK3); have OCAK3 := Lib.hid ((CA.out).off hlK3); replace CA := Lib.hid ((CA.out).keptB hbK3); replace HB := Lib.hid (bstep HB.out hbK3); clear hlK3 nK3 hbK3))
  refine wp_region_held_drew (S := fun v => Below w.heap.size w v ∧ ClosAt v bt bs p m own win L st ∧ Holds v gK3 35 (ptA a) ∧ Holds v gK4 35 (ptA b) ∧ True) (by kernel_rfl) ?_ (fun hHeld => ?_)
  · exact ⟨bdrew HB.out, (CA.out).drew, (K3.out).drew, (K4.out).drew, trivial⟩
  clear HB CA K3 K4
  refine wpAnyH_take (i := 0) (v := .pointer (some ⟨p, 0, none⟩)) (at_list rfl) (by kernel_rfl) (by kernel_rfl) (by kernel_rfl) (fun _ _ _ h => h) (Or.inl ⟨by rfl, ?_⟩) hHeld ?_
  · intro v hSv
    clear hHeld
    have q0 := Holds.reads ((hSv.2.1).tt) (i := 0) (x := .pointer (some ⟨p, 0, none⟩)) rfl
    clear hSv
    go_simp
  try simp only [Act.put, List.setIfInBounds_toArray, List.set_cons_zero, List.set_cons_succ]
  refine wpAnyH_take (i := 1) (v := .pointer (some ⟨p, 0, none⟩)) (at_list rfl) (by kernel_rfl) (by kernel_rfl) (by kernel_rfl) (fun _ _ _ h => h) (Or.inl ⟨by rfl, ?_⟩) hHeld ?_
  · intro v hSv
    clear hHeld
    go_simp
  try simp only [Act.put, List.setIfInBounds_toArray, List.set_cons_zero, List.set_cons_succ]
  refine wpAnyH_take (i := 2) (v := .pointer (some ⟨p, 9, none⟩)) (at_list rfl) (by kernel_rfl) (by kernel_rfl) (by kernel_rfl) (fun _ _ _ h => h) (Or.inl ⟨by rfl, ?_⟩) hHeld ?_
  · intro v hSv
    clear hHeld
    go_simp
  try simp only [Act.put, List.setIfInBounds_toArray, List.set_cons_zero, List.set_cons_succ]
  refine wpAnyH_take (i := 3) (v := .map (some m)) (at_list rfl) (by kernel_rfl) (by kernel_rfl) (by kernel_rfl) (fun _ _ _ h => h) (Or.inl ⟨by rfl, ?_⟩) hHeld ?_
  · intro v hSv
    clear hHeld
    have q9 := Holds.reads ((hSv.2.1).tab.tab) (i := 9) (x := .map (some m)) rfl
    clear hSv
    go_simp
  try simp only [Act.put, List.setIfInBounds_toArray, List.set_cons_zero, List.set_cons_succ]
  refine wpAnyH_take (i := 4) (v := .agg (ptA a)) (at_list rfl) (by kernel_rfl) (by kernel_rfl) (by kernel_rfl) (fun _ _ _ h => h) (yields_whole (by rfl) 35 _ rfl gK3 rfl (fun v hv => hv.2.2.1) Try.underlying35 rfl (by kernel_rfl)) hHeld ?_
  try simp only [Act.put, List.setIfInBounds_toArray, List.set_cons_zero, List.set_cons_succ]
  refine wpAnyH_take (i := 5) (v := .agg (feA (atE L a))) (at_list rfl) (by kernel_rfl) (by kernel_rfl) (by kernel_rfl) (fun _ _ _ h => h) (yields_look (by rfl) _ _ rfl rfl rfl (fun v hv => hv.2.1.tab.map) HOA.out) hHeld ?_
  try simp only [Act.put, List.setIfInBounds_toArray, List.set_cons_zero, List.set_cons_succ]
  refine wpAnyH_take (i := 7) (v := .pointer (some ⟨p, 0, none⟩)) (at_list rfl) (by kernel_rfl) (by kernel_rfl) (by kernel_rfl) (fun _ _ _ h => h) (Or.inl ⟨by rfl, ?_⟩) hHeld ?_
  · intro v hSv
    clear hHeld
    have q0 := Holds.reads ((hSv.2.1).tt) (i := 0) (x := .pointer (some ⟨p, 0, none⟩)) rfl
    clear hSv
    go_simp
  try simp only [Act.put, List.setIfInBounds_toArray, List.set_cons_zero, List.set_cons_succ]
  refine wpAnyH_take (i := 8) (v := .pointer (some ⟨p, 0, none⟩)) (at_list rfl) (by kernel_rfl) (by kernel_rfl) (by kernel_rfl) (fun _ _ _ h => h) (Or.inl ⟨by rfl, ?_⟩) hHeld ?_
  · intro v hSv
    clear hHeld
    go_simp
  try simp only [Act.put, List.setIfInBounds_toArray, List.set_cons_zero, List.set_cons_succ]
  refine wpAnyH_take (i := 9) (v := .pointer (some ⟨p, 9, none⟩)) (at_list rfl) (by kernel_rfl) (by kernel_rfl) (by kernel_rfl) (fun _ _ _ h => h) (Or.inl ⟨by rfl, ?_⟩) hHeld ?_
  · intro v hSv
    clear hHeld
    go_simp
  try simp only [Act.put, List.setIfInBounds_toArray, List.set_cons_zero, List.set_cons_succ]
  refine wpAnyH_take (i := 10) (v := .map (some m)) (at_list rfl) (by kernel_rfl) (by kernel_rfl) (by kernel_rfl) (fun _ _ _ h => h) (Or.inl ⟨by rfl, ?_⟩) hHeld ?_
  · intro v hSv
    clear hHeld
    have q9 := Holds.reads ((hSv.2.1).tab.tab) (i := 9) (x := .map (some m)) rfl
    clear hSv
    go_simp
  try simp only [Act.put, List.setIfInBounds_toArray, List.set_cons_zero, List.set_cons_succ]
  refine wpAnyH_take (i := 11) (v := .agg (ptA b)) (at_list rfl) (by kernel_rfl) (by kernel_rfl) (by kernel_rfl) (fun _ _ _ h => h) (yields_whole (by rfl) 35 _ rfl gK4 rfl (fun v hv => hv.2.2.2.1) Try.underlying35 rfl (by kernel_rfl)) hHeld ?_
  try simp only [Act.put, List.setIfInBounds_toArray, List.set_cons_zero, List.set_cons_succ]
  refine wpAnyH_take (i := 12) (v := .agg (feA (atE L b))) (at_list rfl) (by kernel_rfl) (by kernel_rfl) (by kernel_rfl) (fun _ _ _ h => h) (yields_look (by rfl) _ _ rfl rfl rfl (fun v hv => hv.2.1.tab.map) HOB.out) hHeld ?_
  try simp only [Act.put, List.setIfInBounds_toArray, List.set_cons_zero, List.set_cons_succ]
  refine wpAnyH_ready (rs := [6]) (by kernel_rfl) (by simp) ?_
  refine AllReadyH.cons (at_list rfl) (fun K hK => ?_) AllReadyH.nil
  go_simp
  refine (last8_any (atE L a) _).mono ?_
  rintro e v1 ⟨rfl, hv1⟩
  go_wp2_with fail
  refine hK.out _ _ ?_ (fun hHeld2 => ?_)
  · exact ⟨bstep hHeld.1 hv1, (hHeld.2.1).keptB hv1, (hHeld.2.2.1).keptB hv1, (hHeld.2.2.2.1).keptB hv1, trivial⟩
  clear hK K hHeld
  have hHeld := hHeld2
  clear hHeld2 hv1
  try simp only [Act.put, List.setIfInBounds_toArray, List.set_cons_zero, List.set_cons_succ]
  refine wpAnyH_ready (rs := [13]) (by kernel_rfl) (by simp) ?_
  refine AllReadyH.cons (at_list rfl) (fun K hK => ?_) AllReadyH.nil
  go_simp
  refine (last8_any (atE L b) _).mono ?_
  rintro e v2 ⟨rfl, hv2⟩
  go_wp2_with fail
  refine hK.out _ _ ?_ (fun hHeld2 => ?_)
  · exact ⟨bstep hHeld.1 hv2, (hHeld.2.1).keptB hv2, (hHeld.2.2.1).keptB hv2, (hHeld.2.2.2.1).keptB hv2, trivial⟩
  clear hK K hHeld
  have hHeld := hHeld2
  clear hHeld2 hv2
  try simp only [Act.put, List.setIfInBounds_toArray, List.set_cons_zero, List.set_cons_succ]
  refine wpAnyH_ready (rs := [14]) (by kernel_rfl) (by simp) ?_
  refine AllReadyH.cons (at_list rfl) (fun K hK => ?_) AllReadyH.nil
  go_simp
  refine (cmp_int (atE L a).t0 (atE L b).t0 _).mono ?_
  rintro e v9 ⟨rfl, rfl⟩
  go_wp2_with fail
  refine hK.out _ _ hHeld (fun _ => ?_)
  clear hK K
  try simp only [Act.put, List.setIfInBounds_toArray, List.set_cons_zero, List.set_cons_succ]
  refine wpAnyH_take (i := 15) (v := .int .i64 (cmpI (atE L a).t0 (atE L b).t0)) (at_list rfl) (by kernel_rfl) (by kernel_rfl) (by kernel_rfl) (fun _ _ _ h => h) (Or.inl ⟨by rfl, ?_⟩) hHeld ?_
  · intro v hSv
    clear hHeld
    go_simp
  try simp only [Act.put, List.setIfInBounds_toArray, List.set_cons_zero, List.set_cons_succ]
  refine wpAnyH_done (by kernel_rfl) ?_ _
  have HB := Lib.hid hHeld.1
  have CA := Lib.hid hHeld.2.1
  have K3 := Lib.hid hHeld.2.2.1
  have K4 := Lib.hid hHeld.2.2.2.1
  clear hHeld
  go_wp2
  go_ret
  exact ⟨rfl, HB.out⟩

end Go.Proofs.Ytnddmaadmibpeaa
