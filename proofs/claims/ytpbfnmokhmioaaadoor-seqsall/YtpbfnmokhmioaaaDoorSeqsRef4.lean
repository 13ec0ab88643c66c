/- The walk over the reference's Take. -/
import Derived.Test.YtpbfnmokhmioaaaDoorSeqsRef3
import Derived.Deep.DeepCutAuto
import Derived.Deep.LoopGhost
import Derived.WalkMore
namespace Go.Proofs.YtpbfnmokhmioaaaDoor
set_option maxRecDepth 100000
open Go.RowKit
set_option linter.unusedVariables false
set_option linter.unusedSimpArgs false

theorem find_at {l : List Rh} {q : Pt} {s : Int} {k : Nat} {x : Rh} (h1 : ∀ y ∈ l.take k, hitH q s y = false) (hk : l[k]? = some x) (hx : hitH q s x = true) : l.find? (hitH q s) = some x := by
  have hl : k < l.length := (List.getElem?_eq_some_iff.1 hk).1
  have e : l = l.take k ++ x :: l.drop (k + 1) := by
    have h2 := List.take_append_drop k l
    rw [List.drop_eq_getElem_cons hl, (List.getElem?_eq_some_iff.1 hk).2] at h2
    exact h2.symm
  rw [e, List.find?_append, List.find?_eq_none.2 (fun y hy => by rw [h1 y hy]; decide), List.find?_cons, hx]
  rfl
theorem hit_step {l : List Rh} {q : Pt} {s : Int} {k : Nat} {x : Rh} (h1 : ∀ y ∈ l.take k, hitH q s y = false) (hk : l[k]? = some x) (hx : hitH q s x = false) : ∀ y ∈ l.take (k + 1), hitH q s y = false := by
  intro y hy
  rw [take_snoc hk] at hy
  rcases List.mem_append.1 hy with hy | hy
  · exact h1 y hy
  · rw [List.mem_singleton.1 hy]; exact hx
theorem results_row_row_tmp {P : Program} {fn : Func} {p p2 u : Tmp} {ty ty2 : TypeId} (h : fn.results = #[.cell p ty, .cell p2 ty2, .tmp u]) (tmps : Array Value) (w : World) (g : Nat) (t : TypeId) (cs : Array Value) (g2 : Nat) (t2 : TypeId) (cs2 : Array Value) (x : Value) (d d2 : TypeDesc) (hp : tmps.getD p undef = .pointer (some ⟨g, 0, none⟩)) (hp2 : tmps.getD p2 undef = .pointer (some ⟨g2, 0, none⟩)) (hx : tmps.getD u undef = x) (hg : Holds w g t cs) (hg2 : Holds w g2 t2 cs2)
    (hu : P.underlying ty = some d) (hd : d.isRow = true) (hi : (P.info? ty).map (·.size) = some cs.size) (hu2 : P.underlying ty2 = some d2) (hd2 : d2.isRow = true) (hi2 : (P.info? ty2).map (·.size) = some cs2.size) : (results fn tmps).run P w = .ok (.tuple #[.agg cs, .agg cs2, x]) w := by
  have hr := run_loadVar_row w g t ty cs (0, 0) d hg hu (by cases d <;> simp_all) hi
  have hr2 := run_loadVar_row w g2 t2 ty2 cs2 (0, 0) d2 hg2 hu2 (by cases d2 <;> simp_all) hi2
  have h0 : (results fn tmps).run P w = ((asAddr (tmps.getD p undef)).run P w).andThen fun a w₁ => ((loadVar ty a).run P w₁).andThen fun z w₂ => ((asAddr (tmps.getD p2 undef)).run P w₂).andThen fun a w₃ => ((loadVar ty2 a).run P w₃).andThen fun z2 w₄ => .ok (.tuple #[z, z2, tmps.getD u undef]) w₄ := by
    simp only [results, h]
    simp [Sem.run_bind, Result.andThen]
  rw [h0, hp, hx, hp2]
  simp only [asAddr, Sem.run_pure, Result.andThen_ok, hr, hr2]
set_option maxHeartbeats 4000000 in
theorem rtake11_any (r : Rb) (s1 s2 : Sl) (A : Option Addr) (n c : Nat) (q : Pt) (s : Int) (w : World) (h : RbIn w r s1 s2 ⟨A, n, c⟩) (hS : r.S.length ≤ 10000) (hL : r.L.length ≤ 10000) (hH : r.H.length ≤ 10000) :
    Calls Tryd.prog 22 #[.agg (rbA r.sent s1 s2 ⟨A, n, c⟩), .agg (ptA q), .int .i64 s] w fun e w' => ∃ t : Sl, e = .returned (.tuple #[.agg (rbA r.sent s1 s2 t), .agg #[.int .i64 (rtakeX r q s).x0, .int .i64 (rtakeX r q s).x1, .int .i64 (rtakeX r q s).x2], .bool (takenH r q s).isSome]) ∧ RbIn w' (rtakeR r q s) s1 s2 t ∧ Below w.heap.size w w' := by
  have HB := Lib.hid (Below.refl w.heap.size w)
  have HS := Lib.hid hS
  have HL := Lib.hid hL
  have HH := Lib.hid hH
  have RI := Lib.hid h
  clear hS hL hH h
  have HLN : Hid (r.H.length = n) := (RI.out).H.len
  have hn : n ≤ 10000 := by have := HH.out; have := HLN.out; omega
  go_enter Tryd.func22, Tryd.ntmps22
  go_upto_region 1 with (first | (refine big_alloc rfl 36 rfl (#[.int .i64 0, .int .i64 0, .int .i64 0]) (by kernel_rfl) ?_; intro gK7 wK7 hlK7 nK7 hbK7; have K7 := Lib.hid nK7; have LK7 := Lib.hid (Nat.le_trans (HB.out).size hlK7); have ORIK7 := Lib.hid ((RI.out).off hlK7); have OK3K7 := Lib.hid ((K3.out).off hlK7); have OK4K7 := Lib.hid ((K4.out).off hlK7); have OK6K7 := Lib.hid ((K6.out).off hlK7); replace RI := Lib.hid ((RI.out).keptB hbK7); replace K3 := Lib.hid ((K3.out).keptB hbK7); replace K4 := Lib.hid ((K4.out).keptB hbK7); replace K6 := Lib.hid ((K6.out).keptB hbK7); replace HB := Lib.hid (bstep HB.out hbK7); clear hlK7 nK7 hbK7; try simp only [Act.put, List.setIfInBounds_toArray, List.set_cons_zero, List.set_cons_succ]) | (refine big_alloc rfl 31 rfl (rbA (fun _ => 0) nilS nilS nilS) (by kernel_rfl) ?_; intro gK6 wK6 hlK6 nK6 hbK6; have K6 := Lib.hid nK6; have LK6 := Lib.hid (Nat.le_trans (HB.out).size hlK6); have ORIK6 := Lib.hid ((RI.out).off hlK6); have OK3K6 := Lib.hid ((K3.out).off hlK6); have OK4K6 := Lib.hid ((K4.out).off hlK6); replace RI := Lib.hid ((RI.out).keptB hbK6); replace K3 := Lib.hid ((K3.out).keptB hbK6); replace K4 := Lib.hid ((K4.out).keptB hbK6); replace HB := Lib.hid (bstep HB.out hbK6); clear hlK6 nK6 hbK6; try simp only [Act.put, List.setIfInBounds_toArray, List.set_cons_zero, List.set_cons_succ]) | (refine big_box rfl 35 _ rfl (ptA q) rfl (by kernel_rfl) ?_; intro gK4 wK4 hlK4 nK4 hbK4; have K4 := Lib.hid nK4; have LK4 := Lib.hid (Nat.le_trans (HB.out).size hlK4); have ORIK4 := Lib.hid ((RI.out).off hlK4); have OK3K4 := Lib.hid ((K3.out).off hlK4); replace RI := Lib.hid ((RI.out).keptB hbK4); replace K3 := Lib.hid ((K3.out).keptB hbK4); replace HB := Lib.hid (bstep HB.out hbK4); clear hlK4 nK4 hbK4; try simp only [Act.put, List.setIfInBounds_toArray, List.set_cons_zero, List.set_cons_succ]) | (refine big_box rfl 31 _ rfl (rbA r.sent s1 s2 ⟨A, n, c⟩) rfl (by kernel_rfl) ?_; intro gK3 wK3 hlK3 nK3 hbK3; have K3 := Lib.hid nK3; have LK3 := Lib.hid (Nat.le_trans (HB.out).size hlK3); have ORIK3 := Lib.hid ((RI.out).off hlK3); replace RI := Lib.hid ((RI.out).keptB hbK3); replace HB := Lib.hid (bstep HB.out hbK3); clear hlK3 nK3 hbK3; try simp only [Act.put, List.setIfInBounds_toArray, List.set_cons_zero, List.set_cons_succ]))
  go_wp2
  go_loopw [9] (fun i v => ∃ k : Nat, k ≤ n ∧ i = .int .i64 k ∧ Hid (∀ y ∈ r.H.take k, hitH q s y = false) ∧ Hid (RbIn v r s1 s2 ⟨A, n, c⟩) ∧ Hid (Holds v gK3 31 (rbA r.sent s1 s2 ⟨A, n, c⟩)) ∧ Hid (Holds v gK4 35 (ptA q)) ∧ Hid (Holds v gK6 31 (rbA (fun _ => 0) nilS nilS nilS)) ∧ Hid (Holds v gK7 36 (#[.int .i64 0, .int .i64 0, .int .i64 0])) ∧ Hid (Below w.heap.size w v)) (fun i _ => n - (intOf i).toNat)
  case atStart => exact ⟨0, by omega, rfl, Lib.hid (fun y hy => by cases hy), RI, K3, K4, K6, K7, HB⟩
  case round =>
    clear RI K3 K4 K6 K7 HB
    rename_i V
    obtain ⟨k, hk, rfl, HW, RI, K3, K4, K6, K7, HB⟩ := hrel
    by_cases hlt : k < n
    · have hd : decide ((k : Int) < (n : Int)) = true := by simpa using hlt
      obtain ⟨y, hx⟩ : ∃ x, r.H[k]? = some x := ⟨_, List.getElem?_eq_getElem (show k < r.H.length by rw [HLN.out]; exact hlt)⟩
      have HXE := Lib.hid hx
      have HK := Lib.hid hlt
      obtain ⟨g, o, hA⟩ := ((RI.out).H).lies (show 0 < n by omega)
      change A = _ at hA
      subst hA
      clear hx
      have x18 := (K3.out).reads (i := 18) (x := .slice (some ⟨g, o, none⟩) n c) rfl
      go_upto_region 4 with fail
      clear x18
      cases hq : eqP y.p q
      · have HW2 : Hid (∀ y ∈ r.H.take (k + 1), hitH q s y = false) := hit_step HW.out HXE.out (by unfold hitH; rw [hq]; rfl)
        have HQ := Lib.hid hq
        clear hq
        refine wp_region_noPanic ?_
        refine wp_region_held_drew (S := fun v => Below w.heap.size w v ∧ RbIn v r s1 s2 ⟨some ⟨g, o, none⟩, n, c⟩ ∧ Holds v gK3 31 (rbA r.sent s1 s2 ⟨some ⟨g, o, none⟩, n, c⟩) ∧ Holds v gK4 35 (ptA q) ∧ Holds v gK6 31 (rbA (fun _ => 0) nilS nilS nilS) ∧ Holds v gK7 36 (#[.int .i64 0, .int .i64 0, .int .i64 0]) ∧ True) (by kernel_rfl) ?_ (fun hHeld => ?_)
        · exact ⟨bdrew HB.out, (RI.out).drew, (K3.out).drew, (K4.out).drew, (K6.out).drew, (K7.out).drew, trivial⟩
        clear HB RI K3 K4 K6 K7
        refine wpAnyH_take (i := 0) (v := .pointer (some ⟨gK3, 18, none⟩)) (at_list rfl) (by kernel_rfl) (by kernel_rfl) (by kernel_rfl) (fun _ _ _ h => h) (Or.inl ⟨by rfl, ?_⟩) hHeld ?_
        · intro v hSv
          clear hHeld
          go_simp
        try simp only [Act.put, List.setIfInBounds_toArray, List.set_cons_zero, List.set_cons_succ]
        refine wpAnyH_take (i := 1) (v := .slice (some ⟨g, o, none⟩) n c) (at_list rfl) (by kernel_rfl) (by kernel_rfl) (by kernel_rfl) (fun _ _ _ h => h) (Or.inl ⟨by rfl, ?_⟩) hHeld ?_
        · intro v hSv
          clear hHeld
          have q := Holds.reads (hSv.2.2.1) (i := 18) (x := .slice (some ⟨g, o, none⟩) n c) rfl
          clear hSv
          go_simp
        try simp only [Act.put, List.setIfInBounds_toArray, List.set_cons_zero, List.set_cons_succ]
        refine wpAnyH_take (i := 2) (v := .int .i64 k) (at_list rfl) (by kernel_rfl) (by kernel_rfl) (by kernel_rfl) (fun _ _ _ h => h) (Or.inl ⟨by rfl, ?_⟩) hHeld ?_
        · intro v hSv
          clear hHeld
          go_simp
        try simp only [Act.put, List.setIfInBounds_toArray, List.set_cons_zero, List.set_cons_succ]
        refine wpAnyH_take (i := 3) (v := .pointer (some ⟨g, o + k * 13, none⟩)) (at_list rfl) (by kernel_rfl) (by kernel_rfl) (by kernel_rfl) (fun _ _ _ h => h) (yields_index (by rfl) 29 _ _ rfl g o n c k 13 rfl rfl HK.out Tryd.underlying29 (by kernel_rfl)) hHeld ?_
        try simp only [Act.put, List.setIfInBounds_toArray, List.set_cons_zero, List.set_cons_succ]
        refine wpAnyH_take (i := 4) (v := .pointer (some ⟨g, o + k * 13, none⟩)) (at_list rfl) (by kernel_rfl) (by kernel_rfl) (by kernel_rfl) (fun _ _ _ h => h) (Or.inl ⟨by rfl, ?_⟩) hHeld ?_
        · intro v hSv
          clear hHeld
          go_simp
        try simp only [Act.put, List.setIfInBounds_toArray, List.set_cons_zero, List.set_cons_succ]
        refine wpAnyH_take (i := 5) (v := .agg (ptA y.p)) (at_list rfl) (by kernel_rfl) (by kernel_rfl) (by kernel_rfl) (fun _ _ _ h => h) (yieldsIf_load_mid (by rfl) 35 _ rfl g (o + k * 13) rfl (ptA y.p).toList _ (fun v hv => hal_port (hv.2.1).H HXE.out) Tryd.underlying35 rfl (by kernel_rfl)) hHeld ?_
        try simp only [Act.put, List.setIfInBounds_toArray, List.set_cons_zero, List.set_cons_succ]
        refine wpAnyH_take (i := 6) (v := .agg (ptA q)) (at_list rfl) (by kernel_rfl) (by kernel_rfl) (by kernel_rfl) (fun _ _ _ h => h) (yields_whole (by rfl) 35 _ rfl gK4 rfl (fun v hv => hv.2.2.2.1) Tryd.underlying35 rfl (by kernel_rfl)) hHeld ?_
        try simp only [Act.put, List.setIfInBounds_toArray, List.set_cons_zero, List.set_cons_succ]
        refine wpAnyH_take (i := 7) (v := .bool false) (at_list rfl) (by kernel_rfl) (by kernel_rfl) (by kernel_rfl) (fun _ _ _ h => h) (yields_cmp (by rfl) .eql 35 _ _ _ rfl (ptA y.p) (ptA q) rfl rfl (by kernel_rfl) false (fun v => (eql_port y.p q v).trans (by rw [HQ.out]))) hHeld ?_
        try simp only [Act.put, List.setIfInBounds_toArray, List.set_cons_zero, List.set_cons_succ]
        refine wpAnyH_take (i := 8) (v := .bool false) (at_list rfl) (by kernel_rfl) (by kernel_rfl) (by kernel_rfl) (fun _ _ _ h => h) (Or.inl ⟨by rfl, ?_⟩) hHeld ?_
        · intro v hSv
          clear hHeld
          go_simp
        try simp only [Act.put, List.setIfInBounds_toArray, List.set_cons_zero, List.set_cons_succ]
        refine wpAnyH_take (i := 9) (v := undef) (at_list rfl) (by kernel_rfl) (by kernel_rfl) (by kernel_rfl) (fun _ _ _ h => h) (Or.inr ⟨by rfl, rfl⟩) hHeld ?_
        try simp only [Act.put, List.setIfInBounds_toArray, List.set_cons_zero, List.set_cons_succ]
        refine wpAnyH_take (i := 10) (v := undef) (at_list rfl) (by kernel_rfl) (by kernel_rfl) (by kernel_rfl) (fun _ _ _ h => h) (Or.inr ⟨by rfl, rfl⟩) hHeld ?_
        try simp only [Act.put, List.setIfInBounds_toArray, List.set_cons_zero, List.set_cons_succ]
        refine wpAnyH_take (i := 11) (v := undef) (at_list rfl) (by kernel_rfl) (by kernel_rfl) (by kernel_rfl) (fun _ _ _ h => h) (Or.inr ⟨by rfl, rfl⟩) hHeld ?_
        try simp only [Act.put, List.setIfInBounds_toArray, List.set_cons_zero, List.set_cons_succ]
        refine wpAnyH_take (i := 12) (v := undef) (at_list rfl) (by kernel_rfl) (by kernel_rfl) (by kernel_rfl) (fun _ _ _ h => h) (Or.inr ⟨by rfl, rfl⟩) hHeld ?_
        try simp only [Act.put, List.setIfInBounds_toArray, List.set_cons_zero, List.set_cons_succ]
        refine wpAnyH_take (i := 13) (v := undef) (at_list rfl) (by kernel_rfl) (by kernel_rfl) (by kernel_rfl) (fun _ _ _ h => h) (Or.inr ⟨by rfl, rfl⟩) hHeld ?_
        try simp only [Act.put, List.setIfInBounds_toArray, List.set_cons_zero, List.set_cons_succ]
        refine wpAnyH_take (i := 14) (v := undef) (at_list rfl) (by kernel_rfl) (by kernel_rfl) (by kernel_rfl) (fun _ _ _ h => h) (Or.inr ⟨by rfl, rfl⟩) hHeld ?_
        try simp only [Act.put, List.setIfInBounds_toArray, List.set_cons_zero, List.set_cons_succ]
        refine wpAnyH_take (i := 15) (v := undef) (at_list rfl) (by kernel_rfl) (by kernel_rfl) (by kernel_rfl) (fun _ _ _ h => h) (Or.inr ⟨by rfl, rfl⟩) hHeld ?_
        try simp only [Act.put, List.setIfInBounds_toArray, List.set_cons_zero, List.set_cons_succ]
        refine wpAnyH_take (i := 16) (v := undef) (at_list rfl) (by kernel_rfl) (by kernel_rfl) (by kernel_rfl) (fun _ _ _ h => h) (Or.inr ⟨by rfl, rfl⟩) hHeld ?_
        try simp only [Act.put, List.setIfInBounds_toArray, List.set_cons_zero, List.set_cons_succ]
        refine wpAnyH_take (i := 17) (v := .bool false) (at_list rfl) (by kernel_rfl) (by kernel_rfl) (by kernel_rfl) (fun _ _ _ h => h) (Or.inl ⟨by rfl, ?_⟩) hHeld ?_
        · intro v hSv
          clear hHeld
          go_simp
        try simp only [Act.put, List.setIfInBounds_toArray, List.set_cons_zero, List.set_cons_succ]
        refine wpAnyH_done (by kernel_rfl) ?_ _
        refine NoPanic.normal ?_
        have HB := Lib.hid hHeld.1
        have RI := Lib.hid hHeld.2.1
        have K3 := Lib.hid hHeld.2.2.1
        have K4 := Lib.hid hHeld.2.2.2.1
        have K6 := Lib.hid hHeld.2.2.2.2.1
        have K7 := Lib.hid hHeld.2.2.2.2.2.1
        clear hHeld
        go_wp2
        go_roundw
        case rel => exact ⟨k + 1, by omega, by go_num, HW2, RI, K3, K4, K6, K7, HB⟩
        case measure => simp [intOf]; omega
      · cases hss : (y.s == s)
        · have HW2 : Hid (∀ y ∈ r.H.take (k + 1), hitH q s y = false) := hit_step HW.out HXE.out (by unfold hitH; rw [hq, hss]; rfl)
          have HQ := Lib.hid hq
          clear hq
          refine wp_region_noPanic ?_
          refine wp_region_held_drew (S := fun v => Below w.heap.size w v ∧ RbIn v r s1 s2 ⟨some ⟨g, o, none⟩, n, c⟩ ∧ Holds v gK3 31 (rbA r.sent s1 s2 ⟨some ⟨g, o, none⟩, n, c⟩) ∧ Holds v gK4 35 (ptA q) ∧ Holds v gK6 31 (rbA (fun _ => 0) nilS nilS nilS) ∧ Holds v gK7 36 (#[.int .i64 0, .int .i64 0, .int .i64 0]) ∧ True) (by kernel_rfl) ?_ (fun hHeld => ?_)
          · exact ⟨bdrew HB.out, (RI.out).drew, (K3.out).drew, (K4.out).drew, (K6.out).drew, (K7.out).drew, trivial⟩
          clear HB RI K3 K4 K6 K7
          refine wpAnyH_take (i := 0) (v := .pointer (some ⟨gK3, 18, none⟩)) (at_list rfl) (by kernel_rfl) (by kernel_rfl) (by kernel_rfl) (fun _ _ _ h => h) (Or.inl ⟨by rfl, ?_⟩) hHeld ?_
          · intro v hSv
            clear hHeld
            go_simp
          try simp only [Act.put, List.setIfInBounds_toArray, List.set_cons_zero, List.set_cons_succ]
          refine wpAnyH_take (i := 1) (v := .slice (some ⟨g, o, none⟩) n c) (at_list rfl) (by kernel_rfl) (by kernel_rfl) (by kernel_rfl) (fun _ _ _ h => h) (Or.inl ⟨by rfl, ?_⟩) hHeld ?_
          · intro v hSv
            clear hHeld
            have q := Holds.reads (hSv.2.2.1) (i := 18) (x := .slice (some ⟨g, o, none⟩) n c) rfl
            clear hSv
            go_simp
          try simp only [Act.put, List.setIfInBounds_toArray, List.set_cons_zero, List.set_cons_succ]
          refine wpAnyH_take (i := 2) (v := .int .i64 k) (at_list rfl) (by kernel_rfl) (by kernel_rfl) (by kernel_rfl) (fun _ _ _ h => h) (Or.inl ⟨by rfl, ?_⟩) hHeld ?_
          · intro v hSv
            clear hHeld
            go_simp
          try simp only [Act.put, List.setIfInBounds_toArray, List.set_cons_zero, List.set_cons_succ]
          refine wpAnyH_take (i := 3) (v := .pointer (some ⟨g, o + k * 13, none⟩)) (at_list rfl) (by kernel_rfl) (by kernel_rfl) (by kernel_rfl) (fun _ _ _ h => h) (yields_index (by rfl) 29 _ _ rfl g o n c k 13 rfl rfl HK.out Tryd.underlying29 (by kernel_rfl)) hHeld ?_
          try simp only [Act.put, List.setIfInBounds_toArray, List.set_cons_zero, List.set_cons_succ]
          refine wpAnyH_take (i := 4) (v := .pointer (some ⟨g, o + k * 13, none⟩)) (at_list rfl) (by kernel_rfl) (by kernel_rfl) (by kernel_rfl) (fun _ _ _ h => h) (Or.inl ⟨by rfl, ?_⟩) hHeld ?_
          · intro v hSv
            clear hHeld
            go_simp
          try simp only [Act.put, List.setIfInBounds_toArray, List.set_cons_zero, List.set_cons_succ]
          refine wpAnyH_take (i := 5) (v := .agg (ptA y.p)) (at_list rfl) (by kernel_rfl) (by kernel_rfl) (by kernel_rfl) (fun _ _ _ h => h) (yieldsIf_load_mid (by rfl) 35 _ rfl g (o + k * 13) rfl (ptA y.p).toList _ (fun v hv => hal_port (hv.2.1).H HXE.out) Tryd.underlying35 rfl (by kernel_rfl)) hHeld ?_
          try simp only [Act.put, List.setIfInBounds_toArray, List.set_cons_zero, List.set_cons_succ]
          refine wpAnyH_take (i := 6) (v := .agg (ptA q)) (at_list rfl) (by kernel_rfl) (by kernel_rfl) (by kernel_rfl) (fun _ _ _ h => h) (yields_whole (by rfl) 35 _ rfl gK4 rfl (fun v hv => hv.2.2.2.1) Tryd.underlying35 rfl (by kernel_rfl)) hHeld ?_
          try simp only [Act.put, List.setIfInBounds_toArray, List.set_cons_zero, List.set_cons_succ]
          refine wpAnyH_take (i := 7) (v := .bool true) (at_list rfl) (by kernel_rfl) (by kernel_rfl) (by kernel_rfl) (fun _ _ _ h => h) (yields_cmp (by rfl) .eql 35 _ _ _ rfl (ptA y.p) (ptA q) rfl rfl (by kernel_rfl) true (fun v => (eql_port y.p q v).trans (by rw [HQ.out]))) hHeld ?_
          try simp only [Act.put, List.setIfInBounds_toArray, List.set_cons_zero, List.set_cons_succ]
          refine wpAnyH_take (i := 8) (v := .bool true) (at_list rfl) (by kernel_rfl) (by kernel_rfl) (by kernel_rfl) (fun _ _ _ h => h) (Or.inl ⟨by rfl, ?_⟩) hHeld ?_
          · intro v hSv
            clear hHeld
            go_simp
          try simp only [Act.put, List.setIfInBounds_toArray, List.set_cons_zero, List.set_cons_succ]
          refine wpAnyH_take (i := 9) (v := .pointer (some ⟨gK3, 18, none⟩)) (at_list rfl) (by kernel_rfl) (by kernel_rfl) (by kernel_rfl) (fun _ _ _ h => h) (Or.inl ⟨by rfl, ?_⟩) hHeld ?_
          · intro v hSv
            clear hHeld
            go_simp
          try simp only [Act.put, List.setIfInBounds_toArray, List.set_cons_zero, List.set_cons_succ]
          refine wpAnyH_take (i := 10) (v := .slice (some ⟨g, o, none⟩) n c) (at_list rfl) (by kernel_rfl) (by kernel_rfl) (by kernel_rfl) (fun _ _ _ h => h) (Or.inl ⟨by rfl, ?_⟩) hHeld ?_
          · intro v hSv
            clear hHeld
            have q := Holds.reads (hSv.2.2.1) (i := 18) (x := .slice (some ⟨g, o, none⟩) n c) rfl
            clear hSv
            go_simp
          try simp only [Act.put, List.setIfInBounds_toArray, List.set_cons_zero, List.set_cons_succ]
          refine wpAnyH_take (i := 11) (v := .int .i64 k) (at_list rfl) (by kernel_rfl) (by kernel_rfl) (by kernel_rfl) (fun _ _ _ h => h) (Or.inl ⟨by rfl, ?_⟩) hHeld ?_
          · intro v hSv
            clear hHeld
            go_simp
          try simp only [Act.put, List.setIfInBounds_toArray, List.set_cons_zero, List.set_cons_succ]
          refine wpAnyH_take (i := 12) (v := .pointer (some ⟨g, o + k * 13, none⟩)) (at_list rfl) (by kernel_rfl) (by kernel_rfl) (by kernel_rfl) (fun _ _ _ h => h) (yields_index (by rfl) 29 _ _ rfl g o n c k 13 rfl rfl HK.out Tryd.underlying29 (by kernel_rfl)) hHeld ?_
          try simp only [Act.put, List.setIfInBounds_toArray, List.set_cons_zero, List.set_cons_succ]
          refine wpAnyH_take (i := 13) (v := .pointer (some ⟨g, o + k * 13 + 9, none⟩)) (at_list rfl) (by kernel_rfl) (by kernel_rfl) (by kernel_rfl) (fun _ _ _ h => h) (Or.inl ⟨by rfl, ?_⟩) hHeld ?_
          · intro v hSv
            clear hHeld
            go_simp
          try simp only [Act.put, List.setIfInBounds_toArray, List.set_cons_zero, List.set_cons_succ]
          refine wpAnyH_take (i := 14) (v := .int .i64 y.s) (at_list rfl) (by kernel_rfl) (by kernel_rfl) (by kernel_rfl) (fun _ _ _ h => h) (Or.inl ⟨by rfl, ?_⟩) hHeld ?_
          · intro v hSv
            clear hHeld
            have q_ := hal_s (hSv.2.1).H HXE.out
            clear hSv
            go_simp
          try simp only [Act.put, List.setIfInBounds_toArray, List.set_cons_zero, List.set_cons_succ]
          refine wpAnyH_take (i := 15) (v := .int .i64 s) (at_list rfl) (by kernel_rfl) (by kernel_rfl) (by kernel_rfl) (fun _ _ _ h => h) (Or.inl ⟨by rfl, ?_⟩) hHeld ?_
          · intro v hSv
            clear hHeld
            go_simp
          try simp only [Act.put, List.setIfInBounds_toArray, List.set_cons_zero, List.set_cons_succ]
          refine wpAnyH_take (i := 16) (v := .bool false) (at_list rfl) (by kernel_rfl) (by kernel_rfl) (by kernel_rfl) (fun _ _ _ h => h) (Or.inl ⟨by rfl, ?_⟩) hHeld ?_
          · intro v hSv
            clear hHeld
            go_simp
          try simp only [Act.put, List.setIfInBounds_toArray, List.set_cons_zero, List.set_cons_succ]
          refine wpAnyH_take (i := 17) (v := .bool false) (at_list rfl) (by kernel_rfl) (by kernel_rfl) (by kernel_rfl) (fun _ _ _ h => h) (Or.inl ⟨by rfl, ?_⟩) hHeld ?_
          · intro v hSv
            clear hHeld
            go_simp
          try simp only [Act.put, List.setIfInBounds_toArray, List.set_cons_zero, List.set_cons_succ]
          refine wpAnyH_done (by kernel_rfl) ?_ _
          refine NoPanic.normal ?_
          have HB := Lib.hid hHeld.1
          have RI := Lib.hid hHeld.2.1
          have K3 := Lib.hid hHeld.2.2.1
          have K4 := Lib.hid hHeld.2.2.2.1
          have K6 := Lib.hid hHeld.2.2.2.2.1
          have K7 := Lib.hid hHeld.2.2.2.2.2.1
          clear hHeld
          clear hss
          go_wp2
          go_roundw
          case rel => exact ⟨k + 1, by omega, by go_num, HW2, RI, K3, K4, K6, K7, HB⟩
          case measure => simp [intOf]; omega
        · have HT : Hid (takenH r q s = some y) := find_at HW.out HXE.out (by unfold hitH; rw [hq, hss]; rfl)
          have HX : Hid (rtakeX r q s = y) := by unfold rtakeX; rw [Hid, HT.out]
          have HY : Hid (rtakeR r q s = ⟨r.sent, r.S, r.L, noH r.H q⟩) := by unfold rtakeR; rw [Hid, HT.out]
          have HQ := Lib.hid hq
          clear hq
          refine wp_region_noPanic ?_
          refine wp_region_held_drew (S := fun v => Below w.heap.size w v ∧ RbIn v r s1 s2 ⟨some ⟨g, o, none⟩, n, c⟩ ∧ Holds v gK3 31 (rbA r.sent s1 s2 ⟨some ⟨g, o, none⟩, n, c⟩) ∧ Holds v gK4 35 (ptA q) ∧ Holds v gK6 31 (rbA (fun _ => 0) nilS nilS nilS) ∧ Holds v gK7 36 (#[.int .i64 0, .int .i64 0, .int .i64 0]) ∧ True) (by kernel_rfl) ?_ (fun hHeld => ?_)
          · exact ⟨bdrew HB.out, (RI.out).drew, (K3.out).drew, (K4.out).drew, (K6.out).drew, (K7.out).drew, trivial⟩
          clear HB RI K3 K4 K6 K7
          refine wpAnyH_take (i := 0) (v := .pointer (some ⟨gK3, 18, none⟩)) (at_list rfl) (by kernel_rfl) (by kernel_rfl) (by kernel_rfl) (fun _ _ _ h => h) (Or.inl ⟨by rfl, ?_⟩) hHeld ?_
          · intro v hSv
            clear hHeld
            go_simp
          try simp only [Act.put, List.setIfInBounds_toArray, List.set_cons_zero, List.set_cons_succ]
          refine wpAnyH_take (i := 1) (v := .slice (some ⟨g, o, none⟩) n c) (at_list rfl) (by kernel_rfl) (by kernel_rfl) (by kernel_rfl) (fun _ _ _ h => h) (Or.inl ⟨by rfl, ?_⟩) hHeld ?_
          · intro v hSv
            clear hHeld
            have q := Holds.reads (hSv.2.2.1) (i := 18) (x := .slice (some ⟨g, o, none⟩) n c) rfl
            clear hSv
            go_simp
          try simp only [Act.put, List.setIfInBounds_toArray, List.set_cons_zero, List.set_cons_succ]
          refine wpAnyH_take (i := 2) (v := .int .i64 k) (at_list rfl) (by kernel_rfl) (by kernel_rfl) (by kernel_rfl) (fun _ _ _ h => h) (Or.inl ⟨by rfl, ?_⟩) hHeld ?_
          · intro v hSv
            clear hHeld
            go_simp
          try simp only [Act.put, List.setIfInBounds_toArray, List.set_cons_zero, List.set_cons_succ]
          refine wpAnyH_take (i := 3) (v := .pointer (some ⟨g, o + k * 13, none⟩)) (at_list rfl) (by kernel_rfl) (by kernel_rfl) (by kernel_rfl) (fun _ _ _ h => h) (yields_index (by rfl) 29 _ _ rfl g o n c k 13 rfl rfl HK.out Tryd.underlying29 (by kernel_rfl)) hHeld ?_
          try simp only [Act.put, List.setIfInBounds_toArray, List.set_cons_zero, List.set_cons_succ]
          refine wpAnyH_take (i := 4) (v := .pointer (some ⟨g, o + k * 13, none⟩)) (at_list rfl) (by kernel_rfl) (by kernel_rfl) (by kernel_rfl) (fun _ _ _ h => h) (Or.inl ⟨by rfl, ?_⟩) hHeld ?_
          · intro v hSv
            clear hHeld
            go_simp
          try simp only [Act.put, List.setIfInBounds_toArray, List.set_cons_zero, List.set_cons_succ]
          refine wpAnyH_take (i := 5) (v := .agg (ptA y.p)) (at_list rfl) (by kernel_rfl) (by kernel_rfl) (by kernel_rfl) (fun _ _ _ h => h) (yieldsIf_load_mid (by rfl) 35 _ rfl g (o + k * 13) rfl (ptA y.p).toList _ (fun v hv => hal_port (hv.2.1).H HXE.out) Tryd.underlying35 rfl (by kernel_rfl)) hHeld ?_
          try simp only [Act.put, List.setIfInBounds_toArray, List.set_cons_zero, List.set_cons_succ]
          refine wpAnyH_take (i := 6) (v := .agg (ptA q)) (at_list rfl) (by kernel_rfl) (by kernel_rfl) (by kernel_rfl) (fun _ _ _ h => h) (yields_whole (by rfl) 35 _ rfl gK4 rfl (fun v hv => hv.2.2.2.1) Tryd.underlying35 rfl (by kernel_rfl)) hHeld ?_
          try simp only [Act.put, List.setIfInBounds_toArray, List.set_cons_zero, List.set_cons_succ]
          refine wpAnyH_take (i := 7) (v := .bool true) (at_list rfl) (by kernel_rfl) (by kernel_rfl) (by kernel_rfl) (fun _ _ _ h => h) (yields_cmp (by rfl) .eql 35 _ _ _ rfl (ptA y.p) (ptA q) rfl rfl (by kernel_rfl) true (fun v => (eql_port y.p q v).trans (by rw [HQ.out]))) hHeld ?_
          try simp only [Act.put, List.setIfInBounds_toArray, List.set_cons_zero, List.set_cons_succ]
          refine wpAnyH_take (i := 8) (v := .bool true) (at_list rfl) (by kernel_rfl) (by kernel_rfl) (by kernel_rfl) (fun _ _ _ h => h) (Or.inl ⟨by rfl, ?_⟩) hHeld ?_
          · intro v hSv
            clear hHeld
            go_simp
          try simp only [Act.put, List.setIfInBounds_toArray, List.set_cons_zero, List.set_cons_succ]
          refine wpAnyH_take (i := 9) (v := .pointer (some ⟨gK3, 18, none⟩)) (at_list rfl) (by kernel_rfl) (by kernel_rfl) (by kernel_rfl) (fun _ _ _ h => h) (Or.inl ⟨by rfl, ?_⟩) hHeld ?_
          · intro v hSv
            clear hHeld
            go_simp
          try simp only [Act.put, List.setIfInBounds_toArray, List.set_cons_zero, List.set_cons_succ]
          refine wpAnyH_take (i := 10) (v := .slice (some ⟨g, o, none⟩) n c) (at_list rfl) (by kernel_rfl) (by kernel_rfl) (by kernel_rfl) (fun _ _ _ h => h) (Or.inl ⟨by rfl, ?_⟩) hHeld ?_
          · intro v hSv
            clear hHeld
            have q := Holds.reads (hSv.2.2.1) (i := 18) (x := .slice (some ⟨g, o, none⟩) n c) rfl
            clear hSv
            go_simp
          try simp only [Act.put, List.setIfInBounds_toArray, List.set_cons_zero, List.set_cons_succ]
          refine wpAnyH_take (i := 11) (v := .int .i64 k) (at_list rfl) (by kernel_rfl) (by kernel_rfl) (by kernel_rfl) (fun _ _ _ h => h) (Or.inl ⟨by rfl, ?_⟩) hHeld ?_
          · intro v hSv
            clear hHeld
            go_simp
          try simp only [Act.put, List.setIfInBounds_toArray, List.set_cons_zero, List.set_cons_succ]
          refine wpAnyH_take (i := 12) (v := .pointer (some ⟨g, o + k * 13, none⟩)) (at_list rfl) (by kernel_rfl) (by kernel_rfl) (by kernel_rfl) (fun _ _ _ h => h) (yields_index (by rfl) 29 _ _ rfl g o n c k 13 rfl rfl HK.out Tryd.underlying29 (by kernel_rfl)) hHeld ?_
          try simp only [Act.put, List.setIfInBounds_toArray, List.set_cons_zero, List.set_cons_succ]
          refine wpAnyH_take (i := 13) (v := .pointer (some ⟨g, o + k * 13 + 9, none⟩)) (at_list rfl) (by kernel_rfl) (by kernel_rfl) (by kernel_rfl) (fun _ _ _ h => h) (Or.inl ⟨by rfl, ?_⟩) hHeld ?_
          · intro v hSv
            clear hHeld
            go_simp
          try simp only [Act.put, List.setIfInBounds_toArray, List.set_cons_zero, List.set_cons_succ]
          refine wpAnyH_take (i := 14) (v := .int .i64 y.s) (at_list rfl) (by kernel_rfl) (by kernel_rfl) (by kernel_rfl) (fun _ _ _ h => h) (Or.inl ⟨by rfl, ?_⟩) hHeld ?_
          · intro v hSv
            clear hHeld
            have q_ := hal_s (hSv.2.1).H HXE.out
            clear hSv
            go_simp
          try simp only [Act.put, List.setIfInBounds_toArray, List.set_cons_zero, List.set_cons_succ]
          refine wpAnyH_take (i := 15) (v := .int .i64 s) (at_list rfl) (by kernel_rfl) (by kernel_rfl) (by kernel_rfl) (fun _ _ _ h => h) (Or.inl ⟨by rfl, ?_⟩) hHeld ?_
          · intro v hSv
            clear hHeld
            go_simp
          try simp only [Act.put, List.setIfInBounds_toArray, List.set_cons_zero, List.set_cons_succ]
          refine wpAnyH_take (i := 16) (v := .bool true) (at_list rfl) (by kernel_rfl) (by kernel_rfl) (by kernel_rfl) (fun _ _ _ h => h) (Or.inl ⟨by rfl, ?_⟩) hHeld ?_
          · intro v hSv
            clear hHeld
            go_simp
          try simp only [Act.put, List.setIfInBounds_toArray, List.set_cons_zero, List.set_cons_succ]
          refine wpAnyH_take (i := 17) (v := .bool true) (at_list rfl) (by kernel_rfl) (by kernel_rfl) (by kernel_rfl) (fun _ _ _ h => h) (Or.inl ⟨by rfl, ?_⟩) hHeld ?_
          · intro v hSv
            clear hHeld
            go_simp
          try simp only [Act.put, List.setIfInBounds_toArray, List.set_cons_zero, List.set_cons_succ]
          refine wpAnyH_done (by kernel_rfl) ?_ _
          refine NoPanic.normal ?_
          have HB := Lib.hid hHeld.1
          have RI := Lib.hid hHeld.2.1
          have K3 := Lib.hid hHeld.2.2.1
          have K4 := Lib.hid hHeld.2.2.2.1
          have K6 := Lib.hid hHeld.2.2.2.2.1
          have K7 := Lib.hid hHeld.2.2.2.2.2.1
          clear hHeld
          clear hss
          go_upto_region 5 with fail
          obtain ⟨B, hB⟩ := size_isH K3
          have LBK3 := Lib.hid (show gK3 < B by rw [← hB]; exact (K3.out).inside)
          have LBK4 := Lib.hid (show gK4 < B by rw [← hB]; exact (K4.out).inside)
          have LBK6 := Lib.hid (show gK6 < B by rw [← hB]; exact (K6.out).inside)
          have LBK7 := Lib.hid (show gK7 < B by rw [← hB]; exact (K7.out).inside)
          have LBRI := Lib.hid ((RI.out).low (Nat.le_of_eq hB))
          have HWB := Lib.hid (show w.heap.size ≤ B by rw [← hB]; exact (HB.out).size)
          clear hB
          replace K6 := Lib.hid ((K6.out).drew)
          replace K7 := Lib.hid ((K7.out).drew)
          refine wp_region_noPanic ?_
          refine wp_region_held_drew (S := fun v => Below w.heap.size w v ∧ RbIn v r s1 s2 ⟨some ⟨g, o, none⟩, n, c⟩ ∧ Holds v gK3 31 (rbA r.sent s1 s2 ⟨some ⟨g, o, none⟩, n, c⟩) ∧ Holds v gK4 35 (ptA q) ∧ True) (by kernel_rfl) ?_ (fun hHeld => ?_)
          · exact ⟨bdrew HB.out, (RI.out).drew, (K3.out).drew, (K4.out).drew, trivial⟩
          clear HB RI K3 K4
          refine wpAnyH_take (i := 0) (v := .agg (rbA r.sent s1 s2 ⟨some ⟨g, o, none⟩, n, c⟩)) (at_list rfl) (by kernel_rfl) (by kernel_rfl) (by kernel_rfl) (fun _ _ _ h => h) (yields_whole (by rfl) 31 _ rfl gK3 rfl (fun v hv => hv.2.2.1) Tryd.underlying31 rfl (by kernel_rfl)) hHeld ?_
          try simp only [Act.put, List.setIfInBounds_toArray, List.set_cons_zero, List.set_cons_succ]
          refine wpAnyH_take (i := 1) (v := .agg (ptA q)) (at_list rfl) (by kernel_rfl) (by kernel_rfl) (by kernel_rfl) (fun _ _ _ h => h) (yields_whole (by rfl) 35 _ rfl gK4 rfl (fun v hv => hv.2.2.2.1) Tryd.underlying35 rfl (by kernel_rfl)) hHeld ?_
          try simp only [Act.put, List.setIfInBounds_toArray, List.set_cons_zero, List.set_cons_succ]
          refine wpAnyH_take (i := 3) (v := .pointer (some ⟨gK3, 18, none⟩)) (at_list rfl) (by kernel_rfl) (by kernel_rfl) (by kernel_rfl) (fun _ _ _ h => h) (Or.inl ⟨by rfl, ?_⟩) hHeld ?_
          · intro v hSv
            clear hHeld
            go_simp
          try simp only [Act.put, List.setIfInBounds_toArray, List.set_cons_zero, List.set_cons_succ]
          refine wpAnyH_take (i := 4) (v := .slice (some ⟨g, o, none⟩) n c) (at_list rfl) (by kernel_rfl) (by kernel_rfl) (by kernel_rfl) (fun _ _ _ h => h) (Or.inl ⟨by rfl, ?_⟩) hHeld ?_
          · intro v hSv
            clear hHeld
            have q := Holds.reads (hSv.2.2.1) (i := 18) (x := .slice (some ⟨g, o, none⟩) n c) rfl
            clear hSv
            go_simp
          try simp only [Act.put, List.setIfInBounds_toArray, List.set_cons_zero, List.set_cons_succ]
          refine wpAnyH_take (i := 5) (v := .int .i64 k) (at_list rfl) (by kernel_rfl) (by kernel_rfl) (by kernel_rfl) (fun _ _ _ h => h) (Or.inl ⟨by rfl, ?_⟩) hHeld ?_
          · intro v hSv
            clear hHeld
            go_simp
          try simp only [Act.put, List.setIfInBounds_toArray, List.set_cons_zero, List.set_cons_succ]
          refine wpAnyH_take (i := 6) (v := .pointer (some ⟨g, o + k * 13, none⟩)) (at_list rfl) (by kernel_rfl) (by kernel_rfl) (by kernel_rfl) (fun _ _ _ h => h) (yields_index (by rfl) 29 _ _ rfl g o n c k 13 rfl rfl HK.out Tryd.underlying29 (by kernel_rfl)) hHeld ?_
          try simp only [Act.put, List.setIfInBounds_toArray, List.set_cons_zero, List.set_cons_succ]
          refine wpAnyH_take (i := 7) (v := .pointer (some ⟨g, o + k * 13 + 10, none⟩)) (at_list rfl) (by kernel_rfl) (by kernel_rfl) (by kernel_rfl) (fun _ _ _ h => h) (Or.inl ⟨by rfl, ?_⟩) hHeld ?_
          · intro v hSv
            clear hHeld
            go_simp
          try simp only [Act.put, List.setIfInBounds_toArray, List.set_cons_zero, List.set_cons_succ]
          refine wpAnyH_take (i := 8) (v := .agg (#[.int .i64 y.x0, .int .i64 y.x1, .int .i64 y.x2])) (at_list rfl) (by kernel_rfl) (by kernel_rfl) (by kernel_rfl) (fun _ _ _ h => h) (yieldsIf_load_mid (by rfl) 36 _ rfl g (o + k * 13 + 10) rfl (#[.int .i64 y.x0, .int .i64 y.x1, .int .i64 y.x2]).toList _ (fun v hv => hal_x (hv.2.1).H HXE.out) Tryd.underlying36 rfl (by kernel_rfl)) hHeld ?_
          try simp only [Act.put, List.setIfInBounds_toArray, List.set_cons_zero, List.set_cons_succ]
          refine wpAnyH_ready (rs := [2]) (by kernel_rfl) (by simp) ?_
          refine AllReadyH.cons (at_list rfl) (fun K hK => ?_) AllReadyH.nil
          go_simp
          refine (rwithout11_any r.sent s1 s2 (some ⟨g, o, none⟩) n c r.H q _ (hHeld.2.1).H (by have := HH.out; have := HLN.out; omega)).mono ?_
          rintro e v2 ⟨x, rfl, how, hv2⟩
          have E6 := Lib.hid (how.ne (K6.out).inside)
          have E7 := Lib.hid (how.ne (K7.out).inside)
          have HRB : Hid (RowB v2 _ _ _ _ _ _) := Lib.hid how
          clear how
          replace K6 := Lib.hid ((K6.out).keptB hv2)
          replace K7 := Lib.hid ((K7.out).keptB hv2)
          go_wp2_with fail
          refine hK.out _ _ ?_ (fun hHeld2 => ?_)
          · exact ⟨bstep hHeld.1 hv2, (hHeld.2.1).keptB hv2, (hHeld.2.2.1).keptB hv2, (hHeld.2.2.2.1).keptB hv2, trivial⟩
          clear hK K hHeld hv2
          have hHeld := hHeld2
          clear hHeld2
          try simp only [Act.put, List.setIfInBounds_toArray, List.set_cons_zero, List.set_cons_succ]
          refine wpAnyH_ready (rs := [9]) (by kernel_rfl) (by simp) ?_
          refine AllReadyH.cons (at_list rfl) (fun K hK => ?_) AllReadyH.nil
          refine step_fill (by rfl) 31 _ _ rfl gK6 (rbA r.sent s1 s2 x) rfl rfl K6.out (by kernel_rfl) (by kernel_rfl) (by kernel_rfl) ?_
          intro vK61 nK6 htK6
          replace K6 := Lib.hid nK6
          replace K7 := Lib.hid ((K7.out).touch htK6 (Ne.symm OK6K7.out))
          replace HRB := Lib.hid ((HRB.out).touch htK6 E6.out)
          refine hK.out _ _ ?_ (fun hHeld2 => ?_)
          · exact ⟨btouch hHeld.1 htK6 LK6.out, (hHeld.2.1).touch htK6 ORIK6.out, (hHeld.2.2.1).touch htK6 OK3K6.out, (hHeld.2.2.2.1).touch htK6 OK4K6.out, trivial⟩
          clear hK K hHeld
          have hHeld := hHeld2
          clear hHeld2
          try simp only [Act.put]
          clear nK6 htK6
          try simp only [List.setIfInBounds_toArray, List.set_cons_zero, List.set_cons_succ]
          refine wpAnyH_ready (rs := [10]) (by kernel_rfl) (by simp) ?_
          refine AllReadyH.cons (at_list rfl) (fun K hK => ?_) AllReadyH.nil
          refine step_fill (by rfl) 36 _ _ rfl gK7 (#[.int .i64 y.x0, .int .i64 y.x1, .int .i64 y.x2]) rfl rfl K7.out (by kernel_rfl) (by kernel_rfl) (by kernel_rfl) ?_
          intro vK72 nK7 htK7
          replace K7 := Lib.hid nK7
          replace K6 := Lib.hid ((K6.out).touch htK7 OK6K7.out)
          replace HRB := Lib.hid ((HRB.out).touch htK7 E7.out)
          refine hK.out _ _ ?_ (fun hHeld2 => ?_)
          · exact ⟨btouch hHeld.1 htK7 LK7.out, (hHeld.2.1).touch htK7 ORIK7.out, (hHeld.2.2.1).touch htK7 OK3K7.out, (hHeld.2.2.2.1).touch htK7 OK4K7.out, trivial⟩
          clear hK K hHeld
          have hHeld := hHeld2
          clear hHeld2
          try simp only [Act.put]
          clear nK7 htK7
          try simp only [List.setIfInBounds_toArray, List.set_cons_zero, List.set_cons_succ]
          refine wpAnyH_take (i := 11) (v := .bool true) (at_list rfl) (by kernel_rfl) (by kernel_rfl) (by kernel_rfl) (fun _ _ _ h => h) (Or.inl ⟨by rfl, ?_⟩) hHeld ?_
          · intro v hSv
            clear hHeld
            go_simp
          try simp only [Act.put, List.setIfInBounds_toArray, List.set_cons_zero, List.set_cons_succ]
          refine wpAnyH_done (by kernel_rfl) ?_ _
          refine NoPanic.normal ?_
          have HB := Lib.hid hHeld.1
          have RI := Lib.hid hHeld.2.1
          have K3 := Lib.hid hHeld.2.2.1
          have K4 := Lib.hid hHeld.2.2.2.1
          clear hHeld
          go_wp2
          try rw [Exit.noGoto_ret]
          refine bodyPost_ret (v := .tuple #[.agg (rbA r.sent s1 s2 x), .agg (#[.int .i64 y.x0, .int .i64 y.x1, .int .i64 y.x2]), .bool true]) (results_row_row_tmp rfl _ _ gK6 _ _ gK7 _ _ _ _ _ rfl rfl rfl K6.out K7.out Tryd.underlying31 rfl (by kernel_rfl) Tryd.underlying36 rfl (by kernel_rfl)) rfl ?_
          rw [HX.out, HY.out, HT.out]
          exact ⟨x, rfl, ⟨(RI.out).S, (RI.out).L, (HRB.out).rows⟩, HB.out⟩
    · have hd : decide ((k : Int) < (n : Int)) = false := by simpa using hlt
      obtain rfl : k = n := by omega
      have x18 := (K3.out).reads (i := 18) (x := .slice A k c) rfl
      have HT : Hid (takenH r q s = none) := List.find?_eq_none.2 (fun y hy => by rw [(HW.out) y (by rw [List.take_of_length_le (by rw [HLN.out]; omega)]; exact hy)]; decide)
      have HX : Hid (rtakeX r q s = ⟨q, 0, 0, 0, 0⟩) := by unfold rtakeX; rw [Hid, HT.out]
      have HY : Hid (rtakeR r q s = r) := by unfold rtakeR; rw [Hid, HT.out]
      go_upto_region 6 with fail
      clear x18
      go_wp2_with (first | (refine big_fill rfl 36 _ _ rfl gK7 (#[.int .i64 0, .int .i64 0, .int .i64 0]) rfl rfl K7.out (by kernel_rfl) (by kernel_rfl) (by kernel_rfl) ?_; intro vK72 nK7 htK7; replace K7 := Lib.hid nK7; replace RI := Lib.hid ((RI.out).touch htK7 ORIK7.out); replace K3 := Lib.hid ((K3.out).touch htK7 OK3K7.out); replace K4 := Lib.hid ((K4.out).touch htK7 OK4K7.out); replace K6 := Lib.hid ((K6.out).touch htK7 OK6K7.out); replace HB := Lib.hid (btouch HB.out htK7 LK7.out); clear nK7 htK7; try simp only [Act.put, List.setIfInBounds_toArray, List.set_cons_zero, List.set_cons_succ]) | (refine big_fill rfl 31 _ _ rfl gK6 (rbA r.sent s1 s2 ⟨A, k, c⟩) rfl rfl K6.out (by kernel_rfl) (by kernel_rfl) (by kernel_rfl) ?_; intro vK61 nK6 htK6; replace K6 := Lib.hid nK6; replace RI := Lib.hid ((RI.out).touch htK6 ORIK6.out); replace K3 := Lib.hid ((K3.out).touch htK6 OK3K6.out); replace K4 := Lib.hid ((K4.out).touch htK6 OK4K6.out); replace K7 := Lib.hid ((K7.out).touch htK6 (Ne.symm OK6K7.out)); replace HB := Lib.hid (btouch HB.out htK6 LK6.out); clear nK6 htK6; try simp only [Act.put, List.setIfInBounds_toArray, List.set_cons_zero, List.set_cons_succ]) | (refine big_whole rfl 31 _ rfl gK3 rfl K3.out Tryd.underlying31 rfl (by kernel_rfl) ?_; try simp only [Act.put, List.setIfInBounds_toArray, List.set_cons_zero, List.set_cons_succ]) | (refine big_build rfl 36 _ rfl (#[.int .i64 0, .int .i64 0, .int .i64 0]) (by kernel_rfl) ?_; try simp only [Act.put, List.setIfInBounds_toArray, List.set_cons_zero, List.set_cons_succ]))
      try rw [Exit.noGoto_ret]
      refine bodyPost_ret (v := .tuple #[.agg (rbA r.sent s1 s2 ⟨A, k, c⟩), .agg (#[.int .i64 0, .int .i64 0, .int .i64 0]), .bool false]) (results_row_row_tmp rfl _ _ gK6 _ _ gK7 _ _ _ _ _ rfl rfl rfl K6.out K7.out Tryd.underlying31 rfl (by kernel_rfl) Tryd.underlying36 rfl (by kernel_rfl)) rfl ?_
      rw [HX.out, HY.out, HT.out]
      exact ⟨⟨A, k, c⟩, rfl, RI.out, HB.out⟩

end Go.Proofs.YtpbfnmokhmioaaaDoor
