/- The walk over DecideGrand. -/
import Derived.Test.YtpdnfeooijmgoaaDecideAlive
import Derived.Test.YtpdnfeooijmgoaaDecideGrandB
import Derived.Deep.DeepCutAuto
import Derived.Deep.LoopGhost
import Derived.WalkMore
namespace Go.Proofs.Ytpdnfeooijmgoaa
set_option maxRecDepth 100000
open Go.RowKit
set_option linter.unusedVariables false
set_option linter.unusedSimpArgs false

theorem ch_in_is5 {w : World} {g o n c k : Nat} {l : List Ch} {a : Ch} (h : ChsIn w (.slice (some ⟨g, o, none⟩) n c) l) (hk : l[k]? = some a) : w.cell? ⟨g, o + k * 33 + 32, none⟩ = some (.bool a.is) := ch_in h hk 32 (.bool a.is) rfl
theorem big_q1 {ops : Array Oper} {rest : List Oper} {op : Oper} {a : Act} {w : World} {Q : Exit → Act → World → Prop} (hw : Region.wanted op (yielded ops a.tmps) = true) (x y : Operand) (ho : op.op = .store 3 x y) (g : Nat) (q : Int) (hx : a.eval x = .pointer (some ⟨g, 2, none⟩)) (hy : a.eval y = .int .i64 q) (me : Rs) (hh : Holds w g 29 (rsA me))
    (h : ∀ w1, Holds w1 g 29 (rsA (withQ me q)) → Touch g w w1 → wpList Try.prog ops Q rest (a.put op.dst undef) w1) : wpList Try.prog ops Q (op :: rest) a w :=
  big_set hw 3 x y ho g 2 (.int .i64 q) hx hy hh (by kernel_rfl) rfl rfl (of_decide_eq_true (by kernel_rfl)) (rsA (withQ me q)) (by kernel_rfl) h
set_option maxHeartbeats 4000000 in
theorem decgrand10 (me : Rs) (A : Option Addr) (n c : Nat) (l : List Ch) (A2 : Option Addr) (n2 k2 : Nat) (zs : List Int) (w : World) (hm : me.ok) (hl : ChsOk w A n c l) (hs : sliceOk .i64 w A2 n2 k2 zs) :
    Calls Try.prog 7 #[.agg (rsA me), .slice A n c, .slice A2 n2 k2] w fun e w' => e = .returned (.bool true) ∧ Below w.heap.size w w' := by
  have OM := Lib.hid hm
  have SL := Lib.hid hl
  have NI := Lib.hid (slice_nums hs)
  clear hm hl hs
  have HO := Lib.hid (SL.out).ok
  have HLN := Lib.hid (SL.out).len
  have HB := Lib.hid (Below.refl w.heap.size w)
  have CI : Hid (ChsIn w (.slice A n c) l) := ⟨A, n, c, rfl, (SL.out).len, (SL.out).at_⟩
  obtain ⟨ss, HSS⟩ : ∃ ss, Hid (zs.take n2 = ss) := ⟨_, Lib.hid rfl⟩
  rw [HSS.out] at NI
  have HLS : Hid (ss.length = n2) := by
    obtain ⟨_, _, _, h1, h2, _⟩ := NI.out
    cases h1
    exact h2
  go_enter Try.func7, Try.ntmps7
  go_upto_region 1 with ((refine big_box rfl 29 _ rfl (rsA me) rfl (by kernel_rfl) ?_; intro gK3 wK3 hlK3 nK3 hbK3; have K3 := Lib.hid nK3; have LK3 := Lib.hid (Nat.le_trans (HB.out).size hlK3); have OCIK3 := Lib.hid ((CI.out).off hlK3); have ONIK3 := Lib.hid ((NI.out).off hlK3); replace CI := Lib.hid ((CI.out).keptB hbK3); replace NI := Lib.hid ((NI.out).keptB hbK3); replace HB := Lib.hid (bstep HB.out hbK3); clear hlK3 nK3 hbK3; try simp only [Act.put, List.setIfInBounds_toArray, List.set_cons_zero, List.set_cons_succ]))
  by_cases h1 : 60 < n
  · have d1 : decide ((60 : Int) < (n : Int)) = true := decide_eq_true (by omega)
    clear h1
    go_wp2_with fail
    refine (alive10_any _).mono ?_
    rintro e c1 ⟨rfl, hc1⟩
    replace K3 := Lib.hid ((K3.out).keptB hc1)
    replace HB := Lib.hid (bstep HB.out hc1)
    clear hc1
    go_wp2
    try rw [Exit.noGoto_ret]
    go_ret
    exact ⟨rfl, HB.out⟩
  · have d1 : decide ((60 : Int) < (n : Int)) = false := decide_eq_false (by omega)
    by_cases h2 : 100 < n2
    · have d2 : decide ((100 : Int) < (n2 : Int)) = true := decide_eq_true (by omega)
      clear h2
      go_wp2_with fail
      refine (alive10_any _).mono ?_
      rintro e c1 ⟨rfl, hc1⟩
      replace K3 := Lib.hid ((K3.out).keptB hc1)
      replace HB := Lib.hid (bstep HB.out hc1)
      clear hc1
      go_wp2
      try rw [Exit.noGoto_ret]
      go_ret
      exact ⟨rfl, HB.out⟩
    · have d2 : decide ((100 : Int) < (n2 : Int)) = false := decide_eq_false (by omega)
      have HN : Hid (n ≤ 60) := by rw [Hid]; omega
      have HN2 : Hid (n2 ≤ 100) := by rw [Hid]; omega
      clear h1 h2
      go_upto_region 3 with fail
      clear d1 d2
      have x2 := (K3.out).reads (i := 2) (x := .int .i64 me.q1) rfl
      go_upto_region 4 with ((refine big_q1 rfl _ _ rfl gK3 _ rfl rfl me K3.out ?_; intro vK30 nK3 htK3; replace K3 := Lib.hid nK3; replace CI := Lib.hid ((CI.out).touch htK3 OCIK3.out); replace NI := Lib.hid ((NI.out).touch htK3 ONIK3.out); replace HB := Lib.hid (btouch HB.out htK3 LK3.out); clear nK3 htK3; try simp only [Act.put, List.setIfInBounds_toArray, List.set_cons_zero, List.set_cons_succ]))
      clear x2
      obtain ⟨q, hq⟩ : ∃ q, wrap64 (1 + (bits .and .i64 me.q1 127).tmod 127) = q := ⟨_, rfl⟩
      rw [hq] at K3 ⊢
      have HQB : Hid (0 < q ∧ q < 128) := by rw [Hid, ← hq]; exact class_bd me.q1
      clear hq
      have OM2 := Lib.hid (withQ_ok OM.out q)
      obtain ⟨me2, hme⟩ : ∃ x, withQ me q = x := ⟨_, rfl⟩
      have HQ2 : Hid (0 < me2.q1 ∧ me2.q1 < 128) := by rw [← hme]; exact HQB.out
      rw [hme] at K3 OM2
      clear hme
      refine wp_region_held_drew (S := fun v => Below w.heap.size w v ∧ ChsIn v (.slice A n c) l ∧ NumIn v (.slice A2 n2 k2) ss ∧ Holds v gK3 29 (rsA me2) ∧ True) (by kernel_rfl) ?_ (fun hHeld => ?_)
      · exact ⟨bdrew HB.out, (CI.out).drew, (NI.out).drew, (K3.out).drew, trivial⟩
      clear HB CI NI K3
      refine wpAnyH_take (i := 0) (v := .agg (rsA me2)) (at_list rfl) (by kernel_rfl) (by kernel_rfl) (by kernel_rfl) (fun _ _ _ h => h) (yields_whole (by rfl) 29 _ rfl gK3 rfl (fun v hv => hv.2.2.2.1) Try.underlying29 rfl (by kernel_rfl)) hHeld ?_
      try simp only [Act.put, List.setIfInBounds_toArray, List.set_cons_zero, List.set_cons_succ]
      refine wpAnyH_take (i := 1) (v := .slice A n c) (at_list rfl) (by kernel_rfl) (by kernel_rfl) (by kernel_rfl) (fun _ _ _ h => h) (Or.inl ⟨by rfl, ?_⟩) hHeld ?_
      · intro v hSv
        clear hHeld
        go_simp
      try simp only [Act.put, List.setIfInBounds_toArray, List.set_cons_zero, List.set_cons_succ]
      refine wpAnyH_take (i := 3) (v := .slice A2 n2 k2) (at_list rfl) (by kernel_rfl) (by kernel_rfl) (by kernel_rfl) (fun _ _ _ h => h) (Or.inl ⟨by rfl, ?_⟩) hHeld ?_
      · intro v hSv
        clear hHeld
        go_simp
      try simp only [Act.put, List.setIfInBounds_toArray, List.set_cons_zero, List.set_cons_succ]
      refine wpAnyH_take (i := 6) (v := .int .i64 0) (at_list rfl) (by kernel_rfl) (by kernel_rfl) (by kernel_rfl) (fun _ _ _ h => h) (Or.inl ⟨by rfl, ?_⟩) hHeld ?_
      · intro v hSv
        clear hHeld
        go_simp
      try simp only [Act.put, List.setIfInBounds_toArray, List.set_cons_zero, List.set_cons_succ]
      refine wpAnyH_ready (rs := [2]) (by kernel_rfl) (by simp) ?_
      refine AllReadyH.cons (at_list rfl) (fun K hK => ?_) AllReadyH.nil
      go_simp
      refine (own10_in A n c l _ (by have := HN.out; omega) (hHeld.2.1)).mono ?_
      rintro e v1 ⟨x, rfl, hx, hv1⟩
      go_wp2_with fail
      refine hK.out _ _ ?_ (fun hHeld2 => ?_)
      · exact ⟨bstep hHeld.1 hv1, (hHeld.2.1).keptB hv1, (hHeld.2.2.1).keptB hv1, (hHeld.2.2.2.1).keptB hv1, trivial⟩
      clear hK K hHeld
      have hHeld := hHeld2
      clear hHeld2 hv1
      try simp only [Act.put, List.setIfInBounds_toArray, List.set_cons_zero, List.set_cons_succ]
      have XI := Lib.hid hx
      clear hx
      refine wpAnyH_ready (rs := [4]) (by kernel_rfl) (by simp) ?_
      refine AllReadyH.cons (at_list rfl) (fun K hK => ?_) AllReadyH.nil
      go_simp
      refine (pdall10_any me2 x l (.slice A2 n2 k2) ss _ OM2.out HO.out (by have := HN.out; have := HLN.out; omega) XI.out (hHeld.2.2.1)).mono ?_
      rintro e v2 ⟨y, rfl, hy, hv2⟩
      replace XI := Lib.hid ((XI.out).keptB hv2)
      go_wp2_with fail
      refine hK.out _ _ ?_ (fun hHeld2 => ?_)
      · exact ⟨bstep hHeld.1 hv2, (hHeld.2.1).keptB hv2, (hHeld.2.2.1).keptB hv2, (hHeld.2.2.2.1).keptB hv2, trivial⟩
      clear hK K hHeld
      have hHeld := hHeld2
      clear hHeld2 hv2
      try simp only [Act.put, List.setIfInBounds_toArray, List.set_cons_zero, List.set_cons_succ]
      have YI := Lib.hid hy
      clear hy XI
      obtain ⟨A3, n3, c3, hyy, hz3, _⟩ := YI.out
      subst hyy
      have HZ3 : Hid (n3 = n) := by rw [Hid, ← hz3, decAll_len, HLN.out]
      clear hz3
      refine wpAnyH_take (i := 5) (v := .int .i64 n3) (at_list rfl) (by kernel_rfl) (by kernel_rfl) (by kernel_rfl) (fun _ _ _ h => h) (Or.inl ⟨by rfl, ?_⟩) hHeld ?_
      · intro v hSv
        clear hHeld
        go_simp
      try simp only [Act.put, List.setIfInBounds_toArray, List.set_cons_zero, List.set_cons_succ]
      refine wpAnyH_done (by kernel_rfl) ?_ _
      have HB := Lib.hid hHeld.1
      have CI := Lib.hid hHeld.2.1
      have NI := Lib.hid hHeld.2.2.1
      have K3 := Lib.hid hHeld.2.2.2.1
      clear hHeld
      clear K3 NI
      go_wp2
      go_loopg [32] n3 (fun gh i v => ∃ (j : Nat), j + gh = n3 ∧ i = .int .i64 j ∧ Hid (ChsIn v (.slice A n c) l) ∧ Hid (NumIn v (.slice A3 n3 c3) (decAllN me2 l ss)) ∧ Hid (Below w.heap.size w v))
      case atStart => exact ⟨0, by omega, rfl, CI, YI, HB⟩
      case round =>
        clear CI YI HB
        obtain ⟨j, hj, rfl, CI, YI, HB⟩ := hrel
        cases gk with
        | zero =>
          have hd : decide ((j : Int) < (n3 : Int)) = false := decide_eq_false (by omega)
          go_wp2_with fail
          refine (alive10_any _).mono ?_
          rintro e c1 ⟨rfl, hc1⟩
          replace HB := Lib.hid (bstep HB.out hc1)
          clear hc1
          go_wp2
          try rw [Exit.noGoto_ret]
          go_ret
          exact ⟨rfl, HB.out⟩
        | succ g1 =>
          have hlt : j < n3 := by omega
          have hn3 : n3 ≤ 60 := by have := HZ3.out; have := HN.out; omega
          have hjn : j < n := by have := HZ3.out; omega
          have hd : decide ((j : Int) < (n3 : Int)) = true := decide_eq_true (by omega)
          have hz := decAll_at me2 l ss (k := j) (by have := HLN.out; omega)
          obtain ⟨r, hr⟩ : ∃ r, l[j]? = some r := ⟨_, List.getElem?_eq_getElem (by have := HLN.out; omega)⟩
          have hcode := dec_follows (st := ss.getD j 3) hr HQ2.out
          obtain ⟨d, hdd⟩ : ∃ d, decideN me2 l (j : Int) (ss.getD j 3) = d := ⟨_, rfl⟩
          rw [hdd] at hz hcode
          clear hdd
          obtain ⟨g, o, hA⟩ : ∃ g o, A3 = some ⟨g, o, none⟩ := by
            obtain ⟨_, _, _, h1, _, h3⟩ := YI.out
            cases h1
            obtain ⟨g, o, h4, _⟩ := h3 (by omega)
            exact ⟨g, o, h4⟩
          subst hA
          obtain ⟨g4, o4, hA⟩ : ∃ g o, A = some ⟨g, o, none⟩ := by
            obtain ⟨_, _, _, h1, _, h3⟩ := CI.out
            cases h1
            obtain ⟨g, o, h4, _⟩ := h3 (by omega)
            exact ⟨g, o, h4⟩
          subst hA
          have xs := num_in YI.out hz
          have xr := ch_in_is5 CI.out hr
          have HK := Lib.hid hlt
          have HKN := Lib.hid hjn
          clear hz
          rcases hcode with rfl | rfl | ⟨rfl, hi⟩
          · go_wp2_with ((refine big_index rfl 31 _ _ rfl g o n3 c3 j 1 rfl rfl HK.out Try.underlying31 (by kernel_rfl) ?_; try simp only [Act.put, List.setIfInBounds_toArray, List.set_cons_zero, List.set_cons_succ]))
            go_roundg g1
            case measure => omega
            case rel => exact ⟨j + 1, by omega, by go_num, CI, YI, HB⟩
          · go_wp2_with ((refine big_index rfl 31 _ _ rfl g o n3 c3 j 1 rfl rfl HK.out Try.underlying31 (by kernel_rfl) ?_; try simp only [Act.put, List.setIfInBounds_toArray, List.set_cons_zero, List.set_cons_succ]))
            go_roundg g1
            case measure => omega
            case rel => exact ⟨j + 1, by omega, by go_num, CI, YI, HB⟩
          · rw [hi] at xr
            clear hi
            go_wp2_with (first | (refine big_index rfl 31 _ _ rfl g o n3 c3 j 1 rfl rfl HK.out Try.underlying31 (by kernel_rfl) ?_; try simp only [Act.put, List.setIfInBounds_toArray, List.set_cons_zero, List.set_cons_succ]) | (refine big_index rfl 30 _ _ rfl g4 o4 n c j 33 rfl rfl HKN.out Try.underlying30 (by kernel_rfl) ?_; try simp only [Act.put, List.setIfInBounds_toArray, List.set_cons_zero, List.set_cons_succ]))
            go_roundg g1
            case measure => omega
            case rel => exact ⟨j + 1, by omega, by go_num, CI, YI, HB⟩

end Go.Proofs.Ytpdnfeooijmgoaa
