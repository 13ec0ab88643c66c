/- The walk over DecideLeads. -/
import Derived.Test.YtpdnfeooijmgoaaDecideAlive
import Derived.Test.YtpdnfeooijmgoaaDecideLeadB
import Derived.Test.YtpdnfeooijmgoaaBestRefPort
import Derived.Deep.DeepCutAuto
import Derived.Deep.LoopGhost
import Derived.WalkMore
namespace Go.Proofs.Ytpdnfeooijmgoaa
set_option maxRecDepth 100000
open Go.RowKit
set_option linter.unusedVariables false
set_option linter.unusedSimpArgs false

set_option maxHeartbeats 4000000 in
theorem decleads10 (me : Rs) (A : Option Addr) (n c : Nat) (l : List Ch) (A2 : Option Addr) (n2 k2 : Nat) (zs : List Int) (w : World) (hm : me.ok) (hl : ChsOk w A n c l) (hs : sliceOk .i64 w A2 n2 k2 zs) :
    Calls Try.prog 6 #[.agg (rsA me), .slice A n c, .slice A2 n2 k2] w fun e w' => e = .returned (.bool true) ∧ Below w.heap.size w w' := by
  have OM := Lib.hid hm
  have SL := Lib.hid hl
  have NI := Lib.hid (slice_nums hs)
  clear hm hl hs
  have HO := Lib.hid (SL.out).ok
  have HLN := Lib.hid (SL.out).len
  have HB := Lib.hid (Below.refl w.heap.size w)
  have CI : Hid (ChsIn w (.slice A n c) l) := ⟨A, n, c, rfl, (SL.out).len, (SL.out).at_⟩
  obtain ⟨ss, HSS⟩ : ∃ ss, Hid (zs.take n2 = ss) := ⟨_, Lib.hid rfl⟩
  rw [HSS.out] at NI
  have HLS : Hid (ss.length = n2) := by
    obtain ⟨_, _, _, h1, h2, _⟩ := NI.out
    cases h1
    exact h2
  go_enter Try.func6, Try.ntmps6
  go_upto_region 1 with ((refine big_box rfl 29 _ rfl (rsA me) rfl (by kernel_rfl) ?_; intro gK3 wK3 hlK3 nK3 hbK3; have K3 := Lib.hid nK3; have LK3 := Lib.hid (Nat.le_trans (HB.out).size hlK3); have OCIK3 := Lib.hid ((CI.out).off hlK3); have ONIK3 := Lib.hid ((NI.out).off hlK3); replace CI := Lib.hid ((CI.out).keptB hbK3); replace NI := Lib.hid ((NI.out).keptB hbK3); replace HB := Lib.hid (bstep HB.out hbK3); clear hlK3 nK3 hbK3; try simp only [Act.put, List.setIfInBounds_toArray, List.set_cons_zero, List.set_cons_succ]))
  by_cases h1 : 60 < n
  · have d1 : decide ((60 : Int) < (n : Int)) = true := decide_eq_true (by omega)
    clear h1
    go_wp2_with fail
    refine (alive10_any _).mono ?_
    rintro e c1 ⟨rfl, hc1⟩
    replace K3 := Lib.hid ((K3.out).keptB hc1)
    replace HB := Lib.hid (bstep HB.out hc1)
    clear hc1
    go_wp2
    try rw [Exit.noGoto_ret]
    go_ret
    exact ⟨rfl, HB.out⟩
  · have d1 : decide ((60 : Int) < (n : Int)) = false := decide_eq_false (by omega)
    by_cases h2 : 100 < n2
    · have d2 : decide ((100 : Int) < (n2 : Int)) = true := decide_eq_true (by omega)
      clear h2
      go_wp2_with fail
      refine (alive10_any _).mono ?_
      rintro e c1 ⟨rfl, hc1⟩
      replace K3 := Lib.hid ((K3.out).keptB hc1)
      replace HB := Lib.hid (bstep HB.out hc1)
      clear hc1
      go_wp2
      try rw [Exit.noGoto_ret]
      go_ret
      exact ⟨rfl, HB.out⟩
    · have d2 : decide ((100 : Int) < (n2 : Int)) = false := decide_eq_false (by omega)
      have HN : Hid (n ≤ 60) := by rw [Hid]; omega
      have HN2 : Hid (n2 ≤ 100) := by rw [Hid]; omega
      clear h1 h2
      go_upto_region 3 with fail
      clear d1 d2
      have hn60 : n ≤ 60 := HN.out
      go_wp2
      go_loopg [22] n (fun gh i v => ∃ (j : Nat), j + gh = n ∧ i = .int .i64 j ∧ Hid (∀ q c, q < j → l[q]? = some c → c.is = true → betterB ⟨me, true⟩ c = true) ∧ Hid (ChsIn v (.slice A n c) l) ∧ Hid (NumIn v (.slice A2 n2 k2) ss) ∧ Hid (Holds v gK3 29 (rsA me)) ∧ Hid (Below w.heap.size w v))
      case atStart => exact ⟨0, by omega, rfl, (fun q c h => absurd h (by omega)), CI, NI, K3, HB⟩
      case round =>
        clear CI NI K3 HB
        obtain ⟨j, hj, rfl, HP, CI, NI, K3, HB⟩ := hrel
        cases gk with
        | zero =>
          have hd : decide ((j : Int) < (n : Int)) = false := decide_eq_false (by omega)
          obtain rfl : j = n := by omega
          have HALL : Hid (∀ c ∈ l, c.is = true → betterB ⟨me, true⟩ c = true) := by
            intro c hc hi
            obtain ⟨q, hq⟩ := List.mem_iff_getElem?.1 hc
            exact (HP.out) q c (by have := (List.getElem?_eq_some_iff.1 hq).1; have := HLN.out; omega) hq hi
          clear HP
          go_upto_region 9 with fail
          refine wp_region_held_drew (S := fun v => Below w.heap.size w v ∧ ChsIn v (.slice A j c) l ∧ NumIn v (.slice A2 n2 k2) ss ∧ Holds v gK3 29 (rsA me) ∧ True) (by kernel_rfl) ?_ (fun hHeld => ?_)
          · exact ⟨bdrew HB.out, (CI.out).drew, (NI.out).drew, (K3.out).drew, trivial⟩
          clear HB CI NI K3
          refine wpAnyH_take (i := 0) (v := .agg (rsA me)) (at_list rfl) (by kernel_rfl) (by kernel_rfl) (by kernel_rfl) (fun _ _ _ h => h) (yields_whole (by rfl) 29 _ rfl gK3 rfl (fun v hv => hv.2.2.2.1) Try.underlying29 rfl (by kernel_rfl)) hHeld ?_
          try simp only [Act.put, List.setIfInBounds_toArray, List.set_cons_zero, List.set_cons_succ]
          refine wpAnyH_take (i := 1) (v := .slice A j c) (at_list rfl) (by kernel_rfl) (by kernel_rfl) (by kernel_rfl) (fun _ _ _ h => h) (Or.inl ⟨by rfl, ?_⟩) hHeld ?_
          · intro v hSv
            clear hHeld
            go_simp
          try simp only [Act.put, List.setIfInBounds_toArray, List.set_cons_zero, List.set_cons_succ]
          refine wpAnyH_take (i := 3) (v := .slice A2 n2 k2) (at_list rfl) (by kernel_rfl) (by kernel_rfl) (by kernel_rfl) (fun _ _ _ h => h) (Or.inl ⟨by rfl, ?_⟩) hHeld ?_
          · intro v hSv
            clear hHeld
            go_simp
          try simp only [Act.put, List.setIfInBounds_toArray, List.set_cons_zero, List.set_cons_succ]
          refine wpAnyH_take (i := 6) (v := .int .i64 0) (at_list rfl) (by kernel_rfl) (by kernel_rfl) (by kernel_rfl) (fun _ _ _ h => h) (Or.inl ⟨by rfl, ?_⟩) hHeld ?_
          · intro v hSv
            clear hHeld
            go_simp
          try simp only [Act.put, List.setIfInBounds_toArray, List.set_cons_zero, List.set_cons_succ]
          refine wpAnyH_ready (rs := [2]) (by kernel_rfl) (by simp) ?_
          refine AllReadyH.cons (at_list rfl) (fun K hK => ?_) AllReadyH.nil
          go_simp
          refine (own10_in A j c l _ (by have := HN.out; omega) (hHeld.2.1)).mono ?_
          rintro e v1 ⟨x, rfl, hx, hv1⟩
          go_wp2_with fail
          refine hK.out _ _ ?_ (fun hHeld2 => ?_)
          · exact ⟨bstep hHeld.1 hv1, (hHeld.2.1).keptB hv1, (hHeld.2.2.1).keptB hv1, (hHeld.2.2.2.1).keptB hv1, trivial⟩
          clear hK K hHeld
          have hHeld := hHeld2
          clear hHeld2 hv1
          try simp only [Act.put, List.setIfInBounds_toArray, List.set_cons_zero, List.set_cons_succ]
          have XI := Lib.hid hx
          clear hx
          refine wpAnyH_ready (rs := [4]) (by kernel_rfl) (by simp) ?_
          refine AllReadyH.cons (at_list rfl) (fun K hK => ?_) AllReadyH.nil
          go_simp
          refine (pdall10_any me x l (.slice A2 n2 k2) ss _ OM.out HO.out (by have := HN.out; have := HLN.out; omega) XI.out (hHeld.2.2.1)).mono ?_
          rintro e v2 ⟨y, rfl, hy, hv2⟩
          replace XI := Lib.hid ((XI.out).keptB hv2)
          go_wp2_with fail
          refine hK.out _ _ ?_ (fun hHeld2 => ?_)
          · exact ⟨bstep hHeld.1 hv2, (hHeld.2.1).keptB hv2, (hHeld.2.2.1).keptB hv2, (hHeld.2.2.2.1).keptB hv2, trivial⟩
          clear hK K hHeld
          have hHeld := hHeld2
          clear hHeld2 hv2
          try simp only [Act.put, List.setIfInBounds_toArray, List.set_cons_zero, List.set_cons_succ]
          have YI := Lib.hid hy
          clear hy XI
          obtain ⟨A3, n3, c3, hyy, hz3, _⟩ := YI.out
          subst hyy
          have HZ3 : Hid (n3 = j) := by rw [Hid, ← hz3, decAll_len, HLN.out]
          clear hz3
          refine wpAnyH_take (i := 5) (v := .int .i64 n3) (at_list rfl) (by kernel_rfl) (by kernel_rfl) (by kernel_rfl) (fun _ _ _ h => h) (Or.inl ⟨by rfl, ?_⟩) hHeld ?_
          · intro v hSv
            clear hHeld
            go_simp
          try simp only [Act.put, List.setIfInBounds_toArray, List.set_cons_zero, List.set_cons_succ]
          refine wpAnyH_done (by kernel_rfl) ?_ _
          have HB := Lib.hid hHeld.1
          have CI := Lib.hid hHeld.2.1
          have NI := Lib.hid hHeld.2.2.1
          have K3 := Lib.hid hHeld.2.2.2.1
          clear hHeld
          clear CI NI K3
          go_wp2
          go_loopg [43] n3 (fun gh i v => ∃ (m : Nat), m + gh = n3 ∧ i = .int .i64 m ∧ Hid (NumIn v (.slice A3 n3 c3) (decAllN me l ss)) ∧ Hid (Below w.heap.size w v))
          case atStart => exact ⟨0, by omega, rfl, YI, HB⟩
          case round =>
            clear YI HB
            obtain ⟨m, hm, rfl, YI, HB⟩ := hrel
            cases gk with
            | zero =>
              have hd2 : decide ((m : Int) < (n3 : Int)) = false := decide_eq_false (by omega)
              go_wp2_with fail
              refine (alive10_any _).mono ?_
              rintro e c1 ⟨rfl, hc1⟩
              replace HB := Lib.hid (bstep HB.out hc1)
              clear hc1
              go_wp2
              try rw [Exit.noGoto_ret]
              go_ret
              exact ⟨rfl, HB.out⟩
            | succ g3 =>
              have hlt : m < n3 := by omega
              have hn3 : n3 ≤ 60 := by have := HZ3.out; have := HN.out; omega
              have hd2 : decide ((m : Int) < (n3 : Int)) = true := decide_eq_true (by omega)
              have hz := decAll_at me l ss (k := m) (by have := HZ3.out; have := HLN.out; omega)
              have hcode := dec_leads HALL.out (m : Int) (ss.getD m 3)
              obtain ⟨d, hdd⟩ : ∃ d, decideN me l (m : Int) (ss.getD m 3) = d := ⟨_, rfl⟩
              rw [hdd] at hz hcode
              clear hdd
              obtain ⟨g, o, hA⟩ : ∃ g o, A3 = some ⟨g, o, none⟩ := by
                obtain ⟨_, _, _, h1, _, h3⟩ := YI.out
                cases h1
                obtain ⟨g, o, h4, _⟩ := h3 (by omega)
                exact ⟨g, o, h4⟩
              subst hA
              have xs := num_in YI.out hz
              have HK := Lib.hid hlt
              clear hz
              rcases hcode with rfl | rfl | rfl
              · go_wp2_with ((refine big_index rfl 31 _ _ rfl g o n3 c3 m 1 rfl rfl HK.out Try.underlying31 (by kernel_rfl) ?_; try simp only [Act.put, List.setIfInBounds_toArray, List.set_cons_zero, List.set_cons_succ]))
                go_roundg g3
                case measure => omega
                case rel => exact ⟨m + 1, by omega, by go_num, YI, HB⟩
              · go_wp2_with ((refine big_index rfl 31 _ _ rfl g o n3 c3 m 1 rfl rfl HK.out Try.underlying31 (by kernel_rfl) ?_; try simp only [Act.put, List.setIfInBounds_toArray, List.set_cons_zero, List.set_cons_succ]))
                go_roundg g3
                case measure => omega
                case rel => exact ⟨m + 1, by omega, by go_num, YI, HB⟩
              · go_wp2_with ((refine big_index rfl 31 _ _ rfl g o n3 c3 m 1 rfl rfl HK.out Try.underlying31 (by kernel_rfl) ?_; try simp only [Act.put, List.setIfInBounds_toArray, List.set_cons_zero, List.set_cons_succ]))
                go_roundg g3
                case measure => omega
                case rel => exact ⟨m + 1, by omega, by go_num, YI, HB⟩
        | succ g1 =>
          have hlt : j < n := by omega
          have hd : decide ((j : Int) < (n : Int)) = true := decide_eq_true (by omega)
          obtain ⟨a, ha⟩ : ∃ a, l[j]? = some a := ⟨_, List.getElem?_eq_getElem (show j < l.length by have := HLN.out; omega)⟩
          have HA := Lib.hid ha
          have HK := Lib.hid hlt
          clear ha
          obtain ⟨g, o, hA⟩ : ∃ g o, A = some ⟨g, o, none⟩ := by
            obtain ⟨_, _, _, h1, _, h3⟩ := CI.out
            cases h1
            obtain ⟨g, o, h4, _⟩ := h3 (by omega)
            exact ⟨g, o, h4⟩
          subst hA
          go_upto_region 6 with (first | (refine big_fill rfl 45 _ _ rfl gK8 (chA a) rfl rfl K8.out (by kernel_rfl) (by kernel_rfl) (by kernel_rfl) ?_; intro vK80 nK8 htK8; replace K8 := Lib.hid nK8; replace CI := Lib.hid ((CI.out).touch htK8 OCIK8.out); replace NI := Lib.hid ((NI.out).touch htK8 ONIK8.out); replace K3 := Lib.hid ((K3.out).touch htK8 OK3K8.out); replace HB := Lib.hid (btouch HB.out htK8 LK8.out); clear nK8 htK8; try simp only [Act.put, List.setIfInBounds_toArray, List.set_cons_zero, List.set_cons_succ]) | (refine big_alloc rfl 45 rfl (chA zeroCh) (by kernel_rfl) ?_; intro gK8 wK8 hlK8 nK8 hbK8; have K8 := Lib.hid nK8; have LK8 := Lib.hid (Nat.le_trans (HB.out).size hlK8); have OCIK8 := Lib.hid ((CI.out).off hlK8); have ONIK8 := Lib.hid ((NI.out).off hlK8); have OK3K8 := Lib.hid ((K3.out).off hlK8); replace CI := Lib.hid ((CI.out).keptB hbK8); replace NI := Lib.hid ((NI.out).keptB hbK8); replace K3 := Lib.hid ((K3.out).keptB hbK8); replace HB := Lib.hid (bstep HB.out hbK8); clear hlK8 nK8 hbK8; try simp only [Act.put, List.setIfInBounds_toArray, List.set_cons_zero, List.set_cons_succ]) | (refine big_loadAt rfl 45 _ rfl g (o + j * 33) rfl (chA a) (ch_in CI.out HA.out) Try.underlying45 rfl (by kernel_rfl) ?_; try simp only [Act.put, List.setIfInBounds_toArray, List.set_cons_zero, List.set_cons_succ]) | (refine big_index rfl 30 _ _ rfl g o n c j 33 rfl rfl HK.out Try.underlying30 (by kernel_rfl) ?_; try simp only [Act.put, List.setIfInBounds_toArray, List.set_cons_zero, List.set_cons_succ]))
          have x32 := (K8.out).reads (i := 32) (x := .bool a.is) rfl
          cases hi : a.is
          · have HI := Lib.hid hi
            rw [hi] at x32
            clear hi
            go_wp2_with fail
            clear x32
            clear K8 LK8 OCIK8 ONIK8 OK3K8
            go_roundg g1
            case measure => omega
            case rel => exact ⟨j + 1, by omega, by go_num, (fun q c0 hq h2 hi2 => by
              by_cases hqj : q = j
              · subst hqj
                rw [HA.out] at h2
                obtain rfl := Option.some.inj h2
                rw [HI.out] at hi2; cases hi2
              · exact (HP.out) q c0 (by omega) h2 hi2), CI, NI, K3, HB⟩
          · have HI := Lib.hid hi
            rw [hi] at x32
            clear hi
            go_wp2_with (first | (refine big_build rfl 45 _ rfl (chA ⟨me, true⟩) (by kernel_rfl) ?_; try simp only [Act.put, List.setIfInBounds_toArray, List.set_cons_zero, List.set_cons_succ]) | (refine big_whole rfl 29 _ rfl gK3 rfl K3.out Try.underlying29 rfl (by kernel_rfl) ?_; try simp only [Act.put, List.setIfInBounds_toArray, List.set_cons_zero, List.set_cons_succ]) | (refine big_whole rfl 45 _ rfl gK8 rfl K8.out Try.underlying45 rfl (by kernel_rfl) ?_; try simp only [Act.put, List.setIfInBounds_toArray, List.set_cons_zero, List.set_cons_succ]))
            clear x32
            refine (rbetter9_any ⟨me, true⟩ a _ OM.out (HO.out a (List.mem_of_getElem? HA.out))).mono ?_
            rintro e c1 ⟨rfl, hc1⟩
            replace CI := Lib.hid ((CI.out).keptB hc1)
            replace NI := Lib.hid ((NI.out).keptB hc1)
            replace K3 := Lib.hid ((K3.out).keptB hc1)
            replace K8 := Lib.hid ((K8.out).keptB hc1)
            replace HB := Lib.hid (bstep HB.out hc1)
            clear hc1
            cases hb : betterB ⟨me, true⟩ a
            · clear hb
              go_wp2_with fail
              refine (alive10_any _).mono ?_
              rintro e c1 ⟨rfl, hc1⟩
              replace HB := Lib.hid (bstep HB.out hc1)
              clear hc1
              go_wp2
              try rw [Exit.noGoto_ret]
              go_ret
              exact ⟨rfl, HB.out⟩
            · have HBB := Lib.hid hb
              clear hb
              go_wp2
              clear K8 LK8 OCIK8 ONIK8 OK3K8
              go_roundg g1
              case measure => omega
              case rel => exact ⟨j + 1, by omega, by go_num, (fun q c0 hq h2 hi2 => by
                by_cases hqj : q = j
                · subst hqj
                  rw [HA.out] at h2
                  obtain rfl := Option.some.inj h2
                  exact HBB.out
                · exact (HP.out) q c0 (by omega) h2 hi2), CI, NI, K3, HB⟩

end Go.Proofs.Ytpdnfeooijmgoaa
