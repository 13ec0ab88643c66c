/- The walk over DecideIdle. -/
import Derived.Test.YtpdnfeooijmgoaaDecideAlive
import Derived.Test.YtpdnfeooijmgoaaDecideLeadB
import Derived.Deep.DeepCutAuto
import Derived.Deep.LoopGhost
import Derived.WalkMore
namespace Go.Proofs.Ytpdnfeooijmgoaa
set_option maxRecDepth 100000
open Go.RowKit
set_option linter.unusedVariables false
set_option linter.unusedSimpArgs false

theorem ch_in_is {w : World} {g o n c k : Nat} {l : List Ch} {a : Ch} (h : ChsIn w (.slice (some ⟨g, o, none⟩) n c) l) (hk : l[k]? = some a) : w.cell? ⟨g, o + k * 33 + 32, none⟩ = some (.bool a.is) := ch_in h hk 32 (.bool a.is) rfl
set_option maxHeartbeats 4000000 in
theorem decidle10 (me : Rs) (A : Option Addr) (n c : Nat) (l : List Ch) (A2 : Option Addr) (n2 k2 : Nat) (zs : List Int) (w : World) (hm : me.ok) (hl : ChsOk w A n c l) (hs : sliceOk .i64 w A2 n2 k2 zs) :
    Calls Try.prog 8 #[.agg (rsA me), .slice A n c, .slice A2 n2 k2] w fun e w' => e = .returned (.bool true) ∧ Below w.heap.size w w' := by
  have OM := Lib.hid hm
  have SL := Lib.hid hl
  have NI := Lib.hid (slice_nums hs)
  clear hm hl hs
  have HO := Lib.hid (SL.out).ok
  have HLN := Lib.hid (SL.out).len
  have HB := Lib.hid (Below.refl w.heap.size w)
  have CI : Hid (ChsIn w (.slice A n c) l) := ⟨A, n, c, rfl, (SL.out).len, (SL.out).at_⟩
  obtain ⟨ss, HSS⟩ : ∃ ss, Hid (zs.take n2 = ss) := ⟨_, Lib.hid rfl⟩
  rw [HSS.out] at NI
  have HLS : Hid (ss.length = n2) := by
    obtain ⟨_, _, _, h1, h2, _⟩ := NI.out
    cases h1
    exact h2
  go_enter Try.func8, Try.ntmps8
  go_upto_region 1 with ((refine big_box rfl 29 _ rfl (rsA me) rfl (by kernel_rfl) ?_; intro gK3 wK3 hlK3 nK3 hbK3; have K3 := Lib.hid nK3; have LK3 := Lib.hid (Nat.le_trans (HB.out).size hlK3); have OCIK3 := Lib.hid ((CI.out).off hlK3); have ONIK3 := Lib.hid ((NI.out).off hlK3); replace CI := Lib.hid ((CI.out).keptB hbK3); replace NI := Lib.hid ((NI.out).keptB hbK3); replace HB := Lib.hid (bstep HB.out hbK3); clear hlK3 nK3 hbK3; try simp only [Act.put, List.setIfInBounds_toArray, List.set_cons_zero, List.set_cons_succ]))
  by_cases h1 : 60 < n
  · have d1 : decide ((60 : Int) < (n : Int)) = true := decide_eq_true (by omega)
    clear h1
    go_wp2_with fail
    refine (alive10_any _).mono ?_
    rintro e c1 ⟨rfl, hc1⟩
    replace K3 := Lib.hid ((K3.out).keptB hc1)
    replace HB := Lib.hid (bstep HB.out hc1)
    clear hc1
    go_wp2
    try rw [Exit.noGoto_ret]
    go_ret
    exact ⟨rfl, HB.out⟩
  · have d1 : decide ((60 : Int) < (n : Int)) = false := decide_eq_false (by omega)
    by_cases h2 : 100 < n2
    · have d2 : decide ((100 : Int) < (n2 : Int)) = true := decide_eq_true (by omega)
      clear h2
      go_wp2_with fail
      refine (alive10_any _).mono ?_
      rintro e c1 ⟨rfl, hc1⟩
      replace K3 := Lib.hid ((K3.out).keptB hc1)
      replace HB := Lib.hid (bstep HB.out hc1)
      clear hc1
      go_wp2
      try rw [Exit.noGoto_ret]
      go_ret
      exact ⟨rfl, HB.out⟩
    · have d2 : decide ((100 : Int) < (n2 : Int)) = false := decide_eq_false (by omega)
      have HN : Hid (n ≤ 60) := by rw [Hid]; omega
      have HN2 : Hid (n2 ≤ 100) := by rw [Hid]; omega
      clear h1 h2
      go_upto_region 3 with fail
      clear d1 d2
      refine wp_region_held_drew (S := fun v => Below w.heap.size w v ∧ ChsIn v (.slice A n c) l ∧ NumIn v (.slice A2 n2 k2) ss ∧ Holds v gK3 29 (rsA me) ∧ True) (by kernel_rfl) ?_ (fun hHeld => ?_)
      · exact ⟨bdrew HB.out, (CI.out).drew, (NI.out).drew, (K3.out).drew, trivial⟩
      clear HB CI NI K3
      refine wpAnyH_take (i := 0) (v := .agg (rsA me)) (at_list rfl) (by kernel_rfl) (by kernel_rfl) (by kernel_rfl) (fun _ _ _ h => h) (yields_whole (by rfl) 29 _ rfl gK3 rfl (fun v hv => hv.2.2.2.1) Try.underlying29 rfl (by kernel_rfl)) hHeld ?_
      try simp only [Act.put, List.setIfInBounds_toArray, List.set_cons_zero, List.set_cons_succ]
      refine wpAnyH_take (i := 1) (v := .slice A n c) (at_list rfl) (by kernel_rfl) (by kernel_rfl) (by kernel_rfl) (fun _ _ _ h => h) (Or.inl ⟨by rfl, ?_⟩) hHeld ?_
      · intro v hSv
        clear hHeld
        go_simp
      try simp only [Act.put, List.setIfInBounds_toArray, List.set_cons_zero, List.set_cons_succ]
      refine wpAnyH_take (i := 3) (v := .slice A2 n2 k2) (at_list rfl) (by kernel_rfl) (by kernel_rfl) (by kernel_rfl) (fun _ _ _ h => h) (Or.inl ⟨by rfl, ?_⟩) hHeld ?_
      · intro v hSv
        clear hHeld
        go_simp
      try simp only [Act.put, List.setIfInBounds_toArray, List.set_cons_zero, List.set_cons_succ]
      refine wpAnyH_take (i := 6) (v := .int .i64 0) (at_list rfl) (by kernel_rfl) (by kernel_rfl) (by kernel_rfl) (fun _ _ _ h => h) (Or.inl ⟨by rfl, ?_⟩) hHeld ?_
      · intro v hSv
        clear hHeld
        go_simp
      try simp only [Act.put, List.setIfInBounds_toArray, List.set_cons_zero, List.set_cons_succ]
      refine wpAnyH_ready (rs := [2]) (by kernel_rfl) (by simp) ?_
      refine AllReadyH.cons (at_list rfl) (fun K hK => ?_) AllReadyH.nil
      go_simp
      refine (own10_in A n c l _ (by have := HN.out; omega) (hHeld.2.1)).mono ?_
      rintro e v1 ⟨x, rfl, hx, hv1⟩
      go_wp2_with fail
      refine hK.out _ _ ?_ (fun hHeld2 => ?_)
      · exact ⟨bstep hHeld.1 hv1, (hHeld.2.1).keptB hv1, (hHeld.2.2.1).keptB hv1, (hHeld.2.2.2.1).keptB hv1, trivial⟩
      clear hK K hHeld
      have hHeld := hHeld2
      clear hHeld2 hv1
      try simp only [Act.put, List.setIfInBounds_toArray, List.set_cons_zero, List.set_cons_succ]
      have XI := Lib.hid hx
      clear hx
      refine wpAnyH_ready (rs := [4]) (by kernel_rfl) (by simp) ?_
      refine AllReadyH.cons (at_list rfl) (fun K hK => ?_) AllReadyH.nil
      go_simp
      refine (pdall10_any me x l (.slice A2 n2 k2) ss _ OM.out HO.out (by have := HN.out; have := HLN.out; omega) XI.out (hHeld.2.2.1)).mono ?_
      rintro e v2 ⟨y, rfl, hy, hv2⟩
      replace XI := Lib.hid ((XI.out).keptB hv2)
      go_wp2_with fail
      refine hK.out _ _ ?_ (fun hHeld2 => ?_)
      · exact ⟨bstep hHeld.1 hv2, (hHeld.2.1).keptB hv2, (hHeld.2.2.1).keptB hv2, (hHeld.2.2.2.1).keptB hv2, trivial⟩
      clear hK K hHeld
      have hHeld := hHeld2
      clear hHeld2 hv2
      try simp only [Act.put, List.setIfInBounds_toArray, List.set_cons_zero, List.set_cons_succ]
      have YI := Lib.hid hy
      clear hy XI
      obtain ⟨A3, n3, c3, hyy, hz3, _⟩ := YI.out
      subst hyy
      have HZ3 : Hid (n3 = n) := by rw [Hid, ← hz3, decAll_len, HLN.out]
      clear hz3
      refine wpAnyH_take (i := 5) (v := .int .i64 n3) (at_list rfl) (by kernel_rfl) (by kernel_rfl) (by kernel_rfl) (fun _ _ _ h => h) (Or.inl ⟨by rfl, ?_⟩) hHeld ?_
      · intro v hSv
        clear hHeld
        go_simp
      try simp only [Act.put, List.setIfInBounds_toArray, List.set_cons_zero, List.set_cons_succ]
      refine wpAnyH_done (by kernel_rfl) ?_ _
      have HB := Lib.hid hHeld.1
      have CI := Lib.hid hHeld.2.1
      have NI := Lib.hid hHeld.2.2.1
      have K3 := Lib.hid hHeld.2.2.2.1
      clear hHeld
      clear K3
      go_wp2
      go_loopg [25] n3 (fun gh i v => ∃ (j : Nat), j + gh = n3 ∧ i = .int .i64 j ∧ Hid (ChsIn v (.slice A n c) l) ∧ Hid (NumIn v (.slice A2 n2 k2) ss) ∧ Hid (NumIn v (.slice A3 n3 c3) (decAllN me l ss)) ∧ Hid (Below w.heap.size w v))
      case atStart => exact ⟨0, by omega, rfl, CI, NI, YI, HB⟩
      case round =>
        clear CI NI YI HB
        obtain ⟨j, hj, rfl, CI, NI, YI, HB⟩ := hrel
        cases gk with
        | zero =>
          have hd : decide ((j : Int) < (n3 : Int)) = false := decide_eq_false (by omega)
          go_wp2_with fail
          refine (alive10_any _).mono ?_
          rintro e c1 ⟨rfl, hc1⟩
          replace HB := Lib.hid (bstep HB.out hc1)
          clear hc1
          go_wp2
          try rw [Exit.noGoto_ret]
          go_ret
          exact ⟨rfl, HB.out⟩
        | succ g1 =>
          have hlt : j < n3 := by omega
          have hn3 : n3 ≤ 60 := by have := HZ3.out; have := HN.out; omega
          have hjn : j < n := by have := HZ3.out; omega
          have hd : decide ((j : Int) < (n3 : Int)) = true := decide_eq_true (by omega)
          have hz := decAll_at me l ss (k := j) (by have := HLN.out; omega)
          obtain ⟨r, hr⟩ : ∃ r, l[j]? = some r := ⟨_, List.getElem?_eq_getElem (by have := HLN.out; omega)⟩
          have hcode := dec_zero (me := me) (st := ss.getD j 3) hr
          obtain ⟨d, hdd⟩ : ∃ d, decideN me l (j : Int) (ss.getD j 3) = d := ⟨_, rfl⟩
          rw [hdd] at hz hcode
          clear hdd
          obtain ⟨g, o, hA⟩ : ∃ g o, A3 = some ⟨g, o, none⟩ := by
            obtain ⟨_, _, _, h1, _, h3⟩ := YI.out
            cases h1
            obtain ⟨g, o, h4, _⟩ := h3 (by omega)
            exact ⟨g, o, h4⟩
          subst hA
          obtain ⟨g4, o4, hA⟩ : ∃ g o, A = some ⟨g, o, none⟩ := by
            obtain ⟨_, _, _, h1, _, h3⟩ := CI.out
            cases h1
            obtain ⟨g, o, h4, _⟩ := h3 (by omega)
            exact ⟨g, o, h4⟩
          subst hA
          have xs := num_in YI.out hz
          have xr := ch_in_is CI.out hr
          have HK := Lib.hid hlt
          have HKN := Lib.hid hjn
          clear hz
          by_cases hs2 : j < n2
          · have d2 : decide ((n2 : Int) ≤ (j : Int)) = false := decide_eq_false (by omega)
            obtain ⟨st, hst⟩ : ∃ st, ss[j]? = some st := ⟨_, List.getElem?_eq_getElem (show j < ss.length by rw [HLS.out]; exact hs2)⟩
            rw [show ss.getD j 3 = st by rw [List.getD_eq_getElem?_getD, hst]; rfl] at hcode
            obtain ⟨g2, o2, hA⟩ : ∃ g o, A2 = some ⟨g, o, none⟩ := by
              obtain ⟨_, _, _, h1, _, h3⟩ := NI.out
              cases h1
              obtain ⟨g, o, h4, _⟩ := h3 (by omega)
              exact ⟨g, o, h4⟩
            subst hA
            have xt := num_in NI.out hst
            have HK2 := Lib.hid hs2
            clear hst
            by_cases t1 : st = 1
            · have e1 : (st == 1) = true := by simpa using t1
              have HE : (d == 0) = true := by rw [hcode, e1]; rfl
              clear t1
              clear hcode
              go_wp2_with (first | (refine big_index rfl 31 _ _ rfl g o n3 c3 j 1 rfl rfl HK.out Try.underlying31 (by kernel_rfl) ?_; try simp only [Act.put, List.setIfInBounds_toArray, List.set_cons_zero, List.set_cons_succ]) | (refine big_index rfl 31 _ _ rfl g2 o2 n2 k2 j 1 rfl rfl HK2.out Try.underlying31 (by kernel_rfl) ?_; try simp only [Act.put, List.setIfInBounds_toArray, List.set_cons_zero, List.set_cons_succ]))
              go_roundg g1
              case measure => omega
              case rel => exact ⟨j + 1, by omega, by go_num, CI, NI, YI, HB⟩
            · have e1 : (st == 1) = false := by simpa using t1
              by_cases t2 : st = 2
              · have e2 : (st == 2) = true := by simpa using t2
                have HE : (d == 0) = true := by rw [hcode, e1, e2]; rfl
                clear t1 t2
                clear hcode
                go_wp2_with (first | (refine big_index rfl 31 _ _ rfl g o n3 c3 j 1 rfl rfl HK.out Try.underlying31 (by kernel_rfl) ?_; try simp only [Act.put, List.setIfInBounds_toArray, List.set_cons_zero, List.set_cons_succ]) | (refine big_index rfl 31 _ _ rfl g2 o2 n2 k2 j 1 rfl rfl HK2.out Try.underlying31 (by kernel_rfl) ?_; try simp only [Act.put, List.setIfInBounds_toArray, List.set_cons_zero, List.set_cons_succ]))
                go_roundg g1
                case measure => omega
                case rel => exact ⟨j + 1, by omega, by go_num, CI, NI, YI, HB⟩
              · have e2 : (st == 2) = false := by simpa using t2
                by_cases t3 : st = 3
                · have e3 : (st == 3) = true := by simpa using t3
                  have HE : (d == 0) = true := by rw [hcode, e1, e2, e3]; rfl
                  clear t1 t2 t3
                  clear hcode
                  go_wp2_with (first | (refine big_index rfl 31 _ _ rfl g o n3 c3 j 1 rfl rfl HK.out Try.underlying31 (by kernel_rfl) ?_; try simp only [Act.put, List.setIfInBounds_toArray, List.set_cons_zero, List.set_cons_succ]) | (refine big_index rfl 31 _ _ rfl g2 o2 n2 k2 j 1 rfl rfl HK2.out Try.underlying31 (by kernel_rfl) ?_; try simp only [Act.put, List.setIfInBounds_toArray, List.set_cons_zero, List.set_cons_succ]))
                  go_roundg g1
                  case measure => omega
                  case rel => exact ⟨j + 1, by omega, by go_num, CI, NI, YI, HB⟩
                · have e3 : (st == 3) = false := by simpa using t3
                  by_cases t4 : st = 4
                  · cases hi : r.is
                    · have e4 : (st == 4) = true := by simpa using t4
                      rw [hi] at xr hcode
                      have HE : (d == 0) = true := by rw [hcode, e1, e2, e3, e4]; rfl
                      clear t1 t2 t3 t4 hi
                      clear hcode
                      go_wp2_with (first | (refine big_index rfl 31 _ _ rfl g o n3 c3 j 1 rfl rfl HK.out Try.underlying31 (by kernel_rfl) ?_; try simp only [Act.put, List.setIfInBounds_toArray, List.set_cons_zero, List.set_cons_succ]) | (refine big_index rfl 31 _ _ rfl g2 o2 n2 k2 j 1 rfl rfl HK2.out Try.underlying31 (by kernel_rfl) ?_; try simp only [Act.put, List.setIfInBounds_toArray, List.set_cons_zero, List.set_cons_succ]) | (refine big_index rfl 30 _ _ rfl g4 o4 n c j 33 rfl rfl HKN.out Try.underlying30 (by kernel_rfl) ?_; try simp only [Act.put, List.setIfInBounds_toArray, List.set_cons_zero, List.set_cons_succ]))
                      go_roundg g1
                      case measure => omega
                      case rel => exact ⟨j + 1, by omega, by go_num, CI, NI, YI, HB⟩
                    · have e4 : (st == 4) = true := by simpa using t4
                      rw [hi] at xr hcode
                      have HE : (d == 0) = false := by rw [hcode, e1, e2, e3, e4]; rfl
                      clear t1 t2 t3 t4 hi
                      clear hcode
                      go_wp2_with (first | (refine big_index rfl 31 _ _ rfl g o n3 c3 j 1 rfl rfl HK.out Try.underlying31 (by kernel_rfl) ?_; try simp only [Act.put, List.setIfInBounds_toArray, List.set_cons_zero, List.set_cons_succ]) | (refine big_index rfl 31 _ _ rfl g2 o2 n2 k2 j 1 rfl rfl HK2.out Try.underlying31 (by kernel_rfl) ?_; try simp only [Act.put, List.setIfInBounds_toArray, List.set_cons_zero, List.set_cons_succ]) | (refine big_index rfl 30 _ _ rfl g4 o4 n c j 33 rfl rfl HKN.out Try.underlying30 (by kernel_rfl) ?_; try simp only [Act.put, List.setIfInBounds_toArray, List.set_cons_zero, List.set_cons_succ]))
                      go_roundg g1
                      case measure => omega
                      case rel => exact ⟨j + 1, by omega, by go_num, CI, NI, YI, HB⟩
                  · have e4 : (st == 4) = false := by simpa using t4
                    have HE : (d == 0) = false := by rw [hcode, e1, e2, e3, e4]; rfl
                    clear t1 t2 t3 t4
                    clear hcode
                    go_wp2_with (first | (refine big_index rfl 31 _ _ rfl g o n3 c3 j 1 rfl rfl HK.out Try.underlying31 (by kernel_rfl) ?_; try simp only [Act.put, List.setIfInBounds_toArray, List.set_cons_zero, List.set_cons_succ]) | (refine big_index rfl 31 _ _ rfl g2 o2 n2 k2 j 1 rfl rfl HK2.out Try.underlying31 (by kernel_rfl) ?_; try simp only [Act.put, List.setIfInBounds_toArray, List.set_cons_zero, List.set_cons_succ]))
                    go_roundg g1
                    case measure => omega
                    case rel => exact ⟨j + 1, by omega, by go_num, CI, NI, YI, HB⟩
          · have hs3 : ¬ j < n2 := hs2
            have d2 : decide ((n2 : Int) ≤ (j : Int)) = true := decide_eq_true (by omega)
            rw [show ss.getD j 3 = 3 by rw [List.getD_eq_getElem?_getD, List.getElem?_eq_none (by have := HLS.out; omega)]; rfl] at hcode
            have HE : (d == 0) = true := by rw [hcode]; rfl
            clear hcode
            go_wp2_with ((refine big_index rfl 31 _ _ rfl g o n3 c3 j 1 rfl rfl HK.out Try.underlying31 (by kernel_rfl) ?_; try simp only [Act.put, List.setIfInBounds_toArray, List.set_cons_zero, List.set_cons_succ]))
            go_roundg g1
            case measure => omega
            case rel => exact ⟨j + 1, by omega, by go_num, CI, NI, YI, HB⟩

end Go.Proofs.Ytpdnfeooijmgoaa
