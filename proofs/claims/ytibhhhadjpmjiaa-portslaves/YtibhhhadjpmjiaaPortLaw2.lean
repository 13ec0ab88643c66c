/- The walk over PortSlaves. -/
import Derived.Test.YtibhhhadjpmjiaaPortDo
import Derived.Test.YtibhhhadjpmjiaaPortAlive
import Derived.Test.YtibhhhadjpmjiaaPortOpen
import Derived.Test.YtibhhhadjpmjiaaPortInv
import Derived.Deep.DeepCutAuto
import Derived.Deep.LoopGhost
namespace Go.Proofs.Ytibhhhadjpmjiaa
set_option maxRecDepth 100000
open Go.RowKit
set_option linter.unusedVariables false
set_option linter.unusedSimpArgs false

set_option maxHeartbeats 4000000 in
theorem slaves12 (ev of : Int) (A : Option Addr) (n c : Nat) (l : List Po) (w : World) (hs : PosOk w A n c l) :
    Calls Try.prog 4 #[.int .i64 ev, .int .i64 of, .slice A n c] w fun e w' => e = .returned (.bool true) ∧ Below w.heap.size w w' := by
  cases hmy : mayB ev of
  · have HMY := Lib.hid hmy
    clear hmy
    have HB := Lib.hid (Below.refl w.heap.size w)
    have HLS := Lib.hid hs
    clear hs
    go_enter Try.func4, Try.ntmps4
    go_wp2_with fail
    refine (pnew12_any ev of true _).mono ?_
    intro e w1 hh
    obtain ⟨rfl, rfl⟩ := hh.1 HMY.out
    clear hh
    go_wp2_with fail
    refine (alive12_any _).mono ?_
    rintro e ca ⟨rfl, hca⟩
    replace HB := Lib.hid (bstep HB.out hca)
    clear hca
    go_wp2
    try rw [Exit.noGoto_ret]
    go_ret
    exact ⟨rfl, HB.out⟩
  · have HMY := Lib.hid hmy
    clear hmy
    have HB := Lib.hid (Below.refl w.heap.size w)
    have HLS := Lib.hid hs
    clear hs
    go_enter Try.func4, Try.ntmps4
    go_wp2_with fail
    refine (pnew12_any ev of true _).mono ?_
    intro e w1 hh
    obtain ⟨gM, rfl, hm, hl, hb⟩ := hh.2 HMY.out
    have LM := Lib.hid (Nat.le_trans (HB.out).size hl)
    have M := Lib.hid hm
    replace HB := Lib.hid (bstep HB.out hb)
    clear hh hm hl hb
    by_cases q0 : (2000 : Int) < (n : Int)
    · have e0 : decide ((2000 : Int) < (n : Int)) = true := decide_eq_true q0
      clear q0
      go_wp2_with fail
      refine (alive12_any _).mono ?_
      rintro e ca ⟨rfl, hca⟩
      replace HB := Lib.hid (bstep HB.out hca)
      clear hca
      go_wp2
      try rw [Exit.noGoto_ret]
      go_ret
      exact ⟨rfl, HB.out⟩
    · have e0 : decide ((2000 : Int) < (n : Int)) = false := decide_eq_false q0
      have hn4 : n ≤ 2000 := by omega
      clear q0
      go_wp2
      go_loopg [32] n (fun gh i v => ∃ (j : Nat) (m : Pm), j + gh = n ∧ i = .int .i64 j ∧ Hid (Holds v gM 51 (mcA m)) ∧ Hid (m.fine ev of true) ∧ Hid (Below w.heap.size w v))
      case atStart => exact ⟨0, newP ev of true, by omega, rfl, M, Lib.hid (new_fine HMY.out), HB⟩
      case round =>
        clear M HB 
        obtain ⟨j, m, hj, rfl, M, HR, HB⟩ := hrel
        cases gk with
        | zero =>
          have hd : decide ((j : Int) < (n : Int)) = false := decide_eq_false (by omega)
          go_wp2_with fail
          refine (alive12_any _).mono ?_
          rintro e ca ⟨rfl, hca⟩
          replace HB := Lib.hid (bstep HB.out hca)
          clear hca
          go_wp2
          try rw [Exit.noGoto_ret]
          go_ret
          exact ⟨rfl, HB.out⟩
        | succ g1 =>
          have hlt : j < n := by omega
          have hd : decide ((j : Int) < (n : Int)) = true := decide_eq_true (by omega)
          obtain ⟨o, ho⟩ : ∃ o, l[j]? = some o := ⟨_, List.getElem?_eq_getElem (show j < l.length by have := (HLS.out).len; omega)⟩
          have HK := Lib.hid hlt
          have HKO : Hid o.fits := (HLS.out).ok o (List.mem_of_getElem? ho)
          obtain ⟨g, f, hA, hcl⟩ := (HLS.out).at_ (by omega)
          subst hA
          have HP : Hid (∀ v, Below w.heap.size w v → v.rangeAt g (f + j * 5) (poA o).toList) := fun v hv => hcl.now poA_five (by decide) hv ho
          clear hcl ho hlt
          go_upto_region 7 with (first | (refine big_fill rfl 35 _ _ rfl gK9 (poA o) rfl rfl K9.out (by kernel_rfl) (by kernel_rfl) (by kernel_rfl) ?_; intro vK90 nK9 htK9; replace K9 := Lib.hid nK9; replace M := Lib.hid ((M.out).touch htK9 OMK9.out); replace HB := Lib.hid (btouch HB.out htK9 LK9.out); clear nK9 htK9; try simp only [Act.put, List.setIfInBounds_toArray, List.set_cons_zero, List.set_cons_succ]) | (refine big_alloc rfl 35 rfl (poA ⟨0, 0, 0, 0, false⟩) (by kernel_rfl) ?_; intro gK9 wK9 hlK9 nK9 hbK9; have K9 := Lib.hid nK9; have LK9 := Lib.hid (Nat.le_trans (HB.out).size hlK9); have OMK9 := Lib.hid ((M.out).off hlK9); replace M := Lib.hid ((M.out).keptB hbK9); replace HB := Lib.hid (bstep HB.out hbK9); clear hlK9 nK9 hbK9; try simp only [Act.put, List.setIfInBounds_toArray, List.set_cons_zero, List.set_cons_succ]) | (refine big_loadAt rfl 35 _ rfl g (f + j * 5) rfl (poA o) (HP.out _ HB.out) Try.underlying35 rfl (by kernel_rfl) ?_; try simp only [Act.put, List.setIfInBounds_toArray, List.set_cons_zero, List.set_cons_succ]) | (refine big_index rfl 24 _ _ rfl g f n c j 5 rfl rfl HK.out Try.underlying24 (by kernel_rfl) ?_; try simp only [Act.put, List.setIfInBounds_toArray, List.set_cons_zero, List.set_cons_succ]))
          go_wp2_with ((refine big_whole rfl 35 _ rfl gK9 rfl K9.out Try.underlying35 rfl (by kernel_rfl) ?_; try simp only [Act.put, List.setIfInBounds_toArray, List.set_cons_zero, List.set_cons_succ]))
          have LZ := Lib.hid (HB.out).size
          refine (does12_any gM m o _ M.out (HR.out).fit HKO.out).mono ?_
          rintro e c1 ⟨rfl, hm, ho⟩
          replace K9 := Lib.hid ((K9.out).only ho (by have := OMK9.out; simp; omega))
          replace M := Lib.hid hm
          replace HB := Lib.hid (bonly8 HB.out ho LZ.out (by have := LM.out; simp; omega))
          clear hm ho LZ
          clear K9 LK9 OMK9
          have HR2 : Hid ((doP m o).fine ev of true) := do_fine HR.out o
          obtain ⟨m2, hm2⟩ : ∃ x, doP m o = x := ⟨_, rfl⟩
          rw [hm2] at M HR2
          clear hm2 HR
          obtain ⟨⟨e6, e5⟩, e7⟩ := slave_not HR2.out
          go_wp2_with fail
          refine (pstate12_any gM m2 _ M.out).mono ?_
          rintro e w1 ⟨rfl, rfl⟩
          go_wp2
          go_roundg g1
          case measure => omega
          case rel => exact ⟨j + 1, m2, by omega, by go_num, M, HR2, HB⟩

end Go.Proofs.Ytibhhhadjpmjiaa
