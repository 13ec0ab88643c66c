/- The walk over ForeignApart. -/
import Derived.Test.YtnddmaadmibpeaaForeignInv
import Derived.Test.YtnddmaadmibpeaaForeignAlive
import Derived.Test.YtnddmaadmibpeaaRankEq
import Derived.Deep.DeepCutAuto
import Derived.Deep.LoopGhost
namespace Go.Proofs.Ytnddmaadmibpeaa
set_option maxRecDepth 100000
open Go.RowKit
set_option linter.unusedVariables false
set_option linter.unusedSimpArgs false

set_option maxHeartbeats 4000000 in
theorem apart8 (own : Ck) (every : Int) (A : Option Addr) (n c : Nat) (l : List Cl) (s : Rs) (w : World) (hl : ClsOk w A n c l) (hs : s.full) :
    Calls Try.prog 5 #[.agg #[.int .u8 own.b0, .int .u8 own.b1, .int .u8 own.b2, .int .u8 own.b3, .int .u8 own.b4, .int .u8 own.b5, .int .u8 own.b6, .int .u8 own.b7, .int .i64 every], .slice A n c, .agg (rsA s)] w fun e w' => e = .returned (.bool true) ∧ Below w.heap.size w w' := by
  have HLS := Lib.hid hl
  have HSF := Lib.hid hs
  clear hl hs
  have HB := Lib.hid (Below.refl w.heap.size w)
  go_enter Try.func5, Try.ntmps5
  go_upto_region 1 with (first | (refine big_box rfl 37 _ rfl (rsA s) rfl (by kernel_rfl) ?_; intro gK5 wK5 hlK5 nK5 hbK5; have K5 := Lib.hid nK5; have LK5 := Lib.hid (Nat.le_trans (HB.out).size hlK5); have OK1K5 := Lib.hid ((K1.out).off hlK5); replace K1 := Lib.hid ((K1.out).keptB hbK5); replace HB := Lib.hid (bstep HB.out hbK5); clear hlK5 nK5 hbK5) | (refine big_box rfl 25 _ rfl (#[.int .u8 own.b0, .int .u8 own.b1, .int .u8 own.b2, .int .u8 own.b3, .int .u8 own.b4, .int .u8 own.b5, .int .u8 own.b6, .int .u8 own.b7, .int .i64 every]) rfl (by kernel_rfl) ?_; intro gK1 wK1 hlK1 nK1 hbK1; have K1 := Lib.hid nK1; have LK1 := Lib.hid (Nat.le_trans (HB.out).size hlK1); replace HB := Lib.hid (bstep HB.out hbK1); clear hlK1 nK1 hbK1))
  have x8 := (K1.out).reads (i := 8) (x := .int .i64 every) rfl
  by_cases hev : every < 1 ∨ 1099511627776 < every
  · go_wp2_with ((refine big_load rfl 23 _ rfl gK1 0 rfl K1.out [.int .u8 own.b0, .int .u8 own.b1, .int .u8 own.b2, .int .u8 own.b3, .int .u8 own.b4, .int .u8 own.b5, .int .u8 own.b6, .int .u8 own.b7] rfl Try.underlying23 rfl (by kernel_rfl) ?_))
    refine (new8_no own every _ (by omega)).mono ?_
    rintro e w1 ⟨rfl, h1⟩
    replace HB := Lib.hid (bstep HB.out h1)
    clear h1 hev
    go_wp2_with fail
    refine (alive8_any _).mono ?_
    rintro e ca ⟨rfl, hca⟩
    replace HB := Lib.hid (bstep HB.out hca)
    clear hca
    go_wp2
    try rw [Exit.noGoto_ret]
    go_ret
    exact ⟨rfl, HB.out⟩
  · have HEV : Hid (1 ≤ every ∧ every ≤ 1099511627776) := by rw [Hid]; omega
    clear hev
    go_wp2_with ((refine big_load rfl 23 _ rfl gK1 0 rfl K1.out [.int .u8 own.b0, .int .u8 own.b1, .int .u8 own.b2, .int .u8 own.b3, .int .u8 own.b4, .int .u8 own.b5, .int .u8 own.b6, .int .u8 own.b7] rfl Try.underlying23 rfl (by kernel_rfl) ?_))
    refine (new8_yes own every _ (HEV.out).1 (HEV.out).2).mono ?_
    rintro e w1 ⟨p, m, rfl, ht, hp, hm, h1⟩
    obtain ⟨win, hwin⟩ : ∃ x, 4 * every = x := ⟨_, rfl⟩
    rw [hwin] at ht
    have HW : Hid (4 * every = win) := hwin
    have h2 : 0 ≤ win := by have := HEV.out; omega
    have h3 : win ≤ 4398046511104 := by have := HEV.out; omega
    have LM : Hid (w.heap.size ≤ m) := by rw [Hid]; have := (HB.out).size; omega
    have NK1 : Hid (gK1 ≠ m) := by rw [Hid]; have := (K1.out).inside; omega
    have NK5 : Hid (gK5 ≠ m) := by rw [Hid]; have := (K5.out).inside; omega
    replace K1 := Lib.hid ((K1.out).keptB h1)
    replace K5 := Lib.hid ((K5.out).keptB h1)
    replace HB := Lib.hid (bstep HB.out h1)
    have TB := Lib.hid ht
    clear ht hp hm h1 hwin
    by_cases hn : 300 < n
    · have dn : decide ((300 : Int) < (n : Int)) = true := decide_eq_true (by omega)
      clear hn
      go_wp2_with fail
      refine (alive8_any _).mono ?_
      rintro e ca ⟨rfl, hca⟩
      replace HB := Lib.hid (bstep HB.out hca)
      clear hca
      go_wp2
      try rw [Exit.noGoto_ret]
      go_ret
      exact ⟨rfl, HB.out⟩
    · have dn : decide ((300 : Int) < (n : Int)) = false := decide_eq_false (by omega)
      have hn4 : n ≤ 300 := by omega
      clear hn x8 K1 NK1 LK1
      have HR : Hid (TabOk ([] : List Fe)) := tab_nil
      go_wp2
      clear dn
      go_loopg [40] n (fun gh i v => ∃ (j : Nat) (R : List Fe), j + gh = n ∧ i = .int .i64 j ∧ Hid (TabAt v p m own win R) ∧ Hid (TabOk R) ∧ Hid (Holds v gK5 37 (rsA s)) ∧ Hid (Below w.heap.size w v))
      case atStart => exact ⟨0, [], by omega, rfl, TB, HR, K5, HB⟩
      case round =>
        clear TB HR K5 HB
        obtain ⟨j, R, hj, rfl, TB, HR, K5, HB⟩ := hrel
        cases gk with
        | zero =>
          have hd : decide ((j : Int) < (n : Int)) = false := decide_eq_false (by omega)
          go_wp2_with fail
          refine (alive8_any _).mono ?_
          rintro e ca ⟨rfl, hca⟩
          replace HB := Lib.hid (bstep HB.out hca)
          clear hca
          go_wp2
          try rw [Exit.noGoto_ret]
          go_ret
          exact ⟨rfl, HB.out⟩
        | succ g1 =>
          have hlt : j < n := by omega
          have hd : decide ((j : Int) < (n : Int)) = true := decide_eq_true (by omega)
          obtain ⟨o, ho⟩ : ∃ o, l[j]? = some o := ⟨_, List.getElem?_eq_getElem (show j < l.length by have := (HLS.out).len; omega)⟩
          have HK := Lib.hid hlt
          have HKO := Lib.hid ((HLS.out).ok o (List.mem_of_getElem? ho))
          obtain ⟨g, f, hA, hcl⟩ := (HLS.out).at_ (by omega)
          subst hA
          have HP : Hid (∀ v, Below w.heap.size w v → v.rangeAt g (f + j * 34) (clA o).toList) := fun v hv => hcl.now hv ho
          clear hcl ho hlt
          go_upto_region 7 with (first | (refine big_fill rfl 39 _ _ rfl gK8 (opC o.kd o.now o.s) rfl rfl K8.out (by kernel_rfl) (by kernel_rfl) (by kernel_rfl) ?_; intro vK80 nK8 htK8; replace K8 := Lib.hid nK8; replace TB := Lib.hid ((TB.out).touch htK8 OTBK8.out); replace K5 := Lib.hid ((K5.out).touch htK8 OK5K8.out); replace HB := Lib.hid (btouch HB.out htK8 LK8.out); clear nK8 htK8) | (refine big_alloc rfl 39 rfl (opC 0 0 zeroR) (by kernel_rfl) ?_; intro gK8 wK8 hlK8 nK8 hbK8; have K8 := Lib.hid nK8; have LK8 := Lib.hid (Nat.le_trans (HB.out).size hlK8); have OTBK8 := Lib.hid ((TB.out).off hlK8); have OK5K8 := Lib.hid ((K5.out).off hlK8); replace TB := Lib.hid ((TB.out).keptB hbK8); replace K5 := Lib.hid ((K5.out).keptB hbK8); replace HB := Lib.hid (bstep HB.out hbK8); clear hlK8 nK8 hbK8) | (refine big_loadAt rfl 39 _ rfl g (f + j * 34) rfl (opC o.kd o.now o.s) (HP.out _ HB.out) Try.underlying39 rfl (by kernel_rfl) ?_) | (refine big_index rfl 26 _ _ rfl g f n c j 34 rfl rfl HK.out Try.underlying26 (by kernel_rfl) ?_))
          have N8 : Hid (gK8 ≠ m) := Ne.symm (OTBK8.out).2
          go_wp2_with ((refine big_load rfl 35 _ rfl gK5 14 rfl K5.out [.int .u8 s.sn.c.b0, .int .u8 s.sn.c.b1, .int .u8 s.sn.c.b2, .int .u8 s.sn.c.b3, .int .u8 s.sn.c.b4, .int .u8 s.sn.c.b5, .int .u8 s.sn.c.b6, .int .u8 s.sn.c.b7, .int .i64 s.sn.n] rfl Try.underlying35 rfl (by kernel_rfl) ?_))
          refine (lastT8_any p m own win R s.sn _ TB.out HSF.out.key).mono ?_
          rintro e c1 ⟨rfl, hc1⟩
          replace TB := Lib.hid ((TB.out).keptB hc1)
          replace K5 := Lib.hid ((K5.out).keptB hc1)
          replace K8 := Lib.hid ((K8.out).keptB hc1)
          replace HB := Lib.hid (bstep HB.out hc1)
          clear hc1
          go_upto_region 8 with (first | (refine big_fill rfl 37 _ _ rfl gK11 (rsA (atE R s.sn).s) rfl rfl K11.out (by kernel_rfl) (by kernel_rfl) (by kernel_rfl) ?_; intro vK110 nK11 htK11; replace K11 := Lib.hid nK11; replace TB := Lib.hid ((TB.out).touch htK11 OTBK11.out); replace K5 := Lib.hid ((K5.out).touch htK11 OK5K11.out); replace K8 := Lib.hid ((K8.out).touch htK11 OK8K11.out); replace HB := Lib.hid (btouch HB.out htK11 LK11.out); clear nK11 htK11) | (refine big_alloc rfl 37 rfl (rsA zeroR) (by kernel_rfl) ?_; intro gK11 wK11 hlK11 nK11 hbK11; have K11 := Lib.hid nK11; have LK11 := Lib.hid (Nat.le_trans (HB.out).size hlK11); have OTBK11 := Lib.hid ((TB.out).off hlK11); have OK5K11 := Lib.hid ((K5.out).off hlK11); have OK8K11 := Lib.hid ((K8.out).off hlK11); replace TB := Lib.hid ((TB.out).keptB hbK11); replace K5 := Lib.hid ((K5.out).keptB hbK11); replace K8 := Lib.hid ((K8.out).keptB hbK11); replace HB := Lib.hid (bstep HB.out hbK11); clear hlK11 nK11 hbK11))
          have N11 : Hid (gK11 ≠ m) := Ne.symm (OTBK11.out).2
          go_wp2_with (refine big_whole rfl 39 _ rfl gK8 rfl K8.out Try.underlying39 rfl (by kernel_rfl) ?_)
          have LZ := Lib.hid (HB.out).size
          refine (does8_any p m own win R o.kd o.now o.s _ HR.out TB.out (HKO.out).s.key h2 h3).mono ?_
          rintro e c1 ⟨rfl, ht, hoo⟩
          replace K8 := Lib.hid ((K8.out).only hoo (by have := N8.out; simp; omega))
          replace K5 := Lib.hid ((K5.out).only hoo (by have := NK5.out; simp; omega))
          replace K11 := Lib.hid ((K11.out).only hoo (by have := N11.out; simp; omega))
          replace HB := Lib.hid (bonly8 HB.out hoo LZ.out (by have := LM.out; simpa using this))
          clear hoo LZ
          have HR2 : Hid (TabOk (doE own win R o.kd o.now o.s).2) := doE_ok HR.out _ _ (HKO.out).s
          have HAP : Hid (o.kd ≠ 2 → o.s.sn ≠ s.sn → (o.kd = 0 → (doE own win R o.kd o.now o.s).1 ≠ 3) → getE (doE own win R o.kd o.now o.s).2 s.sn = getE R s.sn) := fun h1 h2 h3 => doE_apart HR.out (HKO.out).s h1 h2 h3
          obtain ⟨⟨told, R2⟩, hR2⟩ : ∃ x, doE own win R o.kd o.now o.s = x := ⟨_, rfl⟩
          rw [hR2] at ht HR2 HAP ⊢
          simp only [] at ht HR2 HAP ⊢
          replace TB := Lib.hid ht
          clear ht hR2 HR
          go_wp2_with ((refine big_load rfl 35 _ rfl gK5 14 rfl K5.out [.int .u8 s.sn.c.b0, .int .u8 s.sn.c.b1, .int .u8 s.sn.c.b2, .int .u8 s.sn.c.b3, .int .u8 s.sn.c.b4, .int .u8 s.sn.c.b5, .int .u8 s.sn.c.b6, .int .u8 s.sn.c.b7, .int .i64 s.sn.n] rfl Try.underlying35 rfl (by kernel_rfl) ?_))
          refine (lastT8_any p m own win R2 s.sn _ TB.out HSF.out.key).mono ?_
          rintro e c2 ⟨rfl, hc2⟩
          replace TB := Lib.hid ((TB.out).keptB hc2)
          replace K5 := Lib.hid ((K5.out).keptB hc2)
          replace K8 := Lib.hid ((K8.out).keptB hc2)
          replace K11 := Lib.hid ((K11.out).keptB hc2)
          replace HB := Lib.hid (bstep HB.out hc2)
          clear hc2
          go_upto_region 10 with (first | (refine big_fill rfl 37 _ _ rfl gK15 (rsA (atE R2 s.sn).s) rfl rfl K15.out (by kernel_rfl) (by kernel_rfl) (by kernel_rfl) ?_; intro vK150 nK15 htK15; replace K15 := Lib.hid nK15; replace TB := Lib.hid ((TB.out).touch htK15 OTBK15.out); replace K5 := Lib.hid ((K5.out).touch htK15 OK5K15.out); replace K8 := Lib.hid ((K8.out).touch htK15 OK8K15.out); replace K11 := Lib.hid ((K11.out).touch htK15 OK11K15.out); replace HB := Lib.hid (btouch HB.out htK15 LK15.out); clear nK15 htK15) | (refine big_alloc rfl 37 rfl (rsA zeroR) (by kernel_rfl) ?_; intro gK15 wK15 hlK15 nK15 hbK15; have K15 := Lib.hid nK15; have LK15 := Lib.hid (Nat.le_trans (HB.out).size hlK15); have OTBK15 := Lib.hid ((TB.out).off hlK15); have OK5K15 := Lib.hid ((K5.out).off hlK15); have OK8K15 := Lib.hid ((K8.out).off hlK15); have OK11K15 := Lib.hid ((K11.out).off hlK15); replace TB := Lib.hid ((TB.out).keptB hbK15); replace K5 := Lib.hid ((K5.out).keptB hbK15); replace K8 := Lib.hid ((K8.out).keptB hbK15); replace K11 := Lib.hid ((K11.out).keptB hbK15); replace HB := Lib.hid (bstep HB.out hbK15); clear hlK15 nK15 hbK15))
          have x0 := (K8.out).reads (i := 0) (x := .int .i64 o.kd) rfl
          by_cases h2k : o.kd = 2
          · have d2 : (o.kd == 2) = true := by simp [h2k]
            clear h2k
            go_wp2
            clear x0 K8 LK8 OTBK8 OK5K8 K11 LK11 OTBK11 OK5K11 OK8K11 K15 LK15 OTBK15 OK5K15 OK8K15 OK11K15
            go_roundg g1
            case measure => omega
            case rel => exact ⟨j + 1, R2, by omega, by go_num, TB, HR2, K5, HB⟩
          · have d2 : (o.kd == 2) = false := by simpa using h2k
            cases hq : eqP o.s.sn s.sn
            · have HQ := Lib.hid hq
              have hqq := HQ.out
              clear hq
              by_cases h0k : o.kd = 0
              · by_cases h3k : told = 3
                · clear hqq
                  have d0 : (o.kd == 0) = true := by simp [h0k]
                  have d3 : (told == 3) = true := by simp [h3k]
                  clear h0k h3k h2k
                  have GATE : Hid True := trivial
                  go_wp2_with (first | (have _ := GATE.out; refine big_cmp rfl .eql 35 _ _ _ rfl (#[.int .u8 o.s.sn.c.b0, .int .u8 o.s.sn.c.b1, .int .u8 o.s.sn.c.b2, .int .u8 o.s.sn.c.b3, .int .u8 o.s.sn.c.b4, .int .u8 o.s.sn.c.b5, .int .u8 o.s.sn.c.b6, .int .u8 o.s.sn.c.b7, .int .i64 o.s.sn.n]) (#[.int .u8 s.sn.c.b0, .int .u8 s.sn.c.b1, .int .u8 s.sn.c.b2, .int .u8 s.sn.c.b3, .int .u8 s.sn.c.b4, .int .u8 s.sn.c.b5, .int .u8 s.sn.c.b6, .int .u8 s.sn.c.b7, .int .i64 s.sn.n]) rfl rfl (by kernel_rfl) false (fun v => (eql_port o.s.sn s.sn v).trans (by rw [HQ.out])) ?_; clear GATE) | (have _ := GATE.out; refine big_load rfl 35 _ rfl gK8 16 rfl K8.out [.int .u8 o.s.sn.c.b0, .int .u8 o.s.sn.c.b1, .int .u8 o.s.sn.c.b2, .int .u8 o.s.sn.c.b3, .int .u8 o.s.sn.c.b4, .int .u8 o.s.sn.c.b5, .int .u8 o.s.sn.c.b6, .int .u8 o.s.sn.c.b7, .int .i64 o.s.sn.n] rfl Try.underlying35 rfl (by kernel_rfl) ?_) | (have _ := GATE.out; refine big_load rfl 35 _ rfl gK5 14 rfl K5.out [.int .u8 s.sn.c.b0, .int .u8 s.sn.c.b1, .int .u8 s.sn.c.b2, .int .u8 s.sn.c.b3, .int .u8 s.sn.c.b4, .int .u8 s.sn.c.b5, .int .u8 s.sn.c.b6, .int .u8 s.sn.c.b7, .int .i64 s.sn.n] rfl Try.underlying35 rfl (by kernel_rfl) ?_))
                  clear x0 K8 LK8 OTBK8 OK5K8 K11 LK11 OTBK11 OK5K11 OK8K11 K15 LK15 OTBK15 OK5K15 OK8K15 OK11K15
                  go_roundg g1
                  case measure => omega
                  case rel => exact ⟨j + 1, R2, by omega, by go_num, TB, HR2, K5, HB⟩
                · have HG : Hid (getE R2 s.sn = getE R s.sn) := (HAP.out) h2k (fun hc => by rw [eqP_iff.2 hc] at hqq; cases hqq) (fun _ => h3k)
                  have HAT : Hid (atE R2 s.sn = atE R s.sn) := by unfold atE; rw [Hid, HG.out]
                  have HHA : Hid (hasE R2 s.sn = hasE R s.sn) := by unfold hasE; rw [Hid, HG.out]
                  have d0 : (o.kd == 0) = true := by simp [h0k]
                  have d3 : (told == 3) = false := by simpa using h3k
                  clear h0k h3k h2k hqq
                  rw [HAT.out] at K15 ⊢
                  rw [HHA.out]
                  obtain ⟨x, HX⟩ : ∃ x, Hid (atE R s.sn = x) := ⟨_, Lib.hid rfl⟩
                  rw [HX.out] at K15 K11 ⊢
                  clear HAT HG HAP HHA HX
                  cases hasE R s.sn
                  · go_wp2_with (first | (refine big_cmp rfl .neq 37 _ _ _ rfl (rsA x.s) (rsA x.s) rfl rfl (by kernel_rfl) false (fun v => (neq_setR x.s x.s v).trans (by rw [eqR_self]; rfl)) ?_) | (refine big_cmp rfl .eql 35 _ _ _ rfl (#[.int .u8 o.s.sn.c.b0, .int .u8 o.s.sn.c.b1, .int .u8 o.s.sn.c.b2, .int .u8 o.s.sn.c.b3, .int .u8 o.s.sn.c.b4, .int .u8 o.s.sn.c.b5, .int .u8 o.s.sn.c.b6, .int .u8 o.s.sn.c.b7, .int .i64 o.s.sn.n]) (#[.int .u8 s.sn.c.b0, .int .u8 s.sn.c.b1, .int .u8 s.sn.c.b2, .int .u8 s.sn.c.b3, .int .u8 s.sn.c.b4, .int .u8 s.sn.c.b5, .int .u8 s.sn.c.b6, .int .u8 s.sn.c.b7, .int .i64 s.sn.n]) rfl rfl (by kernel_rfl) false (fun v => (eql_port o.s.sn s.sn v).trans (by rw [HQ.out])) ?_) | (refine big_load rfl 35 _ rfl gK8 16 rfl K8.out [.int .u8 o.s.sn.c.b0, .int .u8 o.s.sn.c.b1, .int .u8 o.s.sn.c.b2, .int .u8 o.s.sn.c.b3, .int .u8 o.s.sn.c.b4, .int .u8 o.s.sn.c.b5, .int .u8 o.s.sn.c.b6, .int .u8 o.s.sn.c.b7, .int .i64 o.s.sn.n] rfl Try.underlying35 rfl (by kernel_rfl) ?_) | (refine big_load rfl 35 _ rfl gK5 14 rfl K5.out [.int .u8 s.sn.c.b0, .int .u8 s.sn.c.b1, .int .u8 s.sn.c.b2, .int .u8 s.sn.c.b3, .int .u8 s.sn.c.b4, .int .u8 s.sn.c.b5, .int .u8 s.sn.c.b6, .int .u8 s.sn.c.b7, .int .i64 s.sn.n] rfl Try.underlying35 rfl (by kernel_rfl) ?_) | (refine big_whole rfl 37 _ rfl gK11 rfl K11.out Try.underlying37 rfl (by kernel_rfl) ?_) | (refine big_whole rfl 37 _ rfl gK15 rfl K15.out Try.underlying37 rfl (by kernel_rfl) ?_))
                    clear x0 K8 LK8 OTBK8 OK5K8 K11 LK11 OTBK11 OK5K11 OK8K11 K15 LK15 OTBK15 OK5K15 OK8K15 OK11K15
                    go_roundg g1
                    case measure => omega
                    case rel => exact ⟨j + 1, R2, by omega, by go_num, TB, HR2, K5, HB⟩
                  · go_wp2_with (first | (refine big_cmp rfl .neq 37 _ _ _ rfl (rsA x.s) (rsA x.s) rfl rfl (by kernel_rfl) false (fun v => (neq_setR x.s x.s v).trans (by rw [eqR_self]; rfl)) ?_) | (refine big_cmp rfl .eql 35 _ _ _ rfl (#[.int .u8 o.s.sn.c.b0, .int .u8 o.s.sn.c.b1, .int .u8 o.s.sn.c.b2, .int .u8 o.s.sn.c.b3, .int .u8 o.s.sn.c.b4, .int .u8 o.s.sn.c.b5, .int .u8 o.s.sn.c.b6, .int .u8 o.s.sn.c.b7, .int .i64 o.s.sn.n]) (#[.int .u8 s.sn.c.b0, .int .u8 s.sn.c.b1, .int .u8 s.sn.c.b2, .int .u8 s.sn.c.b3, .int .u8 s.sn.c.b4, .int .u8 s.sn.c.b5, .int .u8 s.sn.c.b6, .int .u8 s.sn.c.b7, .int .i64 s.sn.n]) rfl rfl (by kernel_rfl) false (fun v => (eql_port o.s.sn s.sn v).trans (by rw [HQ.out])) ?_) | (refine big_load rfl 35 _ rfl gK8 16 rfl K8.out [.int .u8 o.s.sn.c.b0, .int .u8 o.s.sn.c.b1, .int .u8 o.s.sn.c.b2, .int .u8 o.s.sn.c.b3, .int .u8 o.s.sn.c.b4, .int .u8 o.s.sn.c.b5, .int .u8 o.s.sn.c.b6, .int .u8 o.s.sn.c.b7, .int .i64 o.s.sn.n] rfl Try.underlying35 rfl (by kernel_rfl) ?_) | (refine big_load rfl 35 _ rfl gK5 14 rfl K5.out [.int .u8 s.sn.c.b0, .int .u8 s.sn.c.b1, .int .u8 s.sn.c.b2, .int .u8 s.sn.c.b3, .int .u8 s.sn.c.b4, .int .u8 s.sn.c.b5, .int .u8 s.sn.c.b6, .int .u8 s.sn.c.b7, .int .i64 s.sn.n] rfl Try.underlying35 rfl (by kernel_rfl) ?_) | (refine big_whole rfl 37 _ rfl gK11 rfl K11.out Try.underlying37 rfl (by kernel_rfl) ?_) | (refine big_whole rfl 37 _ rfl gK15 rfl K15.out Try.underlying37 rfl (by kernel_rfl) ?_))
                    clear x0 K8 LK8 OTBK8 OK5K8 K11 LK11 OTBK11 OK5K11 OK8K11 K15 LK15 OTBK15 OK5K15 OK8K15 OK11K15
                    go_roundg g1
                    case measure => omega
                    case rel => exact ⟨j + 1, R2, by omega, by go_num, TB, HR2, K5, HB⟩
              · have HG : Hid (getE R2 s.sn = getE R s.sn) := (HAP.out) h2k (fun hc => by rw [eqP_iff.2 hc] at hqq; cases hqq) (fun hc => absurd hc h0k)
                have HAT : Hid (atE R2 s.sn = atE R s.sn) := by unfold atE; rw [Hid, HG.out]
                have HHA : Hid (hasE R2 s.sn = hasE R s.sn) := by unfold hasE; rw [Hid, HG.out]
                have d0 : (o.kd == 0) = false := by simpa using h0k
                clear h0k h2k hqq
                rw [HAT.out] at K15 ⊢
                rw [HHA.out]
                obtain ⟨x, HX⟩ : ∃ x, Hid (atE R s.sn = x) := ⟨_, Lib.hid rfl⟩
                rw [HX.out] at K15 K11 ⊢
                clear HAT HG HAP HHA HX
                cases hasE R s.sn
                · go_wp2_with (first | (refine big_cmp rfl .neq 37 _ _ _ rfl (rsA x.s) (rsA x.s) rfl rfl (by kernel_rfl) false (fun v => (neq_setR x.s x.s v).trans (by rw [eqR_self]; rfl)) ?_) | (refine big_cmp rfl .eql 35 _ _ _ rfl (#[.int .u8 o.s.sn.c.b0, .int .u8 o.s.sn.c.b1, .int .u8 o.s.sn.c.b2, .int .u8 o.s.sn.c.b3, .int .u8 o.s.sn.c.b4, .int .u8 o.s.sn.c.b5, .int .u8 o.s.sn.c.b6, .int .u8 o.s.sn.c.b7, .int .i64 o.s.sn.n]) (#[.int .u8 s.sn.c.b0, .int .u8 s.sn.c.b1, .int .u8 s.sn.c.b2, .int .u8 s.sn.c.b3, .int .u8 s.sn.c.b4, .int .u8 s.sn.c.b5, .int .u8 s.sn.c.b6, .int .u8 s.sn.c.b7, .int .i64 s.sn.n]) rfl rfl (by kernel_rfl) false (fun v => (eql_port o.s.sn s.sn v).trans (by rw [HQ.out])) ?_) | (refine big_load rfl 35 _ rfl gK8 16 rfl K8.out [.int .u8 o.s.sn.c.b0, .int .u8 o.s.sn.c.b1, .int .u8 o.s.sn.c.b2, .int .u8 o.s.sn.c.b3, .int .u8 o.s.sn.c.b4, .int .u8 o.s.sn.c.b5, .int .u8 o.s.sn.c.b6, .int .u8 o.s.sn.c.b7, .int .i64 o.s.sn.n] rfl Try.underlying35 rfl (by kernel_rfl) ?_) | (refine big_load rfl 35 _ rfl gK5 14 rfl K5.out [.int .u8 s.sn.c.b0, .int .u8 s.sn.c.b1, .int .u8 s.sn.c.b2, .int .u8 s.sn.c.b3, .int .u8 s.sn.c.b4, .int .u8 s.sn.c.b5, .int .u8 s.sn.c.b6, .int .u8 s.sn.c.b7, .int .i64 s.sn.n] rfl Try.underlying35 rfl (by kernel_rfl) ?_) | (refine big_whole rfl 37 _ rfl gK11 rfl K11.out Try.underlying37 rfl (by kernel_rfl) ?_) | (refine big_whole rfl 37 _ rfl gK15 rfl K15.out Try.underlying37 rfl (by kernel_rfl) ?_))
                  clear x0 K8 LK8 OTBK8 OK5K8 K11 LK11 OTBK11 OK5K11 OK8K11 K15 LK15 OTBK15 OK5K15 OK8K15 OK11K15
                  go_roundg g1
                  case measure => omega
                  case rel => exact ⟨j + 1, R2, by omega, by go_num, TB, HR2, K5, HB⟩
                · go_wp2_with (first | (refine big_cmp rfl .neq 37 _ _ _ rfl (rsA x.s) (rsA x.s) rfl rfl (by kernel_rfl) false (fun v => (neq_setR x.s x.s v).trans (by rw [eqR_self]; rfl)) ?_) | (refine big_cmp rfl .eql 35 _ _ _ rfl (#[.int .u8 o.s.sn.c.b0, .int .u8 o.s.sn.c.b1, .int .u8 o.s.sn.c.b2, .int .u8 o.s.sn.c.b3, .int .u8 o.s.sn.c.b4, .int .u8 o.s.sn.c.b5, .int .u8 o.s.sn.c.b6, .int .u8 o.s.sn.c.b7, .int .i64 o.s.sn.n]) (#[.int .u8 s.sn.c.b0, .int .u8 s.sn.c.b1, .int .u8 s.sn.c.b2, .int .u8 s.sn.c.b3, .int .u8 s.sn.c.b4, .int .u8 s.sn.c.b5, .int .u8 s.sn.c.b6, .int .u8 s.sn.c.b7, .int .i64 s.sn.n]) rfl rfl (by kernel_rfl) false (fun v => (eql_port o.s.sn s.sn v).trans (by rw [HQ.out])) ?_) | (refine big_load rfl 35 _ rfl gK8 16 rfl K8.out [.int .u8 o.s.sn.c.b0, .int .u8 o.s.sn.c.b1, .int .u8 o.s.sn.c.b2, .int .u8 o.s.sn.c.b3, .int .u8 o.s.sn.c.b4, .int .u8 o.s.sn.c.b5, .int .u8 o.s.sn.c.b6, .int .u8 o.s.sn.c.b7, .int .i64 o.s.sn.n] rfl Try.underlying35 rfl (by kernel_rfl) ?_) | (refine big_load rfl 35 _ rfl gK5 14 rfl K5.out [.int .u8 s.sn.c.b0, .int .u8 s.sn.c.b1, .int .u8 s.sn.c.b2, .int .u8 s.sn.c.b3, .int .u8 s.sn.c.b4, .int .u8 s.sn.c.b5, .int .u8 s.sn.c.b6, .int .u8 s.sn.c.b7, .int .i64 s.sn.n] rfl Try.underlying35 rfl (by kernel_rfl) ?_) | (refine big_whole rfl 37 _ rfl gK11 rfl K11.out Try.underlying37 rfl (by kernel_rfl) ?_) | (refine big_whole rfl 37 _ rfl gK15 rfl K15.out Try.underlying37 rfl (by kernel_rfl) ?_))
                  clear x0 K8 LK8 OTBK8 OK5K8 K11 LK11 OTBK11 OK5K11 OK8K11 K15 LK15 OTBK15 OK5K15 OK8K15 OK11K15
                  go_roundg g1
                  case measure => omega
                  case rel => exact ⟨j + 1, R2, by omega, by go_num, TB, HR2, K5, HB⟩
            · have HQ := Lib.hid hq
              clear hq h2k
              have GATE : Hid True := trivial
              go_wp2_with (first | (have _ := GATE.out; refine big_cmp rfl .eql 35 _ _ _ rfl (#[.int .u8 o.s.sn.c.b0, .int .u8 o.s.sn.c.b1, .int .u8 o.s.sn.c.b2, .int .u8 o.s.sn.c.b3, .int .u8 o.s.sn.c.b4, .int .u8 o.s.sn.c.b5, .int .u8 o.s.sn.c.b6, .int .u8 o.s.sn.c.b7, .int .i64 o.s.sn.n]) (#[.int .u8 s.sn.c.b0, .int .u8 s.sn.c.b1, .int .u8 s.sn.c.b2, .int .u8 s.sn.c.b3, .int .u8 s.sn.c.b4, .int .u8 s.sn.c.b5, .int .u8 s.sn.c.b6, .int .u8 s.sn.c.b7, .int .i64 s.sn.n]) rfl rfl (by kernel_rfl) true (fun v => (eql_port o.s.sn s.sn v).trans (by rw [HQ.out])) ?_; clear GATE) | (have _ := GATE.out; refine big_load rfl 35 _ rfl gK8 16 rfl K8.out [.int .u8 o.s.sn.c.b0, .int .u8 o.s.sn.c.b1, .int .u8 o.s.sn.c.b2, .int .u8 o.s.sn.c.b3, .int .u8 o.s.sn.c.b4, .int .u8 o.s.sn.c.b5, .int .u8 o.s.sn.c.b6, .int .u8 o.s.sn.c.b7, .int .i64 o.s.sn.n] rfl Try.underlying35 rfl (by kernel_rfl) ?_) | (have _ := GATE.out; refine big_load rfl 35 _ rfl gK5 14 rfl K5.out [.int .u8 s.sn.c.b0, .int .u8 s.sn.c.b1, .int .u8 s.sn.c.b2, .int .u8 s.sn.c.b3, .int .u8 s.sn.c.b4, .int .u8 s.sn.c.b5, .int .u8 s.sn.c.b6, .int .u8 s.sn.c.b7, .int .i64 s.sn.n] rfl Try.underlying35 rfl (by kernel_rfl) ?_))
              clear x0 K8 LK8 OTBK8 OK5K8 K11 LK11 OTBK11 OK5K11 OK8K11 K15 LK15 OTBK15 OK5K15 OK8K15 OK11K15
              go_roundg g1
              case measure => omega
              case rel => exact ⟨j + 1, R2, by omega, by go_num, TB, HR2, K5, HB⟩

end Go.Proofs.Ytnddmaadmibpeaa
