/- The walk over ForeignBounds. -/
import Derived.Test.YtnddmaadmibpeaaForeignInv
import Derived.Test.YtnddmaadmibpeaaForeignAlive
import Derived.Deep.DeepCutAuto
import Derived.Deep.LoopGhost
namespace Go.Proofs.Ytnddmaadmibpeaa
set_option maxRecDepth 100000
open Go.RowKit
set_option linter.unusedVariables false
set_option linter.unusedSimpArgs false

theorem sets_in {w : World} {g o n c k : Nat} {l : List Rs} {s : Rs} (h : SetsIn w (.slice (some ⟨g, o, none⟩) n c) l) (hk : l[k]? = some s) : w.rangeAt g (o + k * 32) (rsA s).toList := by
  obtain ⟨A, n2, c2, h1, h2, h3⟩ := h
  cases h1
  have hl : k < l.length := (List.getElem?_eq_some_iff.1 hk).1
  obtain ⟨g', o', h4, h5⟩ := h3 (by omega)
  cases h4
  exact h5 k s hk
set_option maxHeartbeats 4000000 in
theorem bounds8 (own : Ck) (every : Int) (A : Option Addr) (n c : Nat) (l : List Cl) (w : World) (hl : ClsOk w A n c l) :
    Calls Try.prog 3 #[.agg #[.int .u8 own.b0, .int .u8 own.b1, .int .u8 own.b2, .int .u8 own.b3, .int .u8 own.b4, .int .u8 own.b5, .int .u8 own.b6, .int .u8 own.b7, .int .i64 every], .slice A n c] w fun e w' => e = .returned (.bool true) ∧ Below w.heap.size w w' := by
  have HLS := Lib.hid hl
  clear hl
  have HB := Lib.hid (Below.refl w.heap.size w)
  go_enter Try.func3, Try.ntmps3
  go_upto_region 1 with ((refine big_box rfl 25 _ rfl (#[.int .u8 own.b0, .int .u8 own.b1, .int .u8 own.b2, .int .u8 own.b3, .int .u8 own.b4, .int .u8 own.b5, .int .u8 own.b6, .int .u8 own.b7, .int .i64 every]) rfl (by kernel_rfl) ?_; intro gK1 wK1 hlK1 nK1 hbK1; have K1 := Lib.hid nK1; have LK1 := Lib.hid (Nat.le_trans (HB.out).size hlK1); replace HB := Lib.hid (bstep HB.out hbK1); clear hlK1 nK1 hbK1))
  have x8 := (K1.out).reads (i := 8) (x := .int .i64 every) rfl
  by_cases hev : every < 1 ∨ 1099511627776 < every
  · go_wp2_with ((refine big_load rfl 23 _ rfl gK1 0 rfl K1.out [.int .u8 own.b0, .int .u8 own.b1, .int .u8 own.b2, .int .u8 own.b3, .int .u8 own.b4, .int .u8 own.b5, .int .u8 own.b6, .int .u8 own.b7] rfl Try.underlying23 rfl (by kernel_rfl) ?_))
    refine (new8_no own every _ (by omega)).mono ?_
    rintro e w1 ⟨rfl, h1⟩
    replace HB := Lib.hid (bstep HB.out h1)
    clear h1 hev
    go_wp2_with fail
    refine (alive8_any _).mono ?_
    rintro e ca ⟨rfl, hca⟩
    replace HB := Lib.hid (bstep HB.out hca)
    clear hca
    go_wp2
    try rw [Exit.noGoto_ret]
    go_ret
    exact ⟨rfl, HB.out⟩
  · have HEV : Hid (1 ≤ every ∧ every ≤ 1099511627776) := by rw [Hid]; omega
    clear hev
    go_wp2_with ((refine big_load rfl 23 _ rfl gK1 0 rfl K1.out [.int .u8 own.b0, .int .u8 own.b1, .int .u8 own.b2, .int .u8 own.b3, .int .u8 own.b4, .int .u8 own.b5, .int .u8 own.b6, .int .u8 own.b7] rfl Try.underlying23 rfl (by kernel_rfl) ?_))
    refine (new8_yes own every _ (HEV.out).1 (HEV.out).2).mono ?_
    rintro e w1 ⟨p, m, rfl, ht, hp, hm, h1⟩
    obtain ⟨win, hwin⟩ : ∃ x, 4 * every = x := ⟨_, rfl⟩
    rw [hwin] at ht
    have HW : Hid (4 * every = win) := hwin
    have h2 : 0 ≤ win := by have := HEV.out; omega
    have h3 : win ≤ 4398046511104 := by have := HEV.out; omega
    have LM : Hid (w.heap.size ≤ m) := by rw [Hid]; have := (HB.out).size; omega
    have NK1 : Hid (gK1 ≠ m) := by rw [Hid]; have := (K1.out).inside; omega
    replace K1 := Lib.hid ((K1.out).keptB h1)
    replace HB := Lib.hid (bstep HB.out h1)
    have TB := Lib.hid ht
    clear ht hp hm h1 hwin
    by_cases hn : 400 < n
    · have dn : decide ((400 : Int) < (n : Int)) = true := decide_eq_true (by omega)
      clear hn
      go_wp2_with fail
      refine (alive8_any _).mono ?_
      rintro e ca ⟨rfl, hca⟩
      replace HB := Lib.hid (bstep HB.out hca)
      clear hca
      go_wp2
      try rw [Exit.noGoto_ret]
      go_ret
      exact ⟨rfl, HB.out⟩
    · have dn : decide ((400 : Int) < (n : Int)) = false := decide_eq_false (by omega)
      have hn4 : n ≤ 400 := by omega
      clear hn x8
      have HR : Hid (TabOk ([] : List Fe) ∧ InvB own []) := ⟨tab_nil, fun e he => by cases he⟩
      go_wp2
      clear dn
      go_loopg [33] n (fun gh i v => ∃ (j : Nat) (R : List Fe), j + gh = n ∧ i = .int .i64 j ∧ Hid (TabAt v p m own win R) ∧ Hid (TabOk R ∧ InvB own R) ∧ Hid (Holds v gK1 25 (#[.int .u8 own.b0, .int .u8 own.b1, .int .u8 own.b2, .int .u8 own.b3, .int .u8 own.b4, .int .u8 own.b5, .int .u8 own.b6, .int .u8 own.b7, .int .i64 every])) ∧ Hid (Below w.heap.size w v))
      case atStart => exact ⟨0, [], by omega, rfl, TB, HR, K1, HB⟩
      case round =>
        clear TB HR K1 HB
        obtain ⟨j, R, hj, rfl, TB, HR, K1, HB⟩ := hrel
        cases gk with
        | zero =>
          have hd : decide ((j : Int) < (n : Int)) = false := decide_eq_false (by omega)
          go_wp2_with fail
          refine (alive8_any _).mono ?_
          rintro e ca ⟨rfl, hca⟩
          replace HB := Lib.hid (bstep HB.out hca)
          clear hca
          go_wp2
          try rw [Exit.noGoto_ret]
          go_ret
          exact ⟨rfl, HB.out⟩
        | succ g1 =>
          have hlt : j < n := by omega
          have hd : decide ((j : Int) < (n : Int)) = true := decide_eq_true (by omega)
          obtain ⟨o, ho⟩ : ∃ o, l[j]? = some o := ⟨_, List.getElem?_eq_getElem (show j < l.length by have := (HLS.out).len; omega)⟩
          have HK := Lib.hid hlt
          have HKO := Lib.hid ((HLS.out).ok o (List.mem_of_getElem? ho))
          obtain ⟨g, f, hA, hcl⟩ := (HLS.out).at_ (by omega)
          subst hA
          have HP : Hid (∀ v, Below w.heap.size w v → v.rangeAt g (f + j * 34) (clA o).toList) := fun v hv => hcl.now hv ho
          clear hcl ho hlt
          go_upto_region 7 with (first | (refine big_fill rfl 39 _ _ rfl gK8 (opC o.kd o.now o.s) rfl rfl K8.out (by kernel_rfl) (by kernel_rfl) (by kernel_rfl) ?_; intro vK80 nK8 htK8; replace K8 := Lib.hid nK8; replace TB := Lib.hid ((TB.out).touch htK8 OTBK8.out); replace K1 := Lib.hid ((K1.out).touch htK8 OK1K8.out); replace HB := Lib.hid (btouch HB.out htK8 LK8.out); clear nK8 htK8) | (refine big_alloc rfl 39 rfl (opC 0 0 zeroR) (by kernel_rfl) ?_; intro gK8 wK8 hlK8 nK8 hbK8; have K8 := Lib.hid nK8; have LK8 := Lib.hid (Nat.le_trans (HB.out).size hlK8); have OTBK8 := Lib.hid ((TB.out).off hlK8); have OK1K8 := Lib.hid ((K1.out).off hlK8); replace TB := Lib.hid ((TB.out).keptB hbK8); replace K1 := Lib.hid ((K1.out).keptB hbK8); replace HB := Lib.hid (bstep HB.out hbK8); clear hlK8 nK8 hbK8) | (refine big_loadAt rfl 39 _ rfl g (f + j * 34) rfl (opC o.kd o.now o.s) (HP.out _ HB.out) Try.underlying39 rfl (by kernel_rfl) ?_) | (refine big_index rfl 26 _ _ rfl g f n c j 34 rfl rfl HK.out Try.underlying26 (by kernel_rfl) ?_))
          have N8 : Hid (gK8 ≠ m) := Ne.symm (OTBK8.out).2
          go_wp2_with (refine big_whole rfl 39 _ rfl gK8 rfl K8.out Try.underlying39 rfl (by kernel_rfl) ?_)
          have LZ := Lib.hid (HB.out).size
          refine (does8_any p m own win R o.kd o.now o.s _ (HR.out).1 TB.out (HKO.out).s.key h2 h3).mono ?_
          rintro e c1 ⟨rfl, ht, hoo⟩
          replace K1 := Lib.hid ((K1.out).only hoo (by have := NK1.out; simp; omega))
          replace K8 := Lib.hid ((K8.out).only hoo (by have := N8.out; simp; omega))
          replace HB := Lib.hid (bonly8 HB.out hoo LZ.out (by have := LM.out; simpa using this))
          clear hoo LZ
          have HR2 : Hid (TabOk (doE own win R o.kd o.now o.s).2 ∧ InvB own (doE own win R o.kd o.now o.s).2) := ⟨doE_ok (HR.out).1 _ _ (HKO.out).s, doE_inv (HR.out).2 _ _ _⟩
          obtain ⟨R2, hR2⟩ : ∃ x, (doE own win R o.kd o.now o.s).2 = x := ⟨_, rfl⟩
          rw [hR2] at ht HR2
          replace TB := Lib.hid ht
          clear ht hR2 HR
          have x1 := (K8.out).reads (i := 1) (x := .int .i64 o.now) rfl
          have d5 : decide ((5 : Int) < (R2.length : Int)) = false := decide_eq_false (by have := (HR2.out).1.len; omega)
          have d6 : decide ((R2.length : Int) ≤ 5) = true := decide_eq_true (by have := (HR2.out).1.len; omega)
          go_wp2_with fail
          refine (len8_any p m own win R2 _ TB.out).mono ?_
          rintro e c2 ⟨rfl, rfl⟩
          go_wp2_with fail
          refine (far8_any o.now _).mono ?_
          rintro e c3 ⟨rfl, rfl⟩
          cases hf : farB o.now
          · clear hf d5 d6
            go_wp2_with fail
            refine (qual8_any p m own win R2 o.now _ (HR2.out).1 TB.out ((HKO.out).n1) h2 h3).mono ?_
            rintro e c5 ⟨q, rfl, hq, h5⟩
            have HT2 : Hid (∀ s ∈ toldE R2 win o.now, ∃ e ∈ R2, e.s = s) := fun s hs => by
              obtain ⟨e, he, h1, _⟩ := told_mem hs
              exact ⟨e, he, h1⟩
            have HT5 := Lib.hid (told_len (HR2.out).1 win o.now)
            obtain ⟨T2, hT2⟩ : ∃ x, toldE R2 win o.now = x := ⟨_, rfl⟩
            rw [hT2] at hq HT2 HT5
            clear hT2 x1
            replace TB := Lib.hid ((TB.out).keptB h5)
            replace K1 := Lib.hid ((K1.out).keptB h5)
            replace HB := Lib.hid (bstep HB.out h5)
            clear h5 K8 LK8 OTBK8 OK1K8
            have QS := Lib.hid hq
            obtain ⟨A2, n2, c2, rfl, hn2, _⟩ := hq
            have HN2 : Hid (T2.length = n2) := hn2
            clear hn2
            have hn5 : n2 ≤ 5 := by have := HN2.out; have := HT5.out; omega
            go_wp2
            go_loopg [59] n2 (fun gh i v => ∃ k : Nat, k + gh = n2 ∧ i = .int .i64 k ∧ Hid (SetsIn v (.slice A2 n2 c2) T2) ∧ Hid (TabAt v p m own win R2) ∧ Hid (Holds v gK1 25 (#[.int .u8 own.b0, .int .u8 own.b1, .int .u8 own.b2, .int .u8 own.b3, .int .u8 own.b4, .int .u8 own.b5, .int .u8 own.b6, .int .u8 own.b7, .int .i64 every])) ∧ Hid (Below w.heap.size w v))
            case atStart => exact ⟨0, by omega, rfl, QS, TB, K1, HB⟩
            case round =>
              clear QS TB K1 HB
              obtain ⟨k, hk, rfl, QS, TB, K1, HB⟩ := hrel
              cases gk with
              | zero =>
                have hd2 : decide ((k : Int) < (n2 : Int)) = false := decide_eq_false (by omega)
                go_wp2
                go_roundg g1
                case measure => omega
                case rel => exact ⟨j + 1, R2, by omega, by go_num, TB, HR2, K1, HB⟩
              | succ g3 =>
                have hlt2 : k < n2 := by omega
                have hd2 : decide ((k : Int) < (n2 : Int)) = true := decide_eq_true (by omega)
                obtain ⟨s, hs⟩ : ∃ s, T2[k]? = some s := ⟨_, List.getElem?_eq_getElem (show k < T2.length by have := HN2.out; omega)⟩
                have HS := Lib.hid hs
                have HK2 := Lib.hid hlt2
                obtain ⟨e0, he0, hes⟩ := (HT2.out) s (List.mem_of_getElem? hs)
                have HI := Lib.hid ((HR2.out).2 e0 he0)
                rw [hes] at HI
                clear hs hes he0
                have dst : decide (s.st < 0) = false := decide_eq_false (by have := HI.out; omega)
                have dst2 : decide (255 ≤ s.st) = false := decide_eq_false (by have := HI.out; omega)
                obtain ⟨g2, o2, hA2, _⟩ : ∃ g o, A2 = some ⟨g, o, none⟩ ∧ True := by
                  obtain ⟨_, _, _, h1, _, h3⟩ := QS.out
                  cases h1
                  obtain ⟨g, o, ha, _⟩ := h3 (by omega)
                  exact ⟨g, o, ha, trivial⟩
                subst hA2
                have HPS := Lib.hid (sets_in QS.out HS.out)
                clear hlt2
                go_upto_region 13 with (first | (refine big_fill rfl 37 _ _ rfl gK10 (rsA s) rfl rfl K10.out (by kernel_rfl) (by kernel_rfl) (by kernel_rfl) ?_; intro vK100 nK10 htK10; replace K10 := Lib.hid nK10; replace QS := Lib.hid ((QS.out).touch htK10 OQSK10.out); replace TB := Lib.hid ((TB.out).touch htK10 OTBK10.out); replace K1 := Lib.hid ((K1.out).touch htK10 OK1K10.out); replace HB := Lib.hid (btouch HB.out htK10 LK10.out); clear nK10 htK10) | (refine big_alloc rfl 37 rfl (rsA zeroR) (by kernel_rfl) ?_; intro gK10 wK10 hlK10 nK10 hbK10; have K10 := Lib.hid nK10; have LK10 := Lib.hid (Nat.le_trans (HB.out).size hlK10); have OQSK10 := Lib.hid ((QS.out).off hlK10); have OTBK10 := Lib.hid ((TB.out).off hlK10); have OK1K10 := Lib.hid ((K1.out).off hlK10); replace QS := Lib.hid ((QS.out).keptB hbK10); replace TB := Lib.hid ((TB.out).keptB hbK10); replace K1 := Lib.hid ((K1.out).keptB hbK10); replace HB := Lib.hid (bstep HB.out hbK10); clear hlK10 nK10 hbK10) | (refine big_loadAt rfl 37 _ rfl g2 (o2 + k * 32) rfl (rsA s) HPS.out Try.underlying37 rfl (by kernel_rfl) ?_) | (refine big_index rfl 43 _ _ rfl g2 o2 n2 c2 k 32 rfl rfl HK2.out Try.underlying43 (by kernel_rfl) ?_))
                have x13 := (K10.out).reads (i := 13) (x := .int .i64 s.st) rfl
                go_wp2_with (first | (refine big_cmp rfl .eql 23 _ _ _ rfl (#[.int .u8 s.sn.c.b0, .int .u8 s.sn.c.b1, .int .u8 s.sn.c.b2, .int .u8 s.sn.c.b3, .int .u8 s.sn.c.b4, .int .u8 s.sn.c.b5, .int .u8 s.sn.c.b6, .int .u8 s.sn.c.b7]) (#[.int .u8 own.b0, .int .u8 own.b1, .int .u8 own.b2, .int .u8 own.b3, .int .u8 own.b4, .int .u8 own.b5, .int .u8 own.b6, .int .u8 own.b7]) rfl rfl (by kernel_rfl) false (fun v => (eql_clock s.sn.c own v).trans (by rw [(HI.out).1])) ?_) | (refine big_load rfl 23 _ rfl gK10 14 rfl K10.out [.int .u8 s.sn.c.b0, .int .u8 s.sn.c.b1, .int .u8 s.sn.c.b2, .int .u8 s.sn.c.b3, .int .u8 s.sn.c.b4, .int .u8 s.sn.c.b5, .int .u8 s.sn.c.b6, .int .u8 s.sn.c.b7] rfl Try.underlying23 rfl (by kernel_rfl) ?_) | (refine big_load rfl 23 _ rfl gK1 0 rfl K1.out [.int .u8 own.b0, .int .u8 own.b1, .int .u8 own.b2, .int .u8 own.b3, .int .u8 own.b4, .int .u8 own.b5, .int .u8 own.b6, .int .u8 own.b7] rfl Try.underlying23 rfl (by kernel_rfl) ?_))
                clear x13 K10 LK10 OQSK10 OTBK10 OK1K10
                go_roundg g3
                case measure => omega
                case rel => exact ⟨k + 1, by omega, by go_num, QS, TB, K1, HB⟩
          · clear hf
            go_wp2_with fail
            refine (len8_any p m own win R2 _ TB.out).mono ?_
            rintro e c4 ⟨rfl, rfl⟩
            go_wp2_with fail
            refine (alive8_any _).mono ?_
            rintro e ca ⟨rfl, hca⟩
            replace HB := Lib.hid (bstep HB.out hca)
            clear hca
            go_wp2
            try rw [Exit.noGoto_ret]
            go_ret
            exact ⟨rfl, HB.out⟩

end Go.Proofs.Ytnddmaadmibpeaa
