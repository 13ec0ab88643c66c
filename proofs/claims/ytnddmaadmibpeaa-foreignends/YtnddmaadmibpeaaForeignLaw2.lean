/- The walk over ForeignEnds. -/
import Derived.Test.YtnddmaadmibpeaaForeignInv
import Derived.Test.YtnddmaadmibpeaaForeignAlive
import Derived.Deep.DeepCutAuto
import Derived.Deep.LoopGhost
namespace Go.Proofs.Ytnddmaadmibpeaa
set_option maxRecDepth 100000
open Go.RowKit
set_option linter.unusedVariables false
set_option linter.unusedSimpArgs false

set_option maxHeartbeats 4000000 in
theorem ends8 (own : Ck) (every : Int) (A : Option Addr) (n c : Nat) (l : List Cl) (w : World) (hl : ClsOk w A n c l) :
    Calls Try.prog 4 #[.agg #[.int .u8 own.b0, .int .u8 own.b1, .int .u8 own.b2, .int .u8 own.b3, .int .u8 own.b4, .int .u8 own.b5, .int .u8 own.b6, .int .u8 own.b7, .int .i64 every], .slice A n c] w fun e w' => e = .returned (.bool true) ∧ Below w.heap.size w w' := by
  have HLS := Lib.hid hl
  clear hl
  have HB := Lib.hid (Below.refl w.heap.size w)
  go_enter Try.func4, Try.ntmps4
  go_upto_region 1 with ((refine big_box rfl 25 _ rfl (#[.int .u8 own.b0, .int .u8 own.b1, .int .u8 own.b2, .int .u8 own.b3, .int .u8 own.b4, .int .u8 own.b5, .int .u8 own.b6, .int .u8 own.b7, .int .i64 every]) rfl (by kernel_rfl) ?_; intro gK1 wK1 hlK1 nK1 hbK1; have K1 := Lib.hid nK1; have LK1 := Lib.hid (Nat.le_trans (HB.out).size hlK1); replace HB := Lib.hid (bstep HB.out hbK1); clear hlK1 nK1 hbK1))
  have x8 := (K1.out).reads (i := 8) (x := .int .i64 every) rfl
  by_cases hev : every < 1 ∨ 1099511627776 < every
  · go_wp2_with ((refine big_load rfl 23 _ rfl gK1 0 rfl K1.out [.int .u8 own.b0, .int .u8 own.b1, .int .u8 own.b2, .int .u8 own.b3, .int .u8 own.b4, .int .u8 own.b5, .int .u8 own.b6, .int .u8 own.b7] rfl Try.underlying23 rfl (by kernel_rfl) ?_))
    refine (new8_no own every _ (by omega)).mono ?_
    rintro e w1 ⟨rfl, h1⟩
    replace HB := Lib.hid (bstep HB.out h1)
    clear h1 hev
    go_wp2_with fail
    refine (alive8_any _).mono ?_
    rintro e ca ⟨rfl, hca⟩
    replace HB := Lib.hid (bstep HB.out hca)
    clear hca
    go_wp2
    try rw [Exit.noGoto_ret]
    go_ret
    exact ⟨rfl, HB.out⟩
  · have HEV : Hid (1 ≤ every ∧ every ≤ 1099511627776) := by rw [Hid]; omega
    clear hev
    go_wp2_with ((refine big_load rfl 23 _ rfl gK1 0 rfl K1.out [.int .u8 own.b0, .int .u8 own.b1, .int .u8 own.b2, .int .u8 own.b3, .int .u8 own.b4, .int .u8 own.b5, .int .u8 own.b6, .int .u8 own.b7] rfl Try.underlying23 rfl (by kernel_rfl) ?_))
    refine (new8_yes own every _ (HEV.out).1 (HEV.out).2).mono ?_
    rintro e w1 ⟨p, m, rfl, ht, hp, hm, h1⟩
    obtain ⟨win, hwin⟩ : ∃ x, 4 * every = x := ⟨_, rfl⟩
    rw [hwin] at ht
    have HW : Hid (4 * every = win) := hwin
    have h2 : 0 ≤ win := by have := HEV.out; omega
    have h3 : win ≤ 4398046511104 := by have := HEV.out; omega
    have LM : Hid (w.heap.size ≤ m) := by rw [Hid]; have := (HB.out).size; omega
    have NK1 : Hid (gK1 ≠ m) := by rw [Hid]; have := (K1.out).inside; omega
    replace K1 := Lib.hid ((K1.out).keptB h1)
    replace HB := Lib.hid (bstep HB.out h1)
    have TB := Lib.hid ht
    clear ht hp hm h1 hwin
    by_cases hn : 400 < n
    · have dn : decide ((400 : Int) < (n : Int)) = true := decide_eq_true (by omega)
      clear hn
      go_wp2_with fail
      refine (alive8_any _).mono ?_
      rintro e ca ⟨rfl, hca⟩
      replace HB := Lib.hid (bstep HB.out hca)
      clear hca
      go_wp2
      try rw [Exit.noGoto_ret]
      go_ret
      exact ⟨rfl, HB.out⟩
    · have dn : decide ((400 : Int) < (n : Int)) = false := decide_eq_false (by omega)
      have hn4 : n ≤ 400 := by omega
      have e1 := (HEV.out).1
      have e2 := (HEV.out).2
      clear hn x8
      have HR : Hid (TabOk ([] : List Fe) ∧ LastB 0 []) := ⟨tab_nil, fun e he => by cases he⟩
      go_wp2
      clear dn
      go_loopg [7, 32] n (fun gh s i v => ∃ (j : Nat) (R : List Fe) (last : Int), j + gh = n ∧ s = .int .i64 last ∧ i = .int .i64 j ∧ 0 ≤ last ∧ last ≤ 1152921504606846976 ∧ Hid (TabAt v p m own win R) ∧ Hid (TabOk R ∧ LastB last R) ∧ Hid (Holds v gK1 25 (#[.int .u8 own.b0, .int .u8 own.b1, .int .u8 own.b2, .int .u8 own.b3, .int .u8 own.b4, .int .u8 own.b5, .int .u8 own.b6, .int .u8 own.b7, .int .i64 every])) ∧ Hid (Below w.heap.size w v))
      case atStart => exact ⟨0, [], 0, by omega, rfl, rfl, by omega, by omega, TB, HR, K1, HB⟩
      case round =>
        clear TB HR K1 HB
        obtain ⟨j, R, last, hj, rfl, rfl, l0, l1, TB, HR, K1, HB⟩ := hrel
        cases gk with
        | zero =>
          have hd : decide ((j : Int) < (n : Int)) = false := decide_eq_false (by omega)
          go_wp2_with fail
          refine (alive8_any _).mono ?_
          rintro e ca ⟨rfl, hca⟩
          replace TB := Lib.hid ((TB.out).keptB hca)
          replace K1 := Lib.hid ((K1.out).keptB hca)
          replace HB := Lib.hid (bstep HB.out hca)
          clear hca
          have x8 := (K1.out).reads (i := 8) (x := .int .i64 every) rfl
          go_wp2_with fail
          refine (qual8_any p m own win R (last + 4 * every) _ (HR.out).1 TB.out (by omega) h2 h3).mono ?_
          rintro e c5 ⟨q, rfl, hq, h5⟩
          rw [HW.out, told_none (HR.out).2] at hq
          obtain ⟨A2, n2, c2, rfl, hn2, _⟩ := hq
          obtain rfl : 0 = n2 := hn2
          replace HB := Lib.hid (bstep HB.out h5)
          clear h5
          go_wp2
          try rw [Exit.noGoto_ret]
          go_ret
          exact ⟨rfl, HB.out⟩
        | succ g1 =>
          have hlt : j < n := by omega
          have hd : decide ((j : Int) < (n : Int)) = true := decide_eq_true (by omega)
          obtain ⟨o, ho⟩ : ∃ o, l[j]? = some o := ⟨_, List.getElem?_eq_getElem (show j < l.length by have := (HLS.out).len; omega)⟩
          have HK := Lib.hid hlt
          have HKO := Lib.hid ((HLS.out).ok o (List.mem_of_getElem? ho))
          obtain ⟨g, f, hA, hcl⟩ := (HLS.out).at_ (by omega)
          subst hA
          have HP : Hid (∀ v, Below w.heap.size w v → v.rangeAt g (f + j * 34) (clA o).toList) := fun v hv => hcl.now hv ho
          clear hcl ho hlt
          go_upto_region 8 with (first | (refine big_fill rfl 39 _ _ rfl gK8 (opC o.kd o.now o.s) rfl rfl K8.out (by kernel_rfl) (by kernel_rfl) (by kernel_rfl) ?_; intro vK80 nK8 htK8; replace K8 := Lib.hid nK8; replace TB := Lib.hid ((TB.out).touch htK8 OTBK8.out); replace K1 := Lib.hid ((K1.out).touch htK8 OK1K8.out); replace HB := Lib.hid (btouch HB.out htK8 LK8.out); clear nK8 htK8) | (refine big_alloc rfl 39 rfl (opC 0 0 zeroR) (by kernel_rfl) ?_; intro gK8 wK8 hlK8 nK8 hbK8; have K8 := Lib.hid nK8; have LK8 := Lib.hid (Nat.le_trans (HB.out).size hlK8); have OTBK8 := Lib.hid ((TB.out).off hlK8); have OK1K8 := Lib.hid ((K1.out).off hlK8); replace TB := Lib.hid ((TB.out).keptB hbK8); replace K1 := Lib.hid ((K1.out).keptB hbK8); replace HB := Lib.hid (bstep HB.out hbK8); clear hlK8 nK8 hbK8) | (refine big_loadAt rfl 39 _ rfl g (f + j * 34) rfl (opC o.kd o.now o.s) (HP.out _ HB.out) Try.underlying39 rfl (by kernel_rfl) ?_) | (refine big_index rfl 26 _ _ rfl g f n c j 34 rfl rfl HK.out Try.underlying26 (by kernel_rfl) ?_))
          have N8 : Hid (gK8 ≠ m) := Ne.symm (OTBK8.out).2
          have x1 := (K8.out).reads (i := 1) (x := .int .i64 o.now) rfl
          by_cases hf : 1152921504606846976 < o.now
          · have df : decide (1152921504606846976 < o.now) = true := decide_eq_true hf
            clear hf
            go_wp2_with fail
            refine (alive8_any _).mono ?_
            rintro e ca ⟨rfl, hca⟩
            replace HB := Lib.hid (bstep HB.out hca)
            clear hca
            go_wp2
            try rw [Exit.noGoto_ret]
            go_ret
            exact ⟨rfl, HB.out⟩
          · have df : decide (1152921504606846976 < o.now) = false := decide_eq_false hf
            have HF : Hid (o.now ≤ 1152921504606846976) := by rw [Hid]; omega
            clear hf
            go_wp2_with (refine big_whole rfl 39 _ rfl gK8 rfl K8.out Try.underlying39 rfl (by kernel_rfl) ?_)
            have LZ := Lib.hid (HB.out).size
            refine (does8_any p m own win R o.kd o.now o.s _ (HR.out).1 TB.out (HKO.out).s.key h2 h3).mono ?_
            rintro e c1 ⟨rfl, ht, hoo⟩
            replace K1 := Lib.hid ((K1.out).only hoo (by have := NK1.out; simp; omega))
            replace K8 := Lib.hid ((K8.out).only hoo (by have := N8.out; simp; omega))
            replace HB := Lib.hid (bonly8 HB.out hoo LZ.out (by have := LM.out; simpa using this))
            clear hoo LZ
            have x1 := (K8.out).reads (i := 1) (x := .int .i64 o.now) rfl
            have HR2 : Hid (TabOk (doE own win R o.kd o.now o.s).2 ∧ LastB (max last o.now) (doE own win R o.kd o.now o.s).2) := ⟨doE_ok (HR.out).1 _ _ (HKO.out).s, doE_last (HR.out).2 _ _ _ (by omega) (by omega)⟩
            replace TB := Lib.hid ht
            clear ht HR df
            go_wp2
            go_roundg g1
            case measure => omega
            case rel => exact ⟨j + 1, _, (max last o.now), by omega, rfl, by go_num, by omega, by have := HF.out; omega, TB, HR2, K1, HB⟩

end Go.Proofs.Ytnddmaadmibpeaa
