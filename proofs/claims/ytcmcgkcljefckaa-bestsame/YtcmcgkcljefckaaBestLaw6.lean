/- The walk over BestSame. -/
import Derived.Test.YtcmcgkcljefckaaBestLaw1
import Derived.Test.YtcmcgkcljefckaaBestSameB
import Derived.Deep.DeepCutAuto
import Derived.Deep.LoopGhost
import Derived.WalkMore
namespace Go.Proofs.Ytcmcgkcljefckaa
set_option maxRecDepth 100000
open Go.RowKit
set_option linter.unusedVariables false
set_option linter.unusedSimpArgs false

set_option maxHeartbeats 4000000 in
theorem same9 (A : Option Addr) (n c : Nat) (l : List Rs) (r : Pt) (w : World) (hl : SetsOk w A n c l) (hr : r.c.ok) :
    Calls Try.prog 8 #[.slice A n c, .agg (ptA r)] w fun e w' => e = .returned (.bool true) ∧ Below w.heap.size w w' := by
  have SL := Lib.hid hl
  have HR := Lib.hid hr
  clear hl hr
  have HB := Lib.hid (Below.refl w.heap.size w)
  have SI := Lib.hid (sets_ok_in SL.out)
  have HO := Lib.hid (SL.out).ok
  have HLN := Lib.hid (SL.out).len
  go_enter Try.func8, Try.ntmps8
  go_upto_region 1 with ((refine big_box rfl 26 _ rfl (ptA r) rfl (by kernel_rfl) ?_; intro gK3 wK3 hlK3 nK3 hbK3; have K3 := Lib.hid nK3; have LK3 := Lib.hid (Nat.le_trans (HB.out).size hlK3); have OSIK3 := Lib.hid ((SI.out).off hlK3); replace SI := Lib.hid ((SI.out).keptB hbK3); replace HB := Lib.hid (bstep HB.out hbK3); clear hlK3 nK3 hbK3; try simp only [Act.put, List.setIfInBounds_toArray, List.set_cons_zero, List.set_cons_succ]))
  by_cases hn : 60 < n
  · have d : decide ((60 : Int) < (n : Int)) = true := decide_eq_true (by omega)
    clear hn
    go_wp2_with fail
    refine (alive9_any _).mono ?_
    rintro e c1 ⟨rfl, hc1⟩
    replace K3 := Lib.hid ((K3.out).keptB hc1)
    replace HB := Lib.hid (bstep HB.out hc1)
    clear hc1
    go_wp2
    try rw [Exit.noGoto_ret]
    go_ret
    exact ⟨rfl, HB.out⟩
  · have d : decide ((60 : Int) < (n : Int)) = false := decide_eq_false (by omega)
    have HN : Hid (n ≤ 60) := by rw [Hid]; omega
    clear hn
    have hn60 : n ≤ 60 := HN.out
    go_wp2_with ((refine big_load rfl 26 _ rfl gK3 0 rfl K3.out [.int .u8 r.c.b0, .int .u8 r.c.b1, .int .u8 r.c.b2, .int .u8 r.c.b3, .int .u8 r.c.b4, .int .u8 r.c.b5, .int .u8 r.c.b6, .int .u8 r.c.b7, .int .i64 r.n] rfl Try.underlying26 rfl (by kernel_rfl) ?_; try simp only [Act.put, List.setIfInBounds_toArray, List.set_cons_zero, List.set_cons_succ]))
    refine (pport9_any A n c l r _ HO.out (by have := HN.out; omega) HR.out SI.out).mono ?_
    rintro e c1 ⟨rfl, hc1⟩
    replace SI := Lib.hid ((SI.out).keptB hc1)
    replace K3 := Lib.hid ((K3.out).keptB hc1)
    replace HB := Lib.hid (bstep HB.out hc1)
    clear hc1
    obtain ⟨⟨cs, ci⟩, HC⟩ : ∃ x, Hid (portN l r = x) := ⟨_, Lib.hid rfl⟩
    rw [HC.out]
    cases ci
    · have HZ : Hid (cs = zeroR) := by
        rcases portN_cases l r with h | ⟨a, _, h, _⟩
        · rw [HC.out] at h; exact congrArg Ch.s h
        · rw [HC.out] at h; cases congrArg Ch.is h
      go_upto_region 5 with (first | (refine big_fill rfl 34 _ _ rfl gK5 (chA ⟨cs, false⟩) rfl rfl K5.out (by kernel_rfl) (by kernel_rfl) (by kernel_rfl) ?_; intro vK50 nK5 htK5; replace K5 := Lib.hid nK5; replace SI := Lib.hid ((SI.out).touch htK5 OSIK5.out); replace K3 := Lib.hid ((K3.out).touch htK5 OK3K5.out); replace HB := Lib.hid (btouch HB.out htK5 LK5.out); clear nK5 htK5; try simp only [Act.put, List.setIfInBounds_toArray, List.set_cons_zero, List.set_cons_succ]) | (refine big_alloc rfl 34 rfl (chA zeroCh) (by kernel_rfl) ?_; intro gK5 wK5 hlK5 nK5 hbK5; have K5 := Lib.hid nK5; have LK5 := Lib.hid (Nat.le_trans (HB.out).size hlK5); have OSIK5 := Lib.hid ((SI.out).off hlK5); have OK3K5 := Lib.hid ((K3.out).off hlK5); replace SI := Lib.hid ((SI.out).keptB hbK5); replace K3 := Lib.hid ((K3.out).keptB hbK5); replace HB := Lib.hid (bstep HB.out hbK5); clear hlK5 nK5 hbK5; try simp only [Act.put, List.setIfInBounds_toArray, List.set_cons_zero, List.set_cons_succ]))
      clear d
      go_wp2
      go_loopg [6, 18] n (fun gh s i v => ∃ (j : Nat), j + gh = n ∧ s = .bool (anyS (l.take j) r cs) ∧ i = .int .i64 j ∧ Hid (SetsIn v (.slice A n c) l) ∧ Hid (Holds v gK3 26 (ptA r)) ∧ Hid (Holds v gK5 34 (chA ⟨cs, false⟩)) ∧ Hid (Below w.heap.size w v))
      case atStart => exact ⟨0, by omega, rfl, rfl, SI, K3, K5, HB⟩
      case round =>
        clear SI K3 K5 HB
        obtain ⟨j, hj, rfl, rfl, SI, K3, K5, HB⟩ := hrel
        cases gk with
        | zero =>
          have hd : decide ((j : Int) < (n : Int)) = false := decide_eq_false (by omega)
          obtain rfl : j = n := by omega
          rw [List.take_of_length_le (by have := HLN.out; omega)]
          go_wp2_with fail
          refine (alive9_any _).mono ?_
          rintro e c1 ⟨rfl, hc1⟩
          replace K5 := Lib.hid ((K5.out).keptB hc1)
          replace HB := Lib.hid (bstep HB.out hc1)
          clear hc1
          have x32 := (K5.out).reads (i := 32) (x := .bool false) rfl
          have GATE : Hid True := trivial
          go_wp2_with (first | (have _ := GATE.out; refine big_cmp rfl .eql 31 _ _ _ rfl (rsA cs) (rsA zeroR) rfl rfl (by kernel_rfl) true (fun v => (eql_setR cs zeroR v).trans (by rw [HZ.out, eqR_self])) ?_; clear GATE; try simp only [Act.put, List.setIfInBounds_toArray, List.set_cons_zero, List.set_cons_succ]) | (have _ := GATE.out; refine big_build rfl 31 _ rfl (rsA zeroR) (by kernel_rfl) ?_; try simp only [Act.put, List.setIfInBounds_toArray, List.set_cons_zero, List.set_cons_succ]) | (have _ := GATE.out; refine big_load rfl 31 _ rfl gK5 0 rfl K5.out [.int .i64 cs.p1, .int .i64 cs.p2, .int .i64 cs.q1, .int .i64 cs.q2, .int .i64 cs.q3, .int .u8 cs.gr.b0, .int .u8 cs.gr.b1, .int .u8 cs.gr.b2, .int .u8 cs.gr.b3, .int .u8 cs.gr.b4, .int .u8 cs.gr.b5, .int .u8 cs.gr.b6, .int .u8 cs.gr.b7, .int .i64 cs.st, .int .u8 cs.sn.c.b0, .int .u8 cs.sn.c.b1, .int .u8 cs.sn.c.b2, .int .u8 cs.sn.c.b3, .int .u8 cs.sn.c.b4, .int .u8 cs.sn.c.b5, .int .u8 cs.sn.c.b6, .int .u8 cs.sn.c.b7, .int .i64 cs.sn.n, .int .u8 cs.rc.c.b0, .int .u8 cs.rc.c.b1, .int .u8 cs.rc.c.b2, .int .u8 cs.rc.c.b3, .int .u8 cs.rc.c.b4, .int .u8 cs.rc.c.b5, .int .u8 cs.rc.c.b6, .int .u8 cs.rc.c.b7, .int .i64 cs.rc.n] rfl Try.underlying31 rfl (by kernel_rfl) ?_; try simp only [Act.put, List.setIfInBounds_toArray, List.set_cons_zero, List.set_cons_succ]))
          go_wp2
          try rw [Exit.noGoto_ret]
          go_ret
          exact ⟨rfl, HB.out⟩
        | succ g1 =>
          have hlt : j < n := by omega
          have hd : decide ((j : Int) < (n : Int)) = true := decide_eq_true (by omega)
          obtain ⟨a, ha⟩ : ∃ a, l[j]? = some a := ⟨_, List.getElem?_eq_getElem (show j < l.length by have := HLN.out; omega)⟩
          have HA := Lib.hid ha
          have HK := Lib.hid hlt
          obtain ⟨g, o, hA⟩ : ∃ g o, A = some ⟨g, o, none⟩ := by
            obtain ⟨_, _, _, h1, _, h3⟩ := SI.out
            cases h1
            obtain ⟨g, o, h4, _⟩ := h3 (by omega)
            exact ⟨g, o, h4⟩
          subst hA
          have HST := Lib.hid (anyS_step (r := r) (c := cs) ha)
          clear ha hlt
          obtain ⟨b, HE⟩ : ∃ b, Hid (eqR (recv r a) cs = b) := ⟨_, Lib.hid rfl⟩
          rw [HE.out] at HST
          go_upto_region 8 with (first | (refine big_fill rfl 31 _ _ rfl gK8 (rsA a) rfl rfl K8.out (by kernel_rfl) (by kernel_rfl) (by kernel_rfl) ?_; intro vK80 nK8 htK8; replace K8 := Lib.hid nK8; replace SI := Lib.hid ((SI.out).touch htK8 OSIK8.out); replace K3 := Lib.hid ((K3.out).touch htK8 OK3K8.out); replace K5 := Lib.hid ((K5.out).touch htK8 OK5K8.out); replace HB := Lib.hid (btouch HB.out htK8 LK8.out); clear nK8 htK8; try simp only [Act.put, List.setIfInBounds_toArray, List.set_cons_zero, List.set_cons_succ]) | (refine big_alloc rfl 31 rfl (rsA zeroR) (by kernel_rfl) ?_; intro gK8 wK8 hlK8 nK8 hbK8; have K8 := Lib.hid nK8; have LK8 := Lib.hid (Nat.le_trans (HB.out).size hlK8); have OSIK8 := Lib.hid ((SI.out).off hlK8); have OK3K8 := Lib.hid ((K3.out).off hlK8); have OK5K8 := Lib.hid ((K5.out).off hlK8); replace SI := Lib.hid ((SI.out).keptB hbK8); replace K3 := Lib.hid ((K3.out).keptB hbK8); replace K5 := Lib.hid ((K5.out).keptB hbK8); replace HB := Lib.hid (bstep HB.out hbK8); clear hlK8 nK8 hbK8; try simp only [Act.put, List.setIfInBounds_toArray, List.set_cons_zero, List.set_cons_succ]) | (refine big_loadAt rfl 31 _ rfl g (o + j * 32) rfl (rsA a) (set_in SI.out HA.out) Try.underlying31 rfl (by kernel_rfl) ?_; try simp only [Act.put, List.setIfInBounds_toArray, List.set_cons_zero, List.set_cons_succ]) | (refine big_index rfl 22 _ _ rfl g o n c j 32 rfl rfl HK.out Try.underlying22 (by kernel_rfl) ?_; try simp only [Act.put, List.setIfInBounds_toArray, List.set_cons_zero, List.set_cons_succ]))
          go_upto_region 9 with (first | (refine big_store rfl 26 _ _ rfl gK8 23 [.int .u8 r.c.b0, .int .u8 r.c.b1, .int .u8 r.c.b2, .int .u8 r.c.b3, .int .u8 r.c.b4, .int .u8 r.c.b5, .int .u8 r.c.b6, .int .u8 r.c.b7, .int .i64 r.n] rfl rfl K8.out (by kernel_rfl) (by kernel_rfl) (of_decide_eq_true (by kernel_rfl)) (rsA (recv r a)) (by kernel_rfl) ?_; intro vK80 nK8 htK8; replace K8 := Lib.hid nK8; replace SI := Lib.hid ((SI.out).touch htK8 OSIK8.out); replace K3 := Lib.hid ((K3.out).touch htK8 OK3K8.out); replace K5 := Lib.hid ((K5.out).touch htK8 OK5K8.out); replace HB := Lib.hid (btouch HB.out htK8 LK8.out); clear nK8 htK8; try simp only [Act.put, List.setIfInBounds_toArray, List.set_cons_zero, List.set_cons_succ]) | (refine big_load rfl 26 _ rfl gK3 0 rfl K3.out [.int .u8 r.c.b0, .int .u8 r.c.b1, .int .u8 r.c.b2, .int .u8 r.c.b3, .int .u8 r.c.b4, .int .u8 r.c.b5, .int .u8 r.c.b6, .int .u8 r.c.b7, .int .i64 r.n] rfl Try.underlying26 rfl (by kernel_rfl) ?_; try simp only [Act.put, List.setIfInBounds_toArray, List.set_cons_zero, List.set_cons_succ]))
          have x32 := (K5.out).reads (i := 32) (x := .bool false) rfl
          cases hf : anyS (l.take j) r cs
          · have HG := Lib.hid hf
            clear hf
            have HS2 : Hid (anyS (l.take (j + 1)) r cs = b) := by rw [Hid, HST.out, HG.out]; simp
            have GATE : Hid True := trivial
            go_upto_region 10 with (first | (have _ := GATE.out; refine big_cmp rfl .eql 31 _ _ _ rfl (rsA (recv r a)) (rsA cs) rfl rfl (by kernel_rfl) b (fun v => (eql_setR (recv r a) cs v).trans (by rw [HE.out])) ?_; clear GATE; try simp only [Act.put, List.setIfInBounds_toArray, List.set_cons_zero, List.set_cons_succ]) | (have _ := GATE.out; refine big_whole rfl 31 _ rfl gK8 rfl K8.out Try.underlying31 rfl (by kernel_rfl) ?_; try simp only [Act.put, List.setIfInBounds_toArray, List.set_cons_zero, List.set_cons_succ]) | (have _ := GATE.out; refine big_load rfl 31 _ rfl gK5 0 rfl K5.out [.int .i64 cs.p1, .int .i64 cs.p2, .int .i64 cs.q1, .int .i64 cs.q2, .int .i64 cs.q3, .int .u8 cs.gr.b0, .int .u8 cs.gr.b1, .int .u8 cs.gr.b2, .int .u8 cs.gr.b3, .int .u8 cs.gr.b4, .int .u8 cs.gr.b5, .int .u8 cs.gr.b6, .int .u8 cs.gr.b7, .int .i64 cs.st, .int .u8 cs.sn.c.b0, .int .u8 cs.sn.c.b1, .int .u8 cs.sn.c.b2, .int .u8 cs.sn.c.b3, .int .u8 cs.sn.c.b4, .int .u8 cs.sn.c.b5, .int .u8 cs.sn.c.b6, .int .u8 cs.sn.c.b7, .int .i64 cs.sn.n, .int .u8 cs.rc.c.b0, .int .u8 cs.rc.c.b1, .int .u8 cs.rc.c.b2, .int .u8 cs.rc.c.b3, .int .u8 cs.rc.c.b4, .int .u8 cs.rc.c.b5, .int .u8 cs.rc.c.b6, .int .u8 cs.rc.c.b7, .int .i64 cs.rc.n] rfl Try.underlying31 rfl (by kernel_rfl) ?_; try simp only [Act.put, List.setIfInBounds_toArray, List.set_cons_zero, List.set_cons_succ]))
            go_wp2_with fail
            go_roundg g1
            case measure => omega
            case rel => exact ⟨j + 1, by omega, by rw [HS2.out], by go_num, SI, K3, K5, HB⟩
          · have HG := Lib.hid hf
            clear hf
            have HS2 : Hid (anyS (l.take (j + 1)) r cs = true) := by rw [Hid, HST.out, HG.out]; simp
            go_upto_region 10 with fail
            go_wp2_with fail
            go_roundg g1
            case measure => omega
            case rel => exact ⟨j + 1, by omega, by rw [HS2.out], by go_num, SI, K3, K5, HB⟩
    · obtain ⟨HF, HFL, HOC⟩ : Hid (anyS l r cs = true) ∧ Hid (∀ s ∈ l, lessB (recv r s) cs = false) ∧ Hid (cs.ok) := by
        rcases portN_cases l r with h | ⟨a, ha, h, hl⟩
        · rw [HC.out] at h; cases congrArg Ch.is h
        · rw [HC.out] at h
          have hcs : cs = recv r a := congrArg Ch.s h
          rw [hcs]
          exact ⟨anyS_yes ha, hl, recv_ok HR.out (HO.out a ha)⟩
      go_upto_region 5 with (first | (refine big_fill rfl 34 _ _ rfl gK5 (chA ⟨cs, true⟩) rfl rfl K5.out (by kernel_rfl) (by kernel_rfl) (by kernel_rfl) ?_; intro vK50 nK5 htK5; replace K5 := Lib.hid nK5; replace SI := Lib.hid ((SI.out).touch htK5 OSIK5.out); replace K3 := Lib.hid ((K3.out).touch htK5 OK3K5.out); replace HB := Lib.hid (btouch HB.out htK5 LK5.out); clear nK5 htK5; try simp only [Act.put, List.setIfInBounds_toArray, List.set_cons_zero, List.set_cons_succ]) | (refine big_alloc rfl 34 rfl (chA zeroCh) (by kernel_rfl) ?_; intro gK5 wK5 hlK5 nK5 hbK5; have K5 := Lib.hid nK5; have LK5 := Lib.hid (Nat.le_trans (HB.out).size hlK5); have OSIK5 := Lib.hid ((SI.out).off hlK5); have OK3K5 := Lib.hid ((K3.out).off hlK5); replace SI := Lib.hid ((SI.out).keptB hbK5); replace K3 := Lib.hid ((K3.out).keptB hbK5); replace HB := Lib.hid (bstep HB.out hbK5); clear hlK5 nK5 hbK5; try simp only [Act.put, List.setIfInBounds_toArray, List.set_cons_zero, List.set_cons_succ]))
      clear d
      go_wp2
      go_loopg [6, 18] n (fun gh s i v => ∃ (j : Nat), j + gh = n ∧ s = .bool (anyS (l.take j) r cs) ∧ i = .int .i64 j ∧ Hid (SetsIn v (.slice A n c) l) ∧ Hid (Holds v gK3 26 (ptA r)) ∧ Hid (Holds v gK5 34 (chA ⟨cs, true⟩)) ∧ Hid (Below w.heap.size w v))
      case atStart => exact ⟨0, by omega, rfl, rfl, SI, K3, K5, HB⟩
      case round =>
        clear SI K3 K5 HB
        obtain ⟨j, hj, rfl, rfl, SI, K3, K5, HB⟩ := hrel
        cases gk with
        | zero =>
          have hd : decide ((j : Int) < (n : Int)) = false := decide_eq_false (by omega)
          obtain rfl : j = n := by omega
          rw [List.take_of_length_le (by have := HLN.out; omega)]
          rw [HF.out]
          go_wp2_with fail
          refine (alive9_any _).mono ?_
          rintro e c1 ⟨rfl, hc1⟩
          replace K5 := Lib.hid ((K5.out).keptB hc1)
          replace HB := Lib.hid (bstep HB.out hc1)
          clear hc1
          have x32 := (K5.out).reads (i := 32) (x := .bool true) rfl
          go_wp2
          try rw [Exit.noGoto_ret]
          go_ret
          exact ⟨rfl, HB.out⟩
        | succ g1 =>
          have hlt : j < n := by omega
          have hd : decide ((j : Int) < (n : Int)) = true := decide_eq_true (by omega)
          obtain ⟨a, ha⟩ : ∃ a, l[j]? = some a := ⟨_, List.getElem?_eq_getElem (show j < l.length by have := HLN.out; omega)⟩
          have HA := Lib.hid ha
          have HK := Lib.hid hlt
          obtain ⟨g, o, hA⟩ : ∃ g o, A = some ⟨g, o, none⟩ := by
            obtain ⟨_, _, _, h1, _, h3⟩ := SI.out
            cases h1
            obtain ⟨g, o, h4, _⟩ := h3 (by omega)
            exact ⟨g, o, h4⟩
          subst hA
          have HST := Lib.hid (anyS_step (r := r) (c := cs) ha)
          have HL : Hid (lessB (recv r a) cs = false) := (HFL.out) a (List.mem_of_getElem? ha)
          clear ha hlt
          obtain ⟨b, HE⟩ : ∃ b, Hid (eqR (recv r a) cs = b) := ⟨_, Lib.hid rfl⟩
          rw [HE.out] at HST
          go_upto_region 8 with (first | (refine big_fill rfl 31 _ _ rfl gK8 (rsA a) rfl rfl K8.out (by kernel_rfl) (by kernel_rfl) (by kernel_rfl) ?_; intro vK80 nK8 htK8; replace K8 := Lib.hid nK8; replace SI := Lib.hid ((SI.out).touch htK8 OSIK8.out); replace K3 := Lib.hid ((K3.out).touch htK8 OK3K8.out); replace K5 := Lib.hid ((K5.out).touch htK8 OK5K8.out); replace HB := Lib.hid (btouch HB.out htK8 LK8.out); clear nK8 htK8; try simp only [Act.put, List.setIfInBounds_toArray, List.set_cons_zero, List.set_cons_succ]) | (refine big_alloc rfl 31 rfl (rsA zeroR) (by kernel_rfl) ?_; intro gK8 wK8 hlK8 nK8 hbK8; have K8 := Lib.hid nK8; have LK8 := Lib.hid (Nat.le_trans (HB.out).size hlK8); have OSIK8 := Lib.hid ((SI.out).off hlK8); have OK3K8 := Lib.hid ((K3.out).off hlK8); have OK5K8 := Lib.hid ((K5.out).off hlK8); replace SI := Lib.hid ((SI.out).keptB hbK8); replace K3 := Lib.hid ((K3.out).keptB hbK8); replace K5 := Lib.hid ((K5.out).keptB hbK8); replace HB := Lib.hid (bstep HB.out hbK8); clear hlK8 nK8 hbK8; try simp only [Act.put, List.setIfInBounds_toArray, List.set_cons_zero, List.set_cons_succ]) | (refine big_loadAt rfl 31 _ rfl g (o + j * 32) rfl (rsA a) (set_in SI.out HA.out) Try.underlying31 rfl (by kernel_rfl) ?_; try simp only [Act.put, List.setIfInBounds_toArray, List.set_cons_zero, List.set_cons_succ]) | (refine big_index rfl 22 _ _ rfl g o n c j 32 rfl rfl HK.out Try.underlying22 (by kernel_rfl) ?_; try simp only [Act.put, List.setIfInBounds_toArray, List.set_cons_zero, List.set_cons_succ]))
          go_upto_region 9 with (first | (refine big_store rfl 26 _ _ rfl gK8 23 [.int .u8 r.c.b0, .int .u8 r.c.b1, .int .u8 r.c.b2, .int .u8 r.c.b3, .int .u8 r.c.b4, .int .u8 r.c.b5, .int .u8 r.c.b6, .int .u8 r.c.b7, .int .i64 r.n] rfl rfl K8.out (by kernel_rfl) (by kernel_rfl) (of_decide_eq_true (by kernel_rfl)) (rsA (recv r a)) (by kernel_rfl) ?_; intro vK80 nK8 htK8; replace K8 := Lib.hid nK8; replace SI := Lib.hid ((SI.out).touch htK8 OSIK8.out); replace K3 := Lib.hid ((K3.out).touch htK8 OK3K8.out); replace K5 := Lib.hid ((K5.out).touch htK8 OK5K8.out); replace HB := Lib.hid (btouch HB.out htK8 LK8.out); clear nK8 htK8; try simp only [Act.put, List.setIfInBounds_toArray, List.set_cons_zero, List.set_cons_succ]) | (refine big_load rfl 26 _ rfl gK3 0 rfl K3.out [.int .u8 r.c.b0, .int .u8 r.c.b1, .int .u8 r.c.b2, .int .u8 r.c.b3, .int .u8 r.c.b4, .int .u8 r.c.b5, .int .u8 r.c.b6, .int .u8 r.c.b7, .int .i64 r.n] rfl Try.underlying26 rfl (by kernel_rfl) ?_; try simp only [Act.put, List.setIfInBounds_toArray, List.set_cons_zero, List.set_cons_succ]))
          have x32 := (K5.out).reads (i := 32) (x := .bool true) rfl
          cases hf : anyS (l.take j) r cs
          · have HG := Lib.hid hf
            clear hf
            have HS2 : Hid (anyS (l.take (j + 1)) r cs = b) := by rw [Hid, HST.out, HG.out]; simp
            have GATE : Hid True := trivial
            go_upto_region 10 with (first | (have _ := GATE.out; refine big_cmp rfl .eql 31 _ _ _ rfl (rsA (recv r a)) (rsA cs) rfl rfl (by kernel_rfl) b (fun v => (eql_setR (recv r a) cs v).trans (by rw [HE.out])) ?_; clear GATE; try simp only [Act.put, List.setIfInBounds_toArray, List.set_cons_zero, List.set_cons_succ]) | (have _ := GATE.out; refine big_whole rfl 31 _ rfl gK8 rfl K8.out Try.underlying31 rfl (by kernel_rfl) ?_; try simp only [Act.put, List.setIfInBounds_toArray, List.set_cons_zero, List.set_cons_succ]) | (have _ := GATE.out; refine big_load rfl 31 _ rfl gK5 0 rfl K5.out [.int .i64 cs.p1, .int .i64 cs.p2, .int .i64 cs.q1, .int .i64 cs.q2, .int .i64 cs.q3, .int .u8 cs.gr.b0, .int .u8 cs.gr.b1, .int .u8 cs.gr.b2, .int .u8 cs.gr.b3, .int .u8 cs.gr.b4, .int .u8 cs.gr.b5, .int .u8 cs.gr.b6, .int .u8 cs.gr.b7, .int .i64 cs.st, .int .u8 cs.sn.c.b0, .int .u8 cs.sn.c.b1, .int .u8 cs.sn.c.b2, .int .u8 cs.sn.c.b3, .int .u8 cs.sn.c.b4, .int .u8 cs.sn.c.b5, .int .u8 cs.sn.c.b6, .int .u8 cs.sn.c.b7, .int .i64 cs.sn.n, .int .u8 cs.rc.c.b0, .int .u8 cs.rc.c.b1, .int .u8 cs.rc.c.b2, .int .u8 cs.rc.c.b3, .int .u8 cs.rc.c.b4, .int .u8 cs.rc.c.b5, .int .u8 cs.rc.c.b6, .int .u8 cs.rc.c.b7, .int .i64 cs.rc.n] rfl Try.underlying31 rfl (by kernel_rfl) ?_; try simp only [Act.put, List.setIfInBounds_toArray, List.set_cons_zero, List.set_cons_succ]))
            go_wp2_with (first | (refine big_whole rfl 31 _ rfl gK8 rfl K8.out Try.underlying31 rfl (by kernel_rfl) ?_; try simp only [Act.put, List.setIfInBounds_toArray, List.set_cons_zero, List.set_cons_succ]) | (refine big_load rfl 31 _ rfl gK5 0 rfl K5.out [.int .i64 cs.p1, .int .i64 cs.p2, .int .i64 cs.q1, .int .i64 cs.q2, .int .i64 cs.q3, .int .u8 cs.gr.b0, .int .u8 cs.gr.b1, .int .u8 cs.gr.b2, .int .u8 cs.gr.b3, .int .u8 cs.gr.b4, .int .u8 cs.gr.b5, .int .u8 cs.gr.b6, .int .u8 cs.gr.b7, .int .i64 cs.st, .int .u8 cs.sn.c.b0, .int .u8 cs.sn.c.b1, .int .u8 cs.sn.c.b2, .int .u8 cs.sn.c.b3, .int .u8 cs.sn.c.b4, .int .u8 cs.sn.c.b5, .int .u8 cs.sn.c.b6, .int .u8 cs.sn.c.b7, .int .i64 cs.sn.n, .int .u8 cs.rc.c.b0, .int .u8 cs.rc.c.b1, .int .u8 cs.rc.c.b2, .int .u8 cs.rc.c.b3, .int .u8 cs.rc.c.b4, .int .u8 cs.rc.c.b5, .int .u8 cs.rc.c.b6, .int .u8 cs.rc.c.b7, .int .i64 cs.rc.n] rfl Try.underlying31 rfl (by kernel_rfl) ?_; try simp only [Act.put, List.setIfInBounds_toArray, List.set_cons_zero, List.set_cons_succ]))
            clear x32
            refine (rless7_any (recv r a) cs _ (recv_ok HR.out (HO.out a (List.mem_of_getElem? HA.out))) HOC.out).mono ?_
            rintro e c1 ⟨rfl, hc1⟩
            replace SI := Lib.hid ((SI.out).keptB hc1)
            replace K3 := Lib.hid ((K3.out).keptB hc1)
            replace K5 := Lib.hid ((K5.out).keptB hc1)
            replace K8 := Lib.hid ((K8.out).keptB hc1)
            replace HB := Lib.hid (bstep HB.out hc1)
            clear hc1
            rw [HL.out]
            go_wp2
            go_roundg g1
            case measure => omega
            case rel => exact ⟨j + 1, by omega, by rw [HS2.out], by go_num, SI, K3, K5, HB⟩
          · have HG := Lib.hid hf
            clear hf
            have HS2 : Hid (anyS (l.take (j + 1)) r cs = true) := by rw [Hid, HST.out, HG.out]; simp
            go_upto_region 10 with fail
            go_wp2_with (first | (refine big_whole rfl 31 _ rfl gK8 rfl K8.out Try.underlying31 rfl (by kernel_rfl) ?_; try simp only [Act.put, List.setIfInBounds_toArray, List.set_cons_zero, List.set_cons_succ]) | (refine big_load rfl 31 _ rfl gK5 0 rfl K5.out [.int .i64 cs.p1, .int .i64 cs.p2, .int .i64 cs.q1, .int .i64 cs.q2, .int .i64 cs.q3, .int .u8 cs.gr.b0, .int .u8 cs.gr.b1, .int .u8 cs.gr.b2, .int .u8 cs.gr.b3, .int .u8 cs.gr.b4, .int .u8 cs.gr.b5, .int .u8 cs.gr.b6, .int .u8 cs.gr.b7, .int .i64 cs.st, .int .u8 cs.sn.c.b0, .int .u8 cs.sn.c.b1, .int .u8 cs.sn.c.b2, .int .u8 cs.sn.c.b3, .int .u8 cs.sn.c.b4, .int .u8 cs.sn.c.b5, .int .u8 cs.sn.c.b6, .int .u8 cs.sn.c.b7, .int .i64 cs.sn.n, .int .u8 cs.rc.c.b0, .int .u8 cs.rc.c.b1, .int .u8 cs.rc.c.b2, .int .u8 cs.rc.c.b3, .int .u8 cs.rc.c.b4, .int .u8 cs.rc.c.b5, .int .u8 cs.rc.c.b6, .int .u8 cs.rc.c.b7, .int .i64 cs.rc.n] rfl Try.underlying31 rfl (by kernel_rfl) ?_; try simp only [Act.put, List.setIfInBounds_toArray, List.set_cons_zero, List.set_cons_succ]))
            clear x32
            refine (rless7_any (recv r a) cs _ (recv_ok HR.out (HO.out a (List.mem_of_getElem? HA.out))) HOC.out).mono ?_
            rintro e c1 ⟨rfl, hc1⟩
            replace SI := Lib.hid ((SI.out).keptB hc1)
            replace K3 := Lib.hid ((K3.out).keptB hc1)
            replace K5 := Lib.hid ((K5.out).keptB hc1)
            replace K8 := Lib.hid ((K8.out).keptB hc1)
            replace HB := Lib.hid (bstep HB.out hc1)
            clear hc1
            rw [HL.out]
            go_wp2
            go_roundg g1
            case measure => omega
            case rel => exact ⟨j + 1, by omega, by rw [HS2.out], by go_num, SI, K3, K5, HB⟩

end Go.Proofs.Ytcmcgkcljefckaa
