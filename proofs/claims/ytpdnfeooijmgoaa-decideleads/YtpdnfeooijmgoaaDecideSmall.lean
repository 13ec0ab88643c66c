/- The walks over decide's small functions: isOut, followsNobody, stateOf, Masters. -/
import Derived.Test.YtpdnfeooijmgoaaDecideMath
import Derived.Test.YtpdnfeooijmgoaaIntRow
import Derived.Test.YtpdnfeooijmgoaaBestMem
import Derived.Test.YtpdnfeooijmgoaaBestSmall
import Derived.Deep.DeepCutAuto
import Derived.Deep.LoopGhost
import Derived.WalkMore
namespace Go.Proofs.Ytpdnfeooijmgoaa
set_option maxRecDepth 100000
open Go.RowKit
set_option linter.unusedVariables false
set_option linter.unusedSimpArgs false

/-- does a port in this state take no part? -/
def outB (st : Int) : Bool := st == 1 || (st == 2 || st == 3)
/-- is this the class of a clock that follows nobody? -/
def grandB (me : Rs) : Bool := decide (1 ≤ me.q1) && decide (me.q1 ≤ 127)
theorem grand_iff {me : Rs} : grandB me = true ↔ (0 < me.q1 ∧ me.q1 < 128) := by unfold grandB; simp only [Bool.and_eq_true, decide_eq_true_eq]; omega
theorem grand_not {me : Rs} (h : grandB me = false) : ¬ (0 < me.q1 ∧ me.q1 < 128) := by rw [← grand_iff, h]; decide
theorem idle_of {k : Nat} {n : Nat} {st : Int} (hk : k < n) : idleB (n : Int) (k : Int) st = outB st := by
  unfold idleB outB
  rw [show decide ((k : Int) < 0) = false from decide_eq_false (by omega), show decide ((n : Int) ≤ (k : Int)) = false from decide_eq_false (by omega)]
  rfl
/-- is the clock itself better than the best that any port heard? -/
def headB (me : Rs) (l : List Ch) : Bool := decide (allN l < 0) || betterB ⟨me, true⟩ (l.getD (allN l).toNat zeroCh)
/-- what the closures tell of a port that is there and takes part -/
def codeD (me : Rs) (l : List Ch) (k : Nat) (r : Ch) : Int :=
  if grandB me = true then (if betterB ⟨me, true⟩ r = true then 1 else 5)
  else if headB me l = true then 2
  else if allN l = k then 4
  else if bywayB (l.getD (allN l).toNat zeroCh) r = true then 6 else 3
/-- the codes of the two that ask -/
def codeL (me : Rs) (r : Ch) : Int := if betterB ⟨me, true⟩ r = true then 1 else 5
def codeF (p k : Nat) (b r : Ch) : Int := if (p : Int) = (k : Int) then 4 else if bywayB b r = true then 6 else 3
theorem dec_code {me : Rs} {l : List Ch} {k : Nat} {st : Int} {r : Ch} (h0 : outB st = false) (hr : l[k]? = some r) (h1 : ¬ (st = 4 ∧ r.is = false)) : decideN me l k st = codeD me l k r := by
  have hk : k < l.length := (List.getElem?_eq_some_iff.1 hr).1
  unfold decideN codeD headB
  rw [idle_of hk, h0, getD_of hr, if_neg (by decide), if_neg h1]
  by_cases hg : grandB me = true
  · rw [if_pos hg, if_pos (grand_iff.1 hg)]
  · rw [if_neg hg, if_neg (fun h => hg (grand_iff.2 h))]
    simp only [Bool.or_eq_true, decide_eq_true_eq]
theorem dec_out {me : Rs} {l : List Ch} {k : Nat} {st : Int} (hk : k < l.length) (h0 : outB st = true) : decideN me l k st = 0 := dec_idle (by rw [idle_of hk]; exact h0)
theorem dec_deaf' {me : Rs} {l : List Ch} {k : Nat} {st : Int} {r : Ch} (h0 : outB st = false) (hr : l[k]? = some r) (h1 : st = 4 ∧ r.is = false) : decideN me l k st = 0 :=
  dec_deaf (by rw [idle_of (List.getElem?_eq_some_iff.1 hr).1]; exact h0) hr h1
set_option maxHeartbeats 4000000 in
theorem isout10_any (st : Int) (w : World) :
    Calls Try.prog 28 #[.int .i64 st] w fun e w' => e = .returned (.bool (outB st)) ∧ w = w' := by
  by_cases t1 : st = 1
  · have e1 : (st == 1) = true := by simpa using t1
    clear t1
    have HX : Hid (outB st = true) := by rw [Hid]; unfold outB; simp [e1]
    go_enter Try.func28, Try.ntmps28
    go_wp2
    go_ret
    exact ⟨ret_bool9 HX.out.symm, rfl⟩
  · have e1 : (st == 1) = false := by simpa using t1
    by_cases t2 : st = 2
    · have e2 : (st == 2) = true := by simpa using t2
      clear t1 t2
      have HX : Hid (outB st = true) := by rw [Hid]; unfold outB; simp [e1, e2]
      go_enter Try.func28, Try.ntmps28
      go_wp2
      go_ret
      exact ⟨ret_bool9 HX.out.symm, rfl⟩
    · have e2 : (st == 2) = false := by simpa using t2
      by_cases t3 : st = 3
      · have e3 : (st == 3) = true := by simpa using t3
        clear t1 t2 t3
        have HX : Hid (outB st = true) := by rw [Hid]; unfold outB; simp [e1, e2, e3]
        go_enter Try.func28, Try.ntmps28
        go_wp2
        go_ret
        exact ⟨ret_bool9 HX.out.symm, rfl⟩
      · have e3 : (st == 3) = false := by simpa using t3
        clear t1 t2 t3
        have HX : Hid (outB st = false) := by rw [Hid]; unfold outB; simp [e1, e2, e3]
        go_enter Try.func28, Try.ntmps28
        go_wp2
        go_ret
        exact ⟨ret_bool9 HX.out.symm, rfl⟩
set_option maxHeartbeats 4000000 in
theorem follows10_any (me : Rs) (w : World) :
    Calls Try.prog 24 #[.agg (rsA me)] w fun e w' => e = .returned (.bool (grandB me)) ∧ Below w.heap.size w w' := by
  have HB := Lib.hid (Below.refl w.heap.size w)
  go_enter Try.func24, Try.ntmps24
  go_upto_region 1 with ((refine big_box rfl 29 _ rfl (rsA me) rfl (by kernel_rfl) ?_; intro gK1 wK1 hlK1 nK1 hbK1; have K1 := Lib.hid nK1; have LK1 := Lib.hid (Nat.le_trans (HB.out).size hlK1); replace HB := Lib.hid (bstep HB.out hbK1); clear hlK1 nK1 hbK1; try simp only [Act.put, List.setIfInBounds_toArray, List.set_cons_zero, List.set_cons_succ]))
  have x2 := (K1.out).reads (i := 2) (x := .int .i64 me.q1) rfl
  by_cases t1 : 1 ≤ me.q1
  · have e1 : decide (me.q1 ≥ 1) = true := decide_eq_true t1
    by_cases t2 : me.q1 ≤ 127
    · have e2 : decide (me.q1 ≤ 127) = true := decide_eq_true t2
      have HX : Hid (grandB me = true) := by rw [Hid]; unfold grandB; simp [t1, t2]
      clear t1 t2
      go_wp2
      go_ret
      exact ⟨ret_bool9 HX.out.symm, HB.out⟩
    · have e2 : decide (me.q1 ≤ 127) = false := decide_eq_false t2
      have HX : Hid (grandB me = false) := by rw [Hid]; unfold grandB; simp [t1, t2]
      clear t1 t2
      go_wp2
      go_ret
      exact ⟨ret_bool9 HX.out.symm, HB.out⟩
  · have e1 : decide (me.q1 ≥ 1) = false := decide_eq_false t1
    have HX : Hid (grandB me = false) := by rw [Hid]; unfold grandB; simp [t1]
    clear t1
    go_wp2
    go_ret
    exact ⟨ret_bool9 HX.out.symm, HB.out⟩
set_option maxHeartbeats 4000000 in
theorem stateof10_any (A : Option Addr) (n c : Nat) (ss : List Int) (k : Nat) (w : World) (hs : NumIn w (.slice A n c) ss) :
    Calls Try.prog 20 #[.slice A n c, .int .i64 (k : Int)] w fun e w' => e = .returned (.int .i64 (ss.getD k 3)) ∧ Below w.heap.size w w' := by
  have HB := Lib.hid (Below.refl w.heap.size w)
  have HLS : ss.length = n := by
    obtain ⟨_, _, _, h1, h2, _⟩ := id hs
    cases h1
    exact h2
  by_cases hk : k < n
  · obtain ⟨st, hst⟩ : ∃ st, ss[k]? = some st := ⟨_, List.getElem?_eq_getElem (show k < ss.length by rw [HLS]; exact hk)⟩
    obtain ⟨g, o, hA⟩ : ∃ g o, A = some ⟨g, o, none⟩ := by
      obtain ⟨_, _, _, h1, _, h3⟩ := id hs
      cases h1
      obtain ⟨g, o, h4, _⟩ := h3 (by omega)
      exact ⟨g, o, h4⟩
    subst hA
    have xs := num_in hs hst
    have HX : Hid (ss.getD k 3 = st) := by rw [Hid, List.getD_eq_getElem?_getD, hst]; rfl
    have HK := Lib.hid hk
    have hd : decide ((k : Int) < (n : Int)) = true := decide_eq_true (by omega)
    clear hst hs HLS hk
    go_enter Try.func20, Try.ntmps20
    go_upto_region 2 with fail
    go_wp2_with ((refine big_index rfl 31 _ _ rfl g o n c k 1 rfl rfl HK.out Try.underlying31 (by kernel_rfl) ?_; try simp only [Act.put, List.setIfInBounds_toArray, List.set_cons_zero, List.set_cons_succ]))
    go_ret
    exact ⟨ret_int9 HX.out.symm, HB.out⟩
  · have HX : Hid (ss.getD k 3 = 3) := by rw [Hid, List.getD_eq_getElem?_getD, List.getElem?_eq_none (by omega)]; rfl
    have hd : decide ((k : Int) < (n : Int)) = false := decide_eq_false (by omega)
    have hd2 : decide (k < n) = false := decide_eq_false hk
    clear hs HLS hk
    go_enter Try.func20, Try.ntmps20
    go_wp2
    go_ret
    exact ⟨ret_int9 HX.out.symm, HB.out⟩
set_option maxHeartbeats 4000000 in
theorem pmast10_any (v : Value) (l : List Int) (w : World) (hn : l.length ≤ 1000) (hs : NumIn w v l) :
    Calls Try.prog 14 #[v] w fun e w' => e = .returned (.int .i64 (mastersN l)) ∧ Below w.heap.size w w' := by
  have HB := Lib.hid (Below.refl w.heap.size w)
  obtain ⟨A, n, c, hv, hln, _⟩ := id hs
  subst hv
  have NI := Lib.hid hs
  have HLS := Lib.hid hln
  rw [hln] at hn
  clear hs hln
  go_enter Try.func14, Try.ntmps14
  go_wp2
  go_loopg [3, 8] n (fun gh s i v => ∃ (j : Nat), j + gh = n ∧ s = .int .i64 (mastersN (l.take j)) ∧ i = .int .i64 j ∧ Hid (NumIn v (.slice A n c) l) ∧ Hid (Below w.heap.size w v))
  case atStart => exact ⟨0, by omega, rfl, rfl, NI, HB⟩
  case round =>
    clear NI HB
    obtain ⟨j, hj, rfl, rfl, NI, HB⟩ := hrel
    cases gk with
    | zero =>
      have hd : decide ((j : Int) < (n : Int)) = false := decide_eq_false (by omega)
      obtain rfl : j = n := by omega
      rw [List.take_of_length_le (by rw [HLS.out]; omega)]
      go_wp2
      go_ret
      exact ⟨rfl, HB.out⟩
    | succ g1 =>
      have hlt : j < n := by omega
      have hd : decide ((j : Int) < (n : Int)) = true := decide_eq_true (by omega)
      obtain ⟨z, hz⟩ : ∃ z, l[j]? = some z := ⟨_, List.getElem?_eq_getElem (show j < l.length by rw [HLS.out]; exact hlt)⟩
      obtain ⟨g, o, hA⟩ : ∃ g o, A = some ⟨g, o, none⟩ := by
        obtain ⟨_, _, _, h1, _, h3⟩ := NI.out
        cases h1
        obtain ⟨g, o, h4, _⟩ := h3 (by omega)
        exact ⟨g, o, h4⟩
      subst hA
      have xs := num_in NI.out hz
      have HK := Lib.hid hlt
      have HST := Lib.hid (masters_step hz)
      have b0 := masters_bd (l.take j)
      have b1 : (l.take j).length ≤ j := by simp; omega
      obtain ⟨m, hm⟩ : ∃ m, mastersN (l.take j) = m := ⟨_, rfl⟩
      rw [hm] at b0 HST ⊢
      have hm1 : 0 ≤ m ∧ m ≤ 1000000 := by omega
      clear hz hm b0 b1
      by_cases t1 : z = 1
      · have e1 : (z == 1) = true := by simpa using t1
        have HM : Hid (mastersN (l.take (j + 1)) = m + 1) := by rw [Hid, HST.out]; unfold mastB; simp [e1]
        go_wp2_with ((refine big_index rfl 31 _ _ rfl g o n c j 1 rfl rfl HK.out Try.underlying31 (by kernel_rfl) ?_; try simp only [Act.put, List.setIfInBounds_toArray, List.set_cons_zero, List.set_cons_succ]))
        go_roundg g1
        case measure => omega
        case rel => exact ⟨j + 1, by omega, by rw [HM.out], by go_num, NI, HB⟩
      · by_cases t2 : z = 2
        · have e1 : (z == 1) = false := by simpa using t1
          have e2 : (z == 2) = true := by simpa using t2
          have HM : Hid (mastersN (l.take (j + 1)) = m + 1) := by rw [Hid, HST.out]; unfold mastB; simp [e1, e2]
          go_wp2_with ((refine big_index rfl 31 _ _ rfl g o n c j 1 rfl rfl HK.out Try.underlying31 (by kernel_rfl) ?_; try simp only [Act.put, List.setIfInBounds_toArray, List.set_cons_zero, List.set_cons_succ]))
          go_roundg g1
          case measure => omega
          case rel => exact ⟨j + 1, by omega, by rw [HM.out], by go_num, NI, HB⟩
        · by_cases t3 : z = 3
          · have e1 : (z == 1) = false := by simpa using t1
            have e2 : (z == 2) = false := by simpa using t2
            have e3 : (z == 3) = true := by simpa using t3
            have HM : Hid (mastersN (l.take (j + 1)) = m + 1) := by rw [Hid, HST.out]; unfold mastB; simp [e1, e2, e3]
            go_wp2_with ((refine big_index rfl 31 _ _ rfl g o n c j 1 rfl rfl HK.out Try.underlying31 (by kernel_rfl) ?_; try simp only [Act.put, List.setIfInBounds_toArray, List.set_cons_zero, List.set_cons_succ]))
            go_roundg g1
            case measure => omega
            case rel => exact ⟨j + 1, by omega, by rw [HM.out], by go_num, NI, HB⟩
          · have e1 : (z == 1) = false := by simpa using t1
            have e2 : (z == 2) = false := by simpa using t2
            have e3 : (z == 3) = false := by simpa using t3
            have HM : Hid (mastersN (l.take (j + 1)) = m + 0) := by rw [Hid, HST.out]; unfold mastB; simp [e1, e2, e3]
            go_wp2_with ((refine big_index rfl 31 _ _ rfl g o n c j 1 rfl rfl HK.out Try.underlying31 (by kernel_rfl) ?_; try simp only [Act.put, List.setIfInBounds_toArray, List.set_cons_zero, List.set_cons_succ]))
            go_roundg g1
            case measure => omega
            case rel => exact ⟨j + 1, by omega, by rw [HM.out]; simp, by go_num, NI, HB⟩

end Go.Proofs.Ytpdnfeooijmgoaa
