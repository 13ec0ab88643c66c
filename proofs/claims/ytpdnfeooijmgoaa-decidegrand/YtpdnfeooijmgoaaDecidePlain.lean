/- The walks over decide itself: decider, what it hands back, Port, All. -/
import Derived.Test.YtpdnfeooijmgoaaDecideClos
import Derived.Test.YtpdnfeooijmgoaaMakeRow
import Derived.Deep.DeepCutAuto
import Derived.Deep.LoopGhost
import Derived.WalkMore
namespace Go.Proofs.Ytpdnfeooijmgoaa
set_option maxRecDepth 100000
open Go.RowKit
set_option linter.unusedVariables false
set_option linter.unusedSimpArgs false

theorem CodeAt.one {B E : Nat} {w : World} {f : Value} {me : Rs} {A : Option Addr} {n c : Nat} {l : List Ch} (h : CodeAt B E w f me A n c l) : f.cells = #[f] ∧ f.oneCell' = true := by
  cases h with
  | lead g5 g3 h5 h3 hf k5 k3 hg => subst hf; exact ⟨rfl, rfl⟩
  | head hf hg hh => subst hf; exact ⟨rfl, rfl⟩
  | foll g6 g5 g3 p b h6 h5 h3 hf k6 k5 k3 hg hh hp hb => subst hf; exact ⟨rfl, rfl⟩
theorem ch_isC {w : World} {g o n c k : Nat} {l : List Ch} {a : Ch} (h : ChsIn w (.slice (some ⟨g, o, none⟩) n c) l) (hk : l[k]? = some a) : w.cell? ⟨g, o + k * 33 + 32, none⟩ = some (.bool a.is) := ch_in h hk 32 (.bool a.is) rfl
theorem code_lead {me : Rs} {l : List Ch} {k : Nat} {r : Ch} (hg : grandB me = true) : codeD me l k r = codeL me r := by unfold codeD codeL; rw [if_pos hg]
theorem code_head {me : Rs} {l : List Ch} {k : Nat} {r : Ch} (hg : grandB me = false) (hh : headB me l = true) : codeD me l k r = 2 := by unfold codeD; rw [hg, hh]; rfl
theorem code_foll {me : Rs} {l : List Ch} {k p : Nat} {r b : Ch} (hg : grandB me = false) (hh : headB me l = false) (hp : allN l = p) (hb : l[p]? = some b) : codeD me l k r = codeF p k b r := by
  unfold codeD codeF; rw [hg, hh, hp, getD_of hb]; rfl
theorem info_int10p : (Try.prog.info? 3).map (fun i => (i.zero, i.size, i.bytes)) = some (some (.int .i64 0), 1, 8) := by kernel_rfl
set_option maxHeartbeats 4000000 in
theorem decider10_any (me : Rs) (A : Option Addr) (n c : Nat) (l : List Ch) (w : World) (hm : me.ok) (ho : ∀ s ∈ l, s.s.ok) (hn : l.length ≤ 900) (h : ChsIn w (.slice A n c) l) :
    Calls Try.prog 19 #[.agg (rsA me), .slice A n c] w fun e w' => ∃ g3 g5, e = .returned (.func (.func 27) #[] #[.pointer (some ⟨g3, 0, none⟩), .pointer (some ⟨g5, 0, none⟩)]) ∧ DecAt w'.heap.size w' g3 g5 me A n c l ∧ Below w.heap.size w w' := by
  have HB := Lib.hid (Below.refl w.heap.size w)
  have CI := Lib.hid h
  have HO := Lib.hid ho
  have OM := Lib.hid hm
  have HN := Lib.hid hn
  clear h ho hm hn
  go_enter Try.func19, Try.ntmps19
  go_upto_region 1 with (first | (refine big_box1 rfl 34 _ rfl (.slice A n c) rfl rfl ?_; intro gK3 wK3 hlK3 nK3 hbK3; have K3 := Lib.hid nK3; have LK3 := Lib.hid (Nat.le_trans (HB.out).size hlK3); have OCIK3 := Lib.hid ((CI.out).off hlK3); have OK2K3 := Lib.hid ((K2.out).off hlK3); replace CI := Lib.hid ((CI.out).keptB hbK3); replace K2 := Lib.hid ((K2.out).keptB hbK3); replace HB := Lib.hid (bstep HB.out hbK3); clear hlK3 nK3 hbK3; try simp only [Act.put, List.setIfInBounds_toArray, List.set_cons_zero, List.set_cons_succ]) | (refine big_box rfl 29 _ rfl (rsA me) rfl (by kernel_rfl) ?_; intro gK2 wK2 hlK2 nK2 hbK2; have K2 := Lib.hid nK2; have LK2 := Lib.hid (Nat.le_trans (HB.out).size hlK2); have OCIK2 := Lib.hid ((CI.out).off hlK2); replace CI := Lib.hid ((CI.out).keptB hbK2); replace HB := Lib.hid (bstep HB.out hbK2); clear hlK2 nK2 hbK2; try simp only [Act.put, List.setIfInBounds_toArray, List.set_cons_zero, List.set_cons_succ]))
  go_upto_region 2 with ((refine big_alloc1 rfl 53 rfl (.nilFunc) (by kernel_rfl) rfl ?_; intro gK5 wK5 hlK5 nK5 hbK5; have K5 := Lib.hid nK5; have LK5 := Lib.hid (Nat.le_trans (HB.out).size hlK5); have OCIK5 := Lib.hid ((CI.out).off hlK5); have OK2K5 := Lib.hid ((K2.out).off hlK5); have OK3K5 := Lib.hid ((K3.out).off hlK5); replace CI := Lib.hid ((CI.out).keptB hbK5); replace K2 := Lib.hid ((K2.out).keptB hbK5); replace K3 := Lib.hid ((K3.out).keptB hbK5); replace HB := Lib.hid (bstep HB.out hbK5); clear hlK5 nK5 hbK5; try simp only [Act.put, List.setIfInBounds_toArray, List.set_cons_zero, List.set_cons_succ]))
  cases hg : grandB me
  · have HG := Lib.hid hg
    clear hg
    go_wp2_with ((refine big_whole rfl 29 _ rfl gK2 rfl K2.out Try.underlying29 rfl (by kernel_rfl) ?_; try simp only [Act.put, List.setIfInBounds_toArray, List.set_cons_zero, List.set_cons_succ]))
    refine (follows10_any me _).mono ?_
    rintro e c1 ⟨rfl, hc1⟩
    replace CI := Lib.hid ((CI.out).keptB hc1)
    replace K2 := Lib.hid ((K2.out).keptB hc1)
    replace K3 := Lib.hid ((K3.out).keptB hc1)
    replace K5 := Lib.hid ((K5.out).keptB hc1)
    replace HB := Lib.hid (bstep HB.out hc1)
    clear hc1
    rw [HG.out]
    have x3 := (K3.out).reads (i := 0) (x := .slice A n c) rfl
    go_wp2_with ((refine big_whole rfl 29 _ rfl gK2 rfl K2.out Try.underlying29 rfl (by kernel_rfl) ?_; try simp only [Act.put, List.setIfInBounds_toArray, List.set_cons_zero, List.set_cons_succ]))
    clear x3
    have HL5 := Lib.hid (K5.out).inside
    refine (follower10_any me A n c l _ OM.out HO.out HN.out CI.out HG.out).mono ?_
    rintro e c2 ⟨f, rfl, hco, hc2⟩
    replace CI := Lib.hid ((CI.out).keptB hc2)
    replace K2 := Lib.hid ((K2.out).keptB hc2)
    replace K3 := Lib.hid ((K3.out).keptB hc2)
    replace K5 := Lib.hid ((K5.out).keptB hc2)
    replace HB := Lib.hid (bstep HB.out hc2)
    clear hc2
    have CO := Lib.hid hco
    have CO1 := Lib.hid (hco.one)
    clear hco
    go_wp2_with ((refine big_set rfl 53 _ _ rfl gK5 0 f rfl rfl K5.out (by kernel_rfl) (CO1.out).2 (CO1.out).1 (of_decide_eq_true (by kernel_rfl)) (#[f]) (by kernel_rfl) ?_; intro v5 n5 t5; have CO5 := Lib.hid ((CO.out).same fun k h1 h2 => t5.block k (by have := HL5.out; omega)); replace K5 := Lib.hid n5; replace CI := Lib.hid ((CI.out).touch t5 OCIK5.out); replace K3 := Lib.hid ((K3.out).touch t5 (OK3K5.out)); replace HB := Lib.hid (btouch HB.out t5 LK5.out); have HSZ := Lib.hid (Nat.le_of_eq t5.size.symm); clear n5 t5 CO CO1; try simp only [Act.put, List.setIfInBounds_toArray, List.set_cons_zero, List.set_cons_succ]))
    go_ret
    exact ⟨_, _, rfl, ⟨K3.out, (K3.out).inside, ⟨f, _, HL5.out, K5.out, (CO5.out).mono (Nat.le_refl _) HSZ.out⟩, (K5.out).inside, CI.out, Nat.le_refl _⟩, HB.out⟩
  · have HG := Lib.hid hg
    clear hg
    go_wp2_with ((refine big_whole rfl 29 _ rfl gK2 rfl K2.out Try.underlying29 rfl (by kernel_rfl) ?_; try simp only [Act.put, List.setIfInBounds_toArray, List.set_cons_zero, List.set_cons_succ]))
    refine (follows10_any me _).mono ?_
    rintro e c1 ⟨rfl, hc1⟩
    replace CI := Lib.hid ((CI.out).keptB hc1)
    replace K2 := Lib.hid ((K2.out).keptB hc1)
    replace K3 := Lib.hid ((K3.out).keptB hc1)
    replace K5 := Lib.hid ((K5.out).keptB hc1)
    replace HB := Lib.hid (bstep HB.out hc1)
    clear hc1
    rw [HG.out]
    have x3 := (K3.out).reads (i := 0) (x := .slice A n c) rfl
    go_wp2_with ((refine big_whole rfl 29 _ rfl gK2 rfl K2.out Try.underlying29 rfl (by kernel_rfl) ?_; try simp only [Act.put, List.setIfInBounds_toArray, List.set_cons_zero, List.set_cons_succ]))
    clear x3
    have HL5 := Lib.hid (K5.out).inside
    refine (leader10_any me A n c l _ HG.out).mono ?_
    rintro e c2 ⟨f, rfl, hco, hc2⟩
    replace CI := Lib.hid ((CI.out).keptB hc2)
    replace K2 := Lib.hid ((K2.out).keptB hc2)
    replace K3 := Lib.hid ((K3.out).keptB hc2)
    replace K5 := Lib.hid ((K5.out).keptB hc2)
    replace HB := Lib.hid (bstep HB.out hc2)
    clear hc2
    have CO := Lib.hid hco
    have CO1 := Lib.hid (hco.one)
    clear hco
    go_wp2_with ((refine big_set rfl 53 _ _ rfl gK5 0 f rfl rfl K5.out (by kernel_rfl) (CO1.out).2 (CO1.out).1 (of_decide_eq_true (by kernel_rfl)) (#[f]) (by kernel_rfl) ?_; intro v5 n5 t5; have CO5 := Lib.hid ((CO.out).same fun k h1 h2 => t5.block k (by have := HL5.out; omega)); replace K5 := Lib.hid n5; replace CI := Lib.hid ((CI.out).touch t5 OCIK5.out); replace K3 := Lib.hid ((K3.out).touch t5 (OK3K5.out)); replace HB := Lib.hid (btouch HB.out t5 LK5.out); have HSZ := Lib.hid (Nat.le_of_eq t5.size.symm); clear n5 t5 CO CO1; try simp only [Act.put, List.setIfInBounds_toArray, List.set_cons_zero, List.set_cons_succ]))
    go_ret
    exact ⟨_, _, rfl, ⟨K3.out, (K3.out).inside, ⟨f, _, HL5.out, K5.out, (CO5.out).mono (Nat.le_refl _) HSZ.out⟩, (K5.out).inside, CI.out, Nat.le_refl _⟩, HB.out⟩
set_option maxHeartbeats 4000000 in
theorem dec1_any (E q3 q5 : Nat) (me : Rs) (A : Option Addr) (n c : Nat) (l : List Ch) (k : Nat) (st : Int) (r : Ch) (w : World) (hm : me.ok) (ho : ∀ s ∈ l, s.s.ok) (h : DecAt E w q3 q5 me A n c l) (hr : l[k]? = some r) :
    Calls Try.prog 27 #[.int .i64 (k : Int), .int .i64 st, .pointer (some ⟨q3, 0, none⟩), .pointer (some ⟨q5, 0, none⟩)] w fun e w' => e = .returned (.int .i64 (decideN me l (k : Int) st)) ∧ Below w.heap.size w w' := by
  have HB := Lib.hid (Below.refl w.heap.size w)
  have DA := Lib.hid h
  have HO := Lib.hid ho
  have OM := Lib.hid hm
  have HR := Lib.hid hr
  have OR := Lib.hid (ho r (List.mem_of_getElem? hr))
  clear h ho hm hr
  have K3 := Lib.hid (DA.out).k3
  have CI := Lib.hid (DA.out).ch
  have DC := Lib.hid (DA.out).code
  clear DA
  obtain ⟨f, B, hB5, hk5, hco⟩ := DC.out
  have K5 := Lib.hid hk5
  clear DC hB5 hk5
  obtain ⟨g, o, hA⟩ : ∃ g o, A = some ⟨g, o, none⟩ := by
    obtain ⟨_, _, _, h1, h2, h3⟩ := id CI.out
    cases h1
    obtain ⟨g, o, h4, _⟩ := h3 (by have := (List.getElem?_eq_some_iff.1 HR.out).1; omega)
    exact ⟨g, o, h4⟩
  subst hA
  have HKN : Hid (k < n) := by
    obtain ⟨_, _, _, h1, h2, _⟩ := CI.out
    cases h1
    have := (List.getElem?_eq_some_iff.1 HR.out).1
    rw [Hid]; omega
  have x3 := (K3.out).reads (i := 0) (x := .slice (some ⟨g, o, none⟩) n c) rfl
  have x32 := ch_isC CI.out HR.out
  cases ht0 : outB st
  · have HT0 := Lib.hid ht0
    clear ht0
    by_cases t4 : st = 4
    · have d4 : (st == 4) = true := by simpa using t4
      cases hri : r.is
      · have HX : Hid (decideN me l (k : Int) st = 0) := dec_deaf' HT0.out HR.out ⟨t4, hri⟩
        rw [hri] at x32
        clear t4 hri hco K5
        go_enter Try.func27, Try.ntmps27
        go_wp2_with fail
        refine (isout10_any st _).mono ?_
        rintro e v1 ⟨rfl, rfl⟩
        rw [HT0.out]
        go_upto_region 2 with ((refine big_index rfl 34 _ _ rfl g o n c k 33 rfl rfl HKN.out Try.underlying34 (by kernel_rfl) ?_; try simp only [Act.put, List.setIfInBounds_toArray, List.set_cons_zero, List.set_cons_succ]))
        clear x3 x32
        go_wp2
        go_ret
        exact ⟨ret_int9 HX.out.symm, HB.out⟩
      · have HD : Hid (¬ (st = 4 ∧ r.is = false)) := by rw [Hid]; rintro ⟨_, h⟩; rw [hri] at h; cases h
        rw [hri] at x32
        clear t4 hri
        have x5 := (K5.out).reads (i := 0) (x := f) rfl
        cases hco with
        | lead g5 g3 h5 h3 hf k5 k3 hg =>
          subst hf
          have KA := Lib.hid k5
          have KB := Lib.hid k3
          clear k5 k3
          have HX : Hid (decideN me l (k : Int) st = codeL me r) := by rw [Hid, dec_code HT0.out HR.out HD.out]; exact code_lead hg
          clear hg h5 h3
          go_enter Try.func27, Try.ntmps27
          go_wp2_with fail
          refine (isout10_any st _).mono ?_
          rintro e v1 ⟨rfl, rfl⟩
          rw [HT0.out]
          go_upto_region 3 with ((refine big_index rfl 34 _ _ rfl g o n c k 33 rfl rfl HKN.out Try.underlying34 (by kernel_rfl) ?_; try simp only [Act.put, List.setIfInBounds_toArray, List.set_cons_zero, List.set_cons_succ]))
          clear x32
          clear x3
          go_wp2_with fail
          refine (lead1_any me g5 g3 _ n c l k r _ OM.out OR.out KA.out KB.out CI.out HR.out).mono ?_
          rintro e v2 ⟨rfl, hv2⟩
          replace HB := Lib.hid (bstep HB.out hv2)
          clear hv2
          go_wp2
          go_ret
          exact ⟨ret_int9 HX.out.symm, HB.out⟩
        | head hf hg hh =>
          subst hf
          have HX : Hid (decideN me l (k : Int) st = 2) := by rw [Hid, dec_code HT0.out HR.out HD.out]; exact code_head hg hh
          clear hg hh
          go_enter Try.func27, Try.ntmps27
          go_wp2_with fail
          refine (isout10_any st _).mono ?_
          rintro e v1 ⟨rfl, rfl⟩
          rw [HT0.out]
          go_upto_region 3 with ((refine big_index rfl 34 _ _ rfl g o n c k 33 rfl rfl HKN.out Try.underlying34 (by kernel_rfl) ?_; try simp only [Act.put, List.setIfInBounds_toArray, List.set_cons_zero, List.set_cons_succ]))
          clear x32
          clear x3
          go_wp2_with fail
          refine (foll1_any k _).mono ?_
          rintro e v2 ⟨rfl, hv2⟩
          replace HB := Lib.hid (bstep HB.out hv2)
          clear hv2
          go_wp2
          go_ret
          exact ⟨ret_int9 HX.out.symm, HB.out⟩
        | foll g6 g5 g3 p b h6 h5 h3 hf k6 k5 k3 hg hh hp hb =>
          subst hf
          have KA := Lib.hid k5
          have KB := Lib.hid k3
          have KC := Lib.hid k6
          have OB := Lib.hid (HO.out b (List.mem_of_getElem? hb))
          clear k5 k3 k6
          have HX : Hid (decideN me l (k : Int) st = codeF p k b r) := by rw [Hid, dec_code HT0.out HR.out HD.out]; exact code_foll hg hh hp hb
          clear hg hh hp hb h6 h5 h3
          go_enter Try.func27, Try.ntmps27
          go_wp2_with fail
          refine (isout10_any st _).mono ?_
          rintro e v1 ⟨rfl, rfl⟩
          rw [HT0.out]
          go_upto_region 3 with ((refine big_index rfl 34 _ _ rfl g o n c k 33 rfl rfl HKN.out Try.underlying34 (by kernel_rfl) ?_; try simp only [Act.put, List.setIfInBounds_toArray, List.set_cons_zero, List.set_cons_succ]))
          clear x32
          clear x3
          go_wp2_with fail
          refine (foll2_any g6 g5 g3 p b _ n c l k r _ OB.out OR.out KC.out KA.out KB.out CI.out HR.out).mono ?_
          rintro e v2 ⟨rfl, hv2⟩
          replace HB := Lib.hid (bstep HB.out hv2)
          clear hv2
          go_wp2
          go_ret
          exact ⟨ret_int9 HX.out.symm, HB.out⟩
    · have d4 : (st == 4) = false := by simpa using t4
      have HD : Hid (¬ (st = 4 ∧ r.is = false)) := by rw [Hid]; rintro ⟨h, _⟩; exact t4 h
      clear t4
      have x5 := (K5.out).reads (i := 0) (x := f) rfl
      cases hco with
      | lead g5 g3 h5 h3 hf k5 k3 hg =>
        subst hf
        have KA := Lib.hid k5
        have KB := Lib.hid k3
        clear k5 k3
        have HX : Hid (decideN me l (k : Int) st = codeL me r) := by rw [Hid, dec_code HT0.out HR.out HD.out]; exact code_lead hg
        clear hg h5 h3
        go_enter Try.func27, Try.ntmps27
        go_wp2_with fail
        refine (isout10_any st _).mono ?_
        rintro e v1 ⟨rfl, rfl⟩
        rw [HT0.out]
        go_upto_region 3 with ((refine big_index rfl 34 _ _ rfl g o n c k 33 rfl rfl HKN.out Try.underlying34 (by kernel_rfl) ?_; try simp only [Act.put, List.setIfInBounds_toArray, List.set_cons_zero, List.set_cons_succ]))
        clear x32
        clear x3
        go_wp2_with fail
        refine (lead1_any me g5 g3 _ n c l k r _ OM.out OR.out KA.out KB.out CI.out HR.out).mono ?_
        rintro e v2 ⟨rfl, hv2⟩
        replace HB := Lib.hid (bstep HB.out hv2)
        clear hv2
        go_wp2
        go_ret
        exact ⟨ret_int9 HX.out.symm, HB.out⟩
      | head hf hg hh =>
        subst hf
        have HX : Hid (decideN me l (k : Int) st = 2) := by rw [Hid, dec_code HT0.out HR.out HD.out]; exact code_head hg hh
        clear hg hh
        go_enter Try.func27, Try.ntmps27
        go_wp2_with fail
        refine (isout10_any st _).mono ?_
        rintro e v1 ⟨rfl, rfl⟩
        rw [HT0.out]
        go_upto_region 3 with ((refine big_index rfl 34 _ _ rfl g o n c k 33 rfl rfl HKN.out Try.underlying34 (by kernel_rfl) ?_; try simp only [Act.put, List.setIfInBounds_toArray, List.set_cons_zero, List.set_cons_succ]))
        clear x32
        clear x3
        go_wp2_with fail
        refine (foll1_any k _).mono ?_
        rintro e v2 ⟨rfl, hv2⟩
        replace HB := Lib.hid (bstep HB.out hv2)
        clear hv2
        go_wp2
        go_ret
        exact ⟨ret_int9 HX.out.symm, HB.out⟩
      | foll g6 g5 g3 p b h6 h5 h3 hf k6 k5 k3 hg hh hp hb =>
        subst hf
        have KA := Lib.hid k5
        have KB := Lib.hid k3
        have KC := Lib.hid k6
        have OB := Lib.hid (HO.out b (List.mem_of_getElem? hb))
        clear k5 k3 k6
        have HX : Hid (decideN me l (k : Int) st = codeF p k b r) := by rw [Hid, dec_code HT0.out HR.out HD.out]; exact code_foll hg hh hp hb
        clear hg hh hp hb h6 h5 h3
        go_enter Try.func27, Try.ntmps27
        go_wp2_with fail
        refine (isout10_any st _).mono ?_
        rintro e v1 ⟨rfl, rfl⟩
        rw [HT0.out]
        go_upto_region 3 with ((refine big_index rfl 34 _ _ rfl g o n c k 33 rfl rfl HKN.out Try.underlying34 (by kernel_rfl) ?_; try simp only [Act.put, List.setIfInBounds_toArray, List.set_cons_zero, List.set_cons_succ]))
        clear x32
        clear x3
        go_wp2_with fail
        refine (foll2_any g6 g5 g3 p b _ n c l k r _ OB.out OR.out KC.out KA.out KB.out CI.out HR.out).mono ?_
        rintro e v2 ⟨rfl, hv2⟩
        replace HB := Lib.hid (bstep HB.out hv2)
        clear hv2
        go_wp2
        go_ret
        exact ⟨ret_int9 HX.out.symm, HB.out⟩
  · have HX : Hid (decideN me l (k : Int) st = 0) := dec_out (List.getElem?_eq_some_iff.1 HR.out).1 ht0
    have HT0 := Lib.hid ht0
    clear ht0 x3 x32 hco K5
    go_enter Try.func27, Try.ntmps27
    go_wp2_with fail
    refine (isout10_any st _).mono ?_
    rintro e v1 ⟨rfl, rfl⟩
    rw [HT0.out]
    go_wp2
    go_ret
    exact ⟨ret_int9 HX.out.symm, HB.out⟩
set_option maxHeartbeats 4000000 in
theorem pdport10_any (me : Rs) (v : Value) (l : List Ch) (k st : Int) (w : World) (hm : me.ok) (ho : ∀ s ∈ l, s.s.ok) (hn : l.length ≤ 100) (h : ChsIn w v l) :
    Calls Try.prog 16 #[.agg (rsA me), v, .int .i64 k, .int .i64 st] w fun e w' => e = .returned (.int .i64 (decideN me l k st)) ∧ Below w.heap.size w w' := by
  have HB := Lib.hid (Below.refl w.heap.size w)
  obtain ⟨A, n, c, hv, hln, _⟩ := id h
  subst hv
  have CI := Lib.hid h
  have HO := Lib.hid ho
  have OM := Lib.hid hm
  have HLN := Lib.hid hln
  have HN : Hid (l.length ≤ 900) := by rw [Hid]; omega
  clear h ho hm hn hln
  go_enter Try.func16, Try.ntmps16
  go_upto_region 1 with ((refine big_box rfl 29 _ rfl (rsA me) rfl (by kernel_rfl) ?_; intro gK4 wK4 hlK4 nK4 hbK4; have K4 := Lib.hid nK4; have LK4 := Lib.hid (Nat.le_trans (HB.out).size hlK4); have OCIK4 := Lib.hid ((CI.out).off hlK4); replace CI := Lib.hid ((CI.out).keptB hbK4); replace HB := Lib.hid (bstep HB.out hbK4); clear hlK4 nK4 hbK4; try simp only [Act.put, List.setIfInBounds_toArray, List.set_cons_zero, List.set_cons_succ]))
  by_cases t0 : k < 0
  · have d0 : decide (k < 0) = true := decide_eq_true t0
    have HX : Hid (decideN me l k st = 0) := dec_idle (by unfold idleB; rw [d0]; rfl)
    clear t0
    go_wp2
    go_ret
    exact ⟨ret_int9 HX.out.symm, HB.out⟩
  · have d0 : decide (k < 0) = false := decide_eq_false t0
    by_cases t1 : (n : Int) ≤ k
    · have d1 : decide (k ≥ (n : Int)) = true := decide_eq_true t1
      have HX : Hid (decideN me l k st = 0) := dec_idle (by unfold idleB; rw [HLN.out, d0, show decide ((n : Int) ≤ k) = true from d1]; rfl)
      clear t1 t0
      go_wp2
      go_ret
      exact ⟨ret_int9 HX.out.symm, HB.out⟩
    · have d1 : decide (k ≥ (n : Int)) = false := decide_eq_false t1
      obtain ⟨q, hq⟩ : ∃ q : Nat, k = (q : Int) := ⟨k.toNat, by omega⟩
      subst hq
      obtain ⟨r, hr⟩ : ∃ r, l[q]? = some r := ⟨_, List.getElem?_eq_getElem (show q < l.length by have := HLN.out; omega)⟩
      have HR := Lib.hid hr
      have d2 : decide (n ≤ q) = false := decide_eq_false (by omega)
      clear hr t0 t1
      go_upto_region 3 with fail
      clear d0 d1 d2
      go_wp2_with ((refine big_whole rfl 29 _ rfl gK4 rfl K4.out Try.underlying29 rfl (by kernel_rfl) ?_; try simp only [Act.put, List.setIfInBounds_toArray, List.set_cons_zero, List.set_cons_succ]))
      refine (decider10_any me A n c l _ OM.out HO.out HN.out CI.out).mono ?_
      rintro e c1 ⟨q3, q5, rfl, hda, hc1⟩
      replace CI := Lib.hid ((CI.out).keptB hc1)
      replace HB := Lib.hid (bstep HB.out hc1)
      clear hc1
      have DA := Lib.hid hda
      clear hda
      go_wp2_with fail
      refine (dec1_any _ q3 q5 me A n c l q st r _ OM.out HO.out DA.out HR.out).mono ?_
      rintro e c1 ⟨rfl, hc1⟩
      replace HB := Lib.hid (bstep HB.out hc1)
      clear hc1
      go_wp2
      go_ret
      exact ⟨rfl, HB.out⟩
set_option maxHeartbeats 4000000 in
theorem pdall10_any (me : Rs) (v : Value) (l : List Ch) (s : Value) (ss : List Int) (w : World) (hm : me.ok) (ho : ∀ s ∈ l, s.s.ok) (hn : l.length ≤ 100) (h : ChsIn w v l) (hs : NumIn w s ss) :
    Calls Try.prog 10 #[.agg (rsA me), v, s] w fun e w' => ∃ x, e = .returned x ∧ NumIn w' x (decAllN me l ss) ∧ Below w.heap.size w w' := by
  have HB := Lib.hid (Below.refl w.heap.size w)
  obtain ⟨A, n, c, hv, hln, _⟩ := id h
  subst hv
  obtain ⟨A2, n2, c2, hv2, hls, _⟩ := id hs
  subst hv2
  have CI := Lib.hid h
  have NI := Lib.hid hs
  have HO := Lib.hid ho
  have OM := Lib.hid hm
  have HLN := Lib.hid hln
  have HLS := Lib.hid hls
  have HN : Hid (l.length ≤ 900) := by rw [Hid]; omega
  have HNN : Hid (n ≤ 100) := by rw [Hid]; omega
  clear h hs ho hm hn hln hls
  go_enter Try.func10, Try.ntmps10
  go_upto_region 1 with ((refine big_box rfl 29 _ rfl (rsA me) rfl (by kernel_rfl) ?_; intro gK3 wK3 hlK3 nK3 hbK3; have K3 := Lib.hid nK3; have LK3 := Lib.hid (Nat.le_trans (HB.out).size hlK3); have OCIK3 := Lib.hid ((CI.out).off hlK3); have ONIK3 := Lib.hid ((NI.out).off hlK3); replace CI := Lib.hid ((CI.out).keptB hbK3); replace NI := Lib.hid ((NI.out).keptB hbK3); replace HB := Lib.hid (bstep HB.out hbK3); clear hlK3 nK3 hbK3; try simp only [Act.put, List.setIfInBounds_toArray, List.set_cons_zero, List.set_cons_succ]))
  go_wp2_with ((refine big_whole rfl 29 _ rfl gK3 rfl K3.out Try.underlying29 rfl (by kernel_rfl) ?_; try simp only [Act.put, List.setIfInBounds_toArray, List.set_cons_zero, List.set_cons_succ]))
  refine (decider10_any me A n c l _ OM.out HO.out HN.out CI.out).mono ?_
  rintro e c1 ⟨q3, q5, rfl, hda, hc1⟩
  replace CI := Lib.hid ((CI.out).keptB hc1)
  replace NI := Lib.hid ((NI.out).keptB hc1)
  replace HB := Lib.hid (bstep HB.out hc1)
  clear hc1
  clear K3
  obtain ⟨E, hE⟩ : ∃ E, c1.heap.size = E := ⟨_, rfl⟩
  rw [hE] at hda
  have DA := Lib.hid hda
  have HE := Lib.hid hE
  clear hda hE
  go_upto_region 4 with ((refine big_make rfl _ _ 31 3 rfl (.int .i64 0) 1 8 Try.underlying31 info_int10p (by omega) n rfl rfl (by have := HNN.out; omega) ?_; intro gR wR hgR hrR hbR; have OC := Lib.hid ((CI.out).off (Nat.le_of_eq hgR)); have ON := Lib.hid ((NI.out).off (Nat.le_of_eq hgR)); have LW := Lib.hid (show w.heap.size ≤ gR by rw [← hgR]; exact (HB.out).size); have LE := Lib.hid (show E ≤ gR by rw [← hgR]; exact (DA.out).size); rw [made_nums n] at hrR; obtain ⟨cur0, hK0, hz0, ht0⟩ := row_cells_of hrR; have KR := Lib.hid hK0; have HZ := Lib.hid hz0; have HT0 := Lib.hid ht0; replace CI := Lib.hid ((CI.out).keptB hbR); replace NI := Lib.hid ((NI.out).keptB hbR); replace DA := Lib.hid ((DA.out).keptB hbR); replace HB := Lib.hid (bstep HB.out hbR); clear hgR hrR hbR hK0 hz0 ht0; try simp only [Act.put, List.setIfInBounds_toArray, List.set_cons_zero, List.set_cons_succ]))
  have HT : Hid (cur0.toList.take 0 = intsL ((decAllN me l ss).take 0)) := rfl
  clear HT0 HE
  go_loopg [18] n (fun gh i v => ∃ (j : Nat) (cs : Array Value), j + gh = n ∧ i = .int .i64 j ∧ Hid (Holds v gR 3 cs) ∧ Hid (n ≤ cs.size) ∧ Hid (cs.toList.take j = intsL ((decAllN me l ss).take j)) ∧ Hid (DecAt E v q3 q5 me A n c l) ∧ Hid (NumIn v (.slice A2 n2 c2) ss) ∧ Hid (Below w.heap.size w v))
  case atStart => exact ⟨0, cur0, by omega, rfl, KR, HZ, HT, DA, NI, HB⟩
  case round =>
    clear KR HZ HT DA NI HB CI
    obtain ⟨j, cs, hj, rfl, KR, HZ, HT, DA, NI, HB⟩ := hrel
    cases gk with
    | zero =>
      have hd : decide ((j : Int) < (n : Int)) = false := decide_eq_false (by omega)
      obtain rfl : j = n := by omega
      rw [List.take_of_length_le (l := decAllN me l ss) (by rw [decAll_len, HLN.out]; omega)] at HT
      go_wp2
      go_ret
      exact ⟨_, rfl, nums_of KR.out HT.out (by rw [decAll_len, HLN.out]), HB.out⟩
    | succ g1 =>
      have hlt : j < n := by omega
      have hd : decide ((j : Int) < (n : Int)) = true := decide_eq_true (by omega)
      obtain ⟨r, hr⟩ : ∃ r, l[j]? = some r := ⟨_, List.getElem?_eq_getElem (show j < l.length by rw [HLN.out]; exact hlt)⟩
      have HR := Lib.hid hr
      have HK := Lib.hid hlt
      have HST := Lib.hid (decAll_step me l ss (k := j) (by rw [HLN.out]; exact hlt))
      have HLJ : Hid (((decAllN me l ss).take j).length = j) := by rw [Hid, List.length_take, decAll_len, HLN.out]; omega
      obtain ⟨d, HD⟩ : ∃ d, Hid (decideN me l (j : Int) (ss.getD j 3) = d) := ⟨_, Lib.hid rfl⟩
      rw [HD.out] at HST
      clear hr
      go_wp2_with fail
      refine (stateof10_any A2 n2 c2 ss j _ NI.out).mono ?_
      rintro e c1 ⟨rfl, hc1⟩
      replace KR := Lib.hid ((KR.out).keptB hc1)
      replace DA := Lib.hid ((DA.out).keptB hc1)
      replace NI := Lib.hid ((NI.out).keptB hc1)
      replace HB := Lib.hid (bstep HB.out hc1)
      clear hc1
      go_wp2_with fail
      refine (dec1_any _ q3 q5 me A n c l j (ss.getD j 3) r _ OM.out HO.out DA.out HR.out).mono ?_
      rintro e c2 ⟨rfl, hc2⟩
      replace KR := Lib.hid ((KR.out).keptB hc2)
      replace DA := Lib.hid ((DA.out).keptB hc2)
      replace NI := Lib.hid ((NI.out).keptB hc2)
      replace HB := Lib.hid (bstep HB.out hc2)
      clear hc2
      rw [HD.out]
      have hnn := HNN.out
      go_wp2_with (first | (refine big_set rfl 3 _ _ rfl gR (0 + j * 1) (.int .i64 d) rfl rfl KR.out (by kernel_rfl) rfl rfl (by have := HZ.out; have := HK.out; omega) ((cs.toList.set j (.int .i64 d)).toArray) (by simp) ?_; intro w6 n6 t6; replace KR := Lib.hid n6; replace NI := Lib.hid ((NI.out).touch t6 ON.out); replace DA := Lib.hid ((DA.out).touch t6 LE.out OC.out); replace HB := Lib.hid (btouch HB.out t6 LW.out); clear n6 t6; try simp only [Act.put, List.setIfInBounds_toArray, List.set_cons_zero, List.set_cons_succ]) | (refine big_set rfl 3 _ _ rfl gR (j) (.int .i64 d) rfl rfl KR.out (by kernel_rfl) rfl rfl (by have := HZ.out; have := HK.out; omega) ((cs.toList.set j (.int .i64 d)).toArray) (by simp) ?_; intro w6 n6 t6; replace KR := Lib.hid n6; replace NI := Lib.hid ((NI.out).touch t6 ON.out); replace DA := Lib.hid ((DA.out).touch t6 LE.out OC.out); replace HB := Lib.hid (btouch HB.out t6 LW.out); clear n6 t6; try simp only [Act.put, List.setIfInBounds_toArray, List.set_cons_zero, List.set_cons_succ]) | (refine big_index rfl 31 _ _ rfl gR 0 n n j 1 rfl rfl HK.out Try.underlying31 (by kernel_rfl) ?_; try simp only [Act.put, List.setIfInBounds_toArray, List.set_cons_zero, List.set_cons_succ]))
      go_roundg g1
      case measure => omega
      case rel => exact ⟨j + 1, _, by omega, by go_num, KR, by rw [Hid]; simpa using HZ.out, by rw [Hid, HST.out]; exact set_next HT.out HLJ.out (by have := HZ.out; have := HK.out; omega), DA, NI, HB⟩

end Go.Proofs.Ytpdnfeooijmgoaa
