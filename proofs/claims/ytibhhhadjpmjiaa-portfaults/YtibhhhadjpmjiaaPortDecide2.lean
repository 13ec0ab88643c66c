/- The walk over Decide. -/
import Derived.Test.YtibhhhadjpmjiaaPortDecide
import Derived.Deep.DeepCutAuto
namespace Go.Proofs.Ytibhhhadjpmjiaa
set_option maxRecDepth 100000
open Go.RowKit
set_option linter.unusedVariables false
set_option linter.unusedSimpArgs false

set_option maxHeartbeats 4000000 in
theorem pdecide12_any (gM : Nat) (m : Pm) (code steps now : Int) (same : Bool) (w : World) (hM : Holds w gM 51 (mcA m)) (ok : m.ok) (hs : stOk m) (hcd : -9223372036854775808 ≤ code ∧ code ≤ 9223372036854775807) :
    Calls Try.prog 17 #[.pointer (some ⟨gM, 0, none⟩), .int .i64 code, .int .i64 steps, .int .i64 now, .bool same] w fun e w' => e = .returned (.tuple #[]) ∧ Holds w' gM 51 (mcA (decideP m code steps now same)) ∧ Only [gM] w.heap.size w w' := by
  cases ho : outB m
  · have H4 := Lib.hid (out_no hs ho)
    by_cases hc : code < 1 ∨ 6 < code
    · have HNO : Hid (∀ z, deedsD.atKey (.int .i64 code) z = z) := fun z => no_deed hc z
      have HC : Hid (-9223372036854775808 ≤ code ∧ code ≤ 9223372036854775807) := hcd
      clear hcd
      have HX : Hid (decideP m code steps now same = m) := decide_none hc _ _ _
      have HH := Lib.hid ho
      clear ho H4 hc
      have HO := Lib.hid (Only.refl [gM] w.heap.size w)
      have M := Lib.hid hM
      clear hM
      have HOK := Lib.hid ok
      clear ok
      go_enter Try.func17, Try.ntmps17
      go_wp2_with fail
      refine (pisout12_any gM m _ M.out).mono ?_
      rintro e w1 ⟨rfl, rfl⟩
      rw [HH.out]
      go_wp2_with fail
      refine (deeds12_any _).mono ?_
      rintro e w2 ⟨gF, rfl, hf, hg, hb⟩
      have F := Lib.hid hf
      replace M := Lib.hid ((M.out).keptB hb)
      replace HO := Lib.hid ((HO.out).step hb)
      clear hf hg hb
      go_wp2_with ((refine big_lookF (vt := 59) (z := .nilFunc) (v := .nilFunc) (b := false) rfl _ _ rfl rfl rfl HC.out F.out Try.underlying61 (nilF _) (HNO.out _) (Maps.has_false_of_atKey HNO.out) ?_; try simp only [Act.put, List.setIfInBounds_toArray, List.set_cons_zero, List.set_cons_succ]))
      go_end0
      rw [HX.out]
      exact ⟨rfl, M.out, HO.out⟩
    · obtain rfl | rfl | rfl | rfl | rfl | rfl : code = 1 ∨ code = 2 ∨ code = 3 ∨ code = 4 ∨ code = 5 ∨ code = 6 := by omega
      · clear hc hcd hs
        have HX : Hid (decideP m 1 steps now same = leadP m now 0) := decide_soon H4.out (.inl rfl) _ _ _
        have HH := Lib.hid ho
        clear ho H4
        have HO := Lib.hid (Only.refl [gM] w.heap.size w)
        have M := Lib.hid hM
        clear hM
        have HOK := Lib.hid ok
        clear ok
        go_enter Try.func17, Try.ntmps17
        go_wp2_with fail
        refine (pisout12_any gM m _ M.out).mono ?_
        rintro e w1 ⟨rfl, rfl⟩
        rw [HH.out]
        go_wp2_with fail
        refine (deeds12_any _).mono ?_
        rintro e w2 ⟨gF, rfl, hf, hg, hb⟩
        have F := Lib.hid hf
        replace M := Lib.hid ((M.out).keptB hb)
        replace HO := Lib.hid ((HO.out).step hb)
        clear hf hg hb
        go_upto_region 3 with ((refine big_lookF (vt := 59) (z := .nilFunc) (v := (.func (.func 42) #[] #[])) (b := true) rfl _ _ rfl rfl rfl (by decide) F.out Try.underlying61 (nilF _) (at_deeds1 _) (Maps.has_true_of_atKey at_deeds1) ?_; try simp only [Act.put, List.setIfInBounds_toArray, List.set_cons_zero, List.set_cons_succ]))
        go_wp2_with ((refine big_build rfl 64 _ rfl (wdA steps now same) (by kernel_rfl) ?_; try simp only [Act.put, List.setIfInBounds_toArray, List.set_cons_zero, List.set_cons_succ]))
        refine (psoon12_any gM m steps now same _ M.out HOK.out).mono ?_
        rintro e c1 ⟨rfl, hm, ho⟩
        replace M := Lib.hid hm
        replace HO := Lib.hid ((HO.out).trans ho (by simp))
        clear hm ho
        go_wp2
        go_end0
        rw [HX.out]
        exact ⟨rfl, M.out, HO.out⟩
      · clear hc hcd hs
        have HX : Hid (decideP m 2 steps now same = leadP m now 0) := decide_soon H4.out (.inr rfl) _ _ _
        have HH := Lib.hid ho
        clear ho H4
        have HO := Lib.hid (Only.refl [gM] w.heap.size w)
        have M := Lib.hid hM
        clear hM
        have HOK := Lib.hid ok
        clear ok
        go_enter Try.func17, Try.ntmps17
        go_wp2_with fail
        refine (pisout12_any gM m _ M.out).mono ?_
        rintro e w1 ⟨rfl, rfl⟩
        rw [HH.out]
        go_wp2_with fail
        refine (deeds12_any _).mono ?_
        rintro e w2 ⟨gF, rfl, hf, hg, hb⟩
        have F := Lib.hid hf
        replace M := Lib.hid ((M.out).keptB hb)
        replace HO := Lib.hid ((HO.out).step hb)
        clear hf hg hb
        go_upto_region 3 with ((refine big_lookF (vt := 59) (z := .nilFunc) (v := (.func (.func 42) #[] #[])) (b := true) rfl _ _ rfl rfl rfl (by decide) F.out Try.underlying61 (nilF _) (at_deeds2 _) (Maps.has_true_of_atKey at_deeds2) ?_; try simp only [Act.put, List.setIfInBounds_toArray, List.set_cons_zero, List.set_cons_succ]))
        go_wp2_with ((refine big_build rfl 64 _ rfl (wdA steps now same) (by kernel_rfl) ?_; try simp only [Act.put, List.setIfInBounds_toArray, List.set_cons_zero, List.set_cons_succ]))
        refine (psoon12_any gM m steps now same _ M.out HOK.out).mono ?_
        rintro e c1 ⟨rfl, hm, ho⟩
        replace M := Lib.hid hm
        replace HO := Lib.hid ((HO.out).trans ho (by simp))
        clear hm ho
        go_wp2
        go_end0
        rw [HX.out]
        exact ⟨rfl, M.out, HO.out⟩
      · clear hc hcd hs
        have HX : Hid (decideP m 3 steps now same = leadP m now ((stepsN steps + 1) * m.ev)) := decide_later H4.out _ _ _
        have HH := Lib.hid ho
        clear ho H4
        have HO := Lib.hid (Only.refl [gM] w.heap.size w)
        have M := Lib.hid hM
        clear hM
        have HOK := Lib.hid ok
        clear ok
        go_enter Try.func17, Try.ntmps17
        go_wp2_with fail
        refine (pisout12_any gM m _ M.out).mono ?_
        rintro e w1 ⟨rfl, rfl⟩
        rw [HH.out]
        go_wp2_with fail
        refine (deeds12_any _).mono ?_
        rintro e w2 ⟨gF, rfl, hf, hg, hb⟩
        have F := Lib.hid hf
        replace M := Lib.hid ((M.out).keptB hb)
        replace HO := Lib.hid ((HO.out).step hb)
        clear hf hg hb
        go_upto_region 3 with ((refine big_lookF (vt := 59) (z := .nilFunc) (v := (.func (.func 43) #[] #[])) (b := true) rfl _ _ rfl rfl rfl (by decide) F.out Try.underlying61 (nilF _) (at_deeds3 _) (Maps.has_true_of_atKey at_deeds3) ?_; try simp only [Act.put, List.setIfInBounds_toArray, List.set_cons_zero, List.set_cons_succ]))
        go_wp2_with ((refine big_build rfl 64 _ rfl (wdA steps now same) (by kernel_rfl) ?_; try simp only [Act.put, List.setIfInBounds_toArray, List.set_cons_zero, List.set_cons_succ]))
        refine (plater2_any gM m steps now same _ M.out HOK.out).mono ?_
        rintro e c1 ⟨rfl, hm, ho⟩
        replace M := Lib.hid hm
        replace HO := Lib.hid ((HO.out).trans ho (by simp))
        clear hm ho
        go_wp2
        go_end0
        rw [HX.out]
        exact ⟨rfl, M.out, HO.out⟩
      · clear hc hcd hs
        have HX : Hid (decideP m 4 steps now same = followP m now same) := decide_follow H4.out _ _ _
        have HH := Lib.hid ho
        clear ho H4
        have HO := Lib.hid (Only.refl [gM] w.heap.size w)
        have M := Lib.hid hM
        clear hM
        have HOK := Lib.hid ok
        clear ok
        go_enter Try.func17, Try.ntmps17
        go_wp2_with fail
        refine (pisout12_any gM m _ M.out).mono ?_
        rintro e w1 ⟨rfl, rfl⟩
        rw [HH.out]
        go_wp2_with fail
        refine (deeds12_any _).mono ?_
        rintro e w2 ⟨gF, rfl, hf, hg, hb⟩
        have F := Lib.hid hf
        replace M := Lib.hid ((M.out).keptB hb)
        replace HO := Lib.hid ((HO.out).step hb)
        clear hf hg hb
        go_upto_region 3 with ((refine big_lookF (vt := 59) (z := .nilFunc) (v := (.func (.func 45) #[] #[])) (b := true) rfl _ _ rfl rfl rfl (by decide) F.out Try.underlying61 (nilF _) (at_deeds4 _) (Maps.has_true_of_atKey at_deeds4) ?_; try simp only [Act.put, List.setIfInBounds_toArray, List.set_cons_zero, List.set_cons_succ]))
        go_wp2_with ((refine big_build rfl 64 _ rfl (wdA steps now same) (by kernel_rfl) ?_; try simp only [Act.put, List.setIfInBounds_toArray, List.set_cons_zero, List.set_cons_succ]))
        refine (pfollow12_any gM m steps now same _ M.out HOK.out).mono ?_
        rintro e c1 ⟨rfl, hm, ho⟩
        replace M := Lib.hid hm
        replace HO := Lib.hid ((HO.out).trans ho (by simp))
        clear hm ho
        go_wp2
        go_end0
        rw [HX.out]
        exact ⟨rfl, M.out, HO.out⟩
      · clear hc hcd hs
        have HX : Hid (decideP m 5 steps now same = passP m now) := decide_pass H4.out (.inl rfl) _ _ _
        have HH := Lib.hid ho
        clear ho H4
        have HO := Lib.hid (Only.refl [gM] w.heap.size w)
        have M := Lib.hid hM
        clear hM
        have HOK := Lib.hid ok
        clear ok
        go_enter Try.func17, Try.ntmps17
        go_wp2_with fail
        refine (pisout12_any gM m _ M.out).mono ?_
        rintro e w1 ⟨rfl, rfl⟩
        rw [HH.out]
        go_wp2_with fail
        refine (deeds12_any _).mono ?_
        rintro e w2 ⟨gF, rfl, hf, hg, hb⟩
        have F := Lib.hid hf
        replace M := Lib.hid ((M.out).keptB hb)
        replace HO := Lib.hid ((HO.out).step hb)
        clear hf hg hb
        go_upto_region 3 with ((refine big_lookF (vt := 59) (z := .nilFunc) (v := (.func (.func 44) #[] #[])) (b := true) rfl _ _ rfl rfl rfl (by decide) F.out Try.underlying61 (nilF _) (at_deeds5 _) (Maps.has_true_of_atKey at_deeds5) ?_; try simp only [Act.put, List.setIfInBounds_toArray, List.set_cons_zero, List.set_cons_succ]))
        go_wp2_with ((refine big_build rfl 64 _ rfl (wdA steps now same) (by kernel_rfl) ?_; try simp only [Act.put, List.setIfInBounds_toArray, List.set_cons_zero, List.set_cons_succ]))
        refine (ppass12_any gM m steps now same _ M.out HOK.out).mono ?_
        rintro e c1 ⟨rfl, hm, ho⟩
        replace M := Lib.hid hm
        replace HO := Lib.hid ((HO.out).trans ho (by simp))
        clear hm ho
        go_wp2
        go_end0
        rw [HX.out]
        exact ⟨rfl, M.out, HO.out⟩
      · clear hc hcd hs
        have HX : Hid (decideP m 6 steps now same = passP m now) := decide_pass H4.out (.inr rfl) _ _ _
        have HH := Lib.hid ho
        clear ho H4
        have HO := Lib.hid (Only.refl [gM] w.heap.size w)
        have M := Lib.hid hM
        clear hM
        have HOK := Lib.hid ok
        clear ok
        go_enter Try.func17, Try.ntmps17
        go_wp2_with fail
        refine (pisout12_any gM m _ M.out).mono ?_
        rintro e w1 ⟨rfl, rfl⟩
        rw [HH.out]
        go_wp2_with fail
        refine (deeds12_any _).mono ?_
        rintro e w2 ⟨gF, rfl, hf, hg, hb⟩
        have F := Lib.hid hf
        replace M := Lib.hid ((M.out).keptB hb)
        replace HO := Lib.hid ((HO.out).step hb)
        clear hf hg hb
        go_upto_region 3 with ((refine big_lookF (vt := 59) (z := .nilFunc) (v := (.func (.func 44) #[] #[])) (b := true) rfl _ _ rfl rfl rfl (by decide) F.out Try.underlying61 (nilF _) (at_deeds6 _) (Maps.has_true_of_atKey at_deeds6) ?_; try simp only [Act.put, List.setIfInBounds_toArray, List.set_cons_zero, List.set_cons_succ]))
        go_wp2_with ((refine big_build rfl 64 _ rfl (wdA steps now same) (by kernel_rfl) ?_; try simp only [Act.put, List.setIfInBounds_toArray, List.set_cons_zero, List.set_cons_succ]))
        refine (ppass12_any gM m steps now same _ M.out HOK.out).mono ?_
        rintro e c1 ⟨rfl, hm, ho⟩
        replace M := Lib.hid hm
        replace HO := Lib.hid ((HO.out).trans ho (by simp))
        clear hm ho
        go_wp2
        go_end0
        rw [HX.out]
        exact ⟨rfl, M.out, HO.out⟩
  · have HX := Lib.hid (decide_out ho code steps now same)
    have HH := Lib.hid ho
    clear ho
    have HO := Lib.hid (Only.refl [gM] w.heap.size w)
    have M := Lib.hid hM
    clear hM
    have HOK := Lib.hid ok
    clear ok
    go_enter Try.func17, Try.ntmps17
    go_wp2_with fail
    refine (pisout12_any gM m _ M.out).mono ?_
    rintro e w1 ⟨rfl, rfl⟩
    rw [HH.out]
    go_wp2
    try simp only [Exit.inBlock, Exit.then]
    refine bodyPost_ret (results_none rfl _ _ _) rfl ?_
    rw [HX.out]
    exact ⟨rfl, M.out, HO.out⟩

end Go.Proofs.Ytibhhhadjpmjiaa
