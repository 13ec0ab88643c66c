/- The walk over Tick. -/
import Derived.Test.YtibhhhadjpmjiaaPortOne
import Derived.Deep.DeepCutAuto
namespace Go.Proofs.Ytibhhhadjpmjiaa
set_option maxRecDepth 100000
open Go.RowKit
set_option linter.unusedVariables false
set_option linter.unusedSimpArgs false

theorem wait_no {m : Pm} (h : waitPB m = false) : m.st ≠ 5 := by
  unfold waitPB at h
  rw [Bool.or_eq_false_iff] at h
  simpa using h.2
theorem hears_no {m : Pm} (h : waitPB m = false) : hearsB m = false := by
  unfold waitPB at h
  rw [Bool.or_eq_false_iff] at h
  exact h.1
theorem wait_yes {m : Pm} (h : waitPB m = true) : ¬ (m.st ≠ 5 ∧ hearsB m = false) := by
  rintro ⟨h1, h2⟩
  unfold waitPB at h
  rw [h2] at h
  exact h1 (by simpa using h)
set_option maxHeartbeats 4000000 in
theorem ptick12_any (gM : Nat) (m : Pm) (now : Int) (w : World) (hM : Holds w gM 51 (mcA m)) (ok : m.ok) :
    Calls Try.prog 19 #[.pointer (some ⟨gM, 0, none⟩), .int .i64 now] w fun e w' => e = .returned (.int .i64 (tickN m now)) ∧ Holds w' gM 51 (mcA (tickP m now)) ∧ Only [gM] w.heap.size w w' := by
  cases hw : waitPB m
  · have HX : Hid (tickP m now = m) := by unfold tickP; rw [Hid, if_pos (.inl ⟨wait_no hw, hears_no hw⟩)]
    have HY : Hid (tickN m now = 0) := by unfold tickN; rw [Hid, if_pos (.inl ⟨wait_no hw, hears_no hw⟩)]
    have HW := Lib.hid hw
    clear hw
    have HO := Lib.hid (Only.refl [gM] w.heap.size w)
    have M := Lib.hid hM
    clear hM
    have HOK := Lib.hid ok
    clear ok
    go_enter Try.func19, Try.ntmps19
    go_upto_region 2 with fail
    refine wp_region_held_drew (S := fun v => Holds v gM 51 (mcA m) ∧ Only [gM] w.heap.size w v) (by kernel_rfl) ?_ (fun hHeld => ?_)
    · exact ⟨(M.out).drew, only_drew HO.out⟩
    clear M HO
    refine wpAnyH_take (i := 0) (v := .pointer (some ⟨gM, 0, none⟩)) (at_list rfl) (by kernel_rfl) (by kernel_rfl) (by kernel_rfl) (fun _ _ _ h => h) (Or.inl ⟨by rfl, ?_⟩) hHeld ?_
    · intro v hSv
      clear hHeld
      go_simp
    try simp only [Act.put, List.setIfInBounds_toArray, List.set_cons_zero, List.set_cons_succ]
    refine wpAnyH_ready (rs := [1]) (by kernel_rfl) (by simp) ?_
    refine AllReadyH.cons (at_list rfl) (fun K hK => ?_) AllReadyH.nil
    go_simp
    refine (pwaits12_any gM m _ hHeld.1).mono ?_
    rintro e v1 ⟨rfl, rfl⟩
    rw [HW.out]
    go_wp2_with fail
    refine hK.out _ _ ?_ (fun hHeld2 => ?_)
    · exact hHeld
    clear hK K hHeld
    have hHeld := hHeld2
    clear hHeld2
    try simp only [Act.put, List.setIfInBounds_toArray, List.set_cons_zero, List.set_cons_succ]
    refine wpAnyH_take (i := 2) (v := .bool true) (at_list rfl) (by kernel_rfl) (by kernel_rfl) (by kernel_rfl) (fun _ _ _ h => h) (Or.inl ⟨by rfl, ?_⟩) hHeld ?_
    · intro v hSv
      clear hHeld
      go_simp
    try simp only [Act.put, List.setIfInBounds_toArray, List.set_cons_zero, List.set_cons_succ]
    refine wpAnyH_take (i := 3) (v := .bool true) (at_list rfl) (by kernel_rfl) (by kernel_rfl) (by kernel_rfl) (fun _ _ _ h => h) (Or.inl ⟨by rfl, ?_⟩) hHeld ?_
    · intro v hSv
      clear hHeld
      go_simp
    try simp only [Act.put, List.setIfInBounds_toArray, List.set_cons_zero, List.set_cons_succ]
    refine wpAnyH_take (i := 4) (v := undef) (at_list rfl) (by kernel_rfl) (by kernel_rfl) (by kernel_rfl) (fun _ _ _ h => h) (Or.inr ⟨by rfl, rfl⟩) hHeld ?_
    try simp only [Act.put, List.setIfInBounds_toArray, List.set_cons_zero, List.set_cons_succ]
    refine wpAnyH_take (i := 5) (v := undef) (at_list rfl) (by kernel_rfl) (by kernel_rfl) (by kernel_rfl) (fun _ _ _ h => h) (Or.inr ⟨by rfl, rfl⟩) hHeld ?_
    try simp only [Act.put, List.setIfInBounds_toArray, List.set_cons_zero, List.set_cons_succ]
    refine wpAnyH_take (i := 6) (v := undef) (at_list rfl) (by kernel_rfl) (by kernel_rfl) (by kernel_rfl) (fun _ _ _ h => h) (Or.inr ⟨by rfl, rfl⟩) hHeld ?_
    try simp only [Act.put, List.setIfInBounds_toArray, List.set_cons_zero, List.set_cons_succ]
    refine wpAnyH_take (i := 7) (v := undef) (at_list rfl) (by kernel_rfl) (by kernel_rfl) (by kernel_rfl) (fun _ _ _ h => h) (Or.inr ⟨by rfl, rfl⟩) hHeld ?_
    try simp only [Act.put, List.setIfInBounds_toArray, List.set_cons_zero, List.set_cons_succ]
    refine wpAnyH_take (i := 8) (v := undef) (at_list rfl) (by kernel_rfl) (by kernel_rfl) (by kernel_rfl) (fun _ _ _ h => h) (Or.inr ⟨by rfl, rfl⟩) hHeld ?_
    try simp only [Act.put, List.setIfInBounds_toArray, List.set_cons_zero, List.set_cons_succ]
    refine wpAnyH_take (i := 9) (v := undef) (at_list rfl) (by kernel_rfl) (by kernel_rfl) (by kernel_rfl) (fun _ _ _ h => h) (Or.inr ⟨by rfl, rfl⟩) hHeld ?_
    try simp only [Act.put, List.setIfInBounds_toArray, List.set_cons_zero, List.set_cons_succ]
    refine wpAnyH_take (i := 10) (v := undef) (at_list rfl) (by kernel_rfl) (by kernel_rfl) (by kernel_rfl) (fun _ _ _ h => h) (Or.inr ⟨by rfl, rfl⟩) hHeld ?_
    try simp only [Act.put, List.setIfInBounds_toArray, List.set_cons_zero, List.set_cons_succ]
    refine wpAnyH_take (i := 11) (v := .bool true) (at_list rfl) (by kernel_rfl) (by kernel_rfl) (by kernel_rfl) (fun _ _ _ h => h) (Or.inl ⟨by rfl, ?_⟩) hHeld ?_
    · intro v hSv
      clear hHeld
      go_simp
    try simp only [Act.put, List.setIfInBounds_toArray, List.set_cons_zero, List.set_cons_succ]
    refine wpAnyH_take (i := 12) (v := .bool true) (at_list rfl) (by kernel_rfl) (by kernel_rfl) (by kernel_rfl) (fun _ _ _ h => h) (Or.inl ⟨by rfl, ?_⟩) hHeld ?_
    · intro v hSv
      clear hHeld
      go_simp
    try simp only [Act.put, List.setIfInBounds_toArray, List.set_cons_zero, List.set_cons_succ]
    refine wpAnyH_done (by kernel_rfl) ?_ _
    have M := Lib.hid hHeld.1
    have HO := Lib.hid hHeld.2
    clear hHeld
    go_wp2
    go_ret
    rw [HX.out, HY.out]
    exact ⟨rfl, M.out, HO.out⟩
  · by_cases q1 : timeN now < m.un
    · have HX : Hid (tickP m now = m) := by unfold tickP; rw [Hid, if_pos (.inr q1)]
      have HY : Hid (tickN m now = 0) := by unfold tickN; rw [Hid, if_pos (.inr q1)]
      have de : decide (timeN now < m.un) = true := decide_eq_true q1
      have HW := Lib.hid hw
      clear hw q1
      have HO := Lib.hid (Only.refl [gM] w.heap.size w)
      have M := Lib.hid hM
      clear hM
      have HOK := Lib.hid ok
      clear ok
      go_enter Try.func19, Try.ntmps19
      go_upto_region 2 with fail
      refine wp_region_held_drew (S := fun v => Holds v gM 51 (mcA m) ∧ Only [gM] w.heap.size w v) (by kernel_rfl) ?_ (fun hHeld => ?_)
      · exact ⟨(M.out).drew, only_drew HO.out⟩
      clear M HO
      refine wpAnyH_take (i := 0) (v := .pointer (some ⟨gM, 0, none⟩)) (at_list rfl) (by kernel_rfl) (by kernel_rfl) (by kernel_rfl) (fun _ _ _ h => h) (Or.inl ⟨by rfl, ?_⟩) hHeld ?_
      · intro v hSv
        clear hHeld
        go_simp
      try simp only [Act.put, List.setIfInBounds_toArray, List.set_cons_zero, List.set_cons_succ]
      refine wpAnyH_ready (rs := [1]) (by kernel_rfl) (by simp) ?_
      refine AllReadyH.cons (at_list rfl) (fun K hK => ?_) AllReadyH.nil
      go_simp
      refine (pwaits12_any gM m _ hHeld.1).mono ?_
      rintro e v1 ⟨rfl, rfl⟩
      rw [HW.out]
      go_wp2_with fail
      refine hK.out _ _ ?_ (fun hHeld2 => ?_)
      · exact hHeld
      clear hK K hHeld
      have hHeld := hHeld2
      clear hHeld2
      try simp only [Act.put, List.setIfInBounds_toArray, List.set_cons_zero, List.set_cons_succ]
      refine wpAnyH_take (i := 2) (v := .bool false) (at_list rfl) (by kernel_rfl) (by kernel_rfl) (by kernel_rfl) (fun _ _ _ h => h) (Or.inl ⟨by rfl, ?_⟩) hHeld ?_
      · intro v hSv
        clear hHeld
        go_simp
      try simp only [Act.put, List.setIfInBounds_toArray, List.set_cons_zero, List.set_cons_succ]
      refine wpAnyH_take (i := 3) (v := .bool false) (at_list rfl) (by kernel_rfl) (by kernel_rfl) (by kernel_rfl) (fun _ _ _ h => h) (Or.inl ⟨by rfl, ?_⟩) hHeld ?_
      · intro v hSv
        clear hHeld
        go_simp
      try simp only [Act.put, List.setIfInBounds_toArray, List.set_cons_zero, List.set_cons_succ]
      refine wpAnyH_take (i := 4) (v := .int .i64 now) (at_list rfl) (by kernel_rfl) (by kernel_rfl) (by kernel_rfl) (fun _ _ _ h => h) (Or.inl ⟨by rfl, ?_⟩) hHeld ?_
      · intro v hSv
        clear hHeld
        go_simp
      try simp only [Act.put, List.setIfInBounds_toArray, List.set_cons_zero, List.set_cons_succ]
      refine wpAnyH_take (i := 6) (v := .pointer (some ⟨gM, 0, none⟩)) (at_list rfl) (by kernel_rfl) (by kernel_rfl) (by kernel_rfl) (fun _ _ _ h => h) (Or.inl ⟨by rfl, ?_⟩) hHeld ?_
      · intro v hSv
        clear hHeld
        go_simp
      try simp only [Act.put, List.setIfInBounds_toArray, List.set_cons_zero, List.set_cons_succ]
      refine wpAnyH_take (i := 7) (v := .pointer (some ⟨gM, 0, none⟩)) (at_list rfl) (by kernel_rfl) (by kernel_rfl) (by kernel_rfl) (fun _ _ _ h => h) (Or.inl ⟨by rfl, ?_⟩) hHeld ?_
      · intro v hSv
        clear hHeld
        go_simp
      try simp only [Act.put, List.setIfInBounds_toArray, List.set_cons_zero, List.set_cons_succ]
      refine wpAnyH_take (i := 8) (v := .pointer (some ⟨gM, 4, none⟩)) (at_list rfl) (by kernel_rfl) (by kernel_rfl) (by kernel_rfl) (fun _ _ _ h => h) (Or.inl ⟨by rfl, ?_⟩) hHeld ?_
      · intro v hSv
        clear hHeld
        go_simp
      try simp only [Act.put, List.setIfInBounds_toArray, List.set_cons_zero, List.set_cons_succ]
      refine wpAnyH_take (i := 9) (v := .int .i64 m.un) (at_list rfl) (by kernel_rfl) (by kernel_rfl) (by kernel_rfl) (fun _ _ _ h => h) (Or.inl ⟨by rfl, ?_⟩) hHeld ?_
      · intro v hSv
        clear hHeld
        have q := Holds.reads (hSv.1) (i := 4) (x := .int .i64 m.un) rfl
        clear hSv
        go_simp
      try simp only [Act.put, List.setIfInBounds_toArray, List.set_cons_zero, List.set_cons_succ]
      refine wpAnyH_ready (rs := [5]) (by kernel_rfl) (by simp) ?_
      refine AllReadyH.cons (at_list rfl) (fun K hK => ?_) AllReadyH.nil
      go_simp
      refine (pcounted12_any now _).mono ?_
      rintro e v9 ⟨rfl, rfl⟩
      go_wp2_with fail
      refine hK.out _ _ ?_ (fun hHeld2 => ?_)
      · exact hHeld
      clear hK K hHeld
      have hHeld := hHeld2
      clear hHeld2
      try simp only [Act.put, List.setIfInBounds_toArray, List.set_cons_zero, List.set_cons_succ]
      refine wpAnyH_take (i := 10) (v := .bool true) (at_list rfl) (by kernel_rfl) (by kernel_rfl) (by kernel_rfl) (fun _ _ _ h => h) (Or.inl ⟨by rfl, ?_⟩) hHeld ?_
      · intro v hSv
        clear hHeld
        go_simp
      try simp only [Act.put, List.setIfInBounds_toArray, List.set_cons_zero, List.set_cons_succ]
      refine wpAnyH_take (i := 11) (v := .bool true) (at_list rfl) (by kernel_rfl) (by kernel_rfl) (by kernel_rfl) (fun _ _ _ h => h) (Or.inl ⟨by rfl, ?_⟩) hHeld ?_
      · intro v hSv
        clear hHeld
        go_simp
      try simp only [Act.put, List.setIfInBounds_toArray, List.set_cons_zero, List.set_cons_succ]
      refine wpAnyH_take (i := 12) (v := .bool true) (at_list rfl) (by kernel_rfl) (by kernel_rfl) (by kernel_rfl) (fun _ _ _ h => h) (Or.inl ⟨by rfl, ?_⟩) hHeld ?_
      · intro v hSv
        clear hHeld
        go_simp
      try simp only [Act.put, List.setIfInBounds_toArray, List.set_cons_zero, List.set_cons_succ]
      refine wpAnyH_done (by kernel_rfl) ?_ _
      have M := Lib.hid hHeld.1
      have HO := Lib.hid hHeld.2
      clear hHeld
      go_wp2
      go_ret
      rw [HX.out, HY.out]
      exact ⟨rfl, M.out, HO.out⟩
    · by_cases q5 : m.st = 5
      · have HX : Hid (tickP m now = restP m 6) := by unfold tickP; rw [Hid, if_neg (fun h => h.elim (wait_yes hw) q1), if_pos q5]
        have HY : Hid (tickN m now = 1) := by unfold tickN; rw [Hid, if_neg (fun h => h.elim (wait_yes hw) q1), if_pos q5]
        have de : decide (timeN now < m.un) = false := decide_eq_false q1
        have e5 : (m.st == 5) = true := by simp [q5]
        have HW := Lib.hid hw
        clear hw q1 q5
        have HO := Lib.hid (Only.refl [gM] w.heap.size w)
        have M := Lib.hid hM
        clear hM
        have HOK := Lib.hid ok
        clear ok
        go_enter Try.func19, Try.ntmps19
        go_upto_region 2 with fail
        refine wp_region_held_drew (S := fun v => Holds v gM 51 (mcA m) ∧ Only [gM] w.heap.size w v) (by kernel_rfl) ?_ (fun hHeld => ?_)
        · exact ⟨(M.out).drew, only_drew HO.out⟩
        clear M HO
        refine wpAnyH_take (i := 0) (v := .pointer (some ⟨gM, 0, none⟩)) (at_list rfl) (by kernel_rfl) (by kernel_rfl) (by kernel_rfl) (fun _ _ _ h => h) (Or.inl ⟨by rfl, ?_⟩) hHeld ?_
        · intro v hSv
          clear hHeld
          go_simp
        try simp only [Act.put, List.setIfInBounds_toArray, List.set_cons_zero, List.set_cons_succ]
        refine wpAnyH_ready (rs := [1]) (by kernel_rfl) (by simp) ?_
        refine AllReadyH.cons (at_list rfl) (fun K hK => ?_) AllReadyH.nil
        go_simp
        refine (pwaits12_any gM m _ hHeld.1).mono ?_
        rintro e v1 ⟨rfl, rfl⟩
        rw [HW.out]
        go_wp2_with fail
        refine hK.out _ _ ?_ (fun hHeld2 => ?_)
        · exact hHeld
        clear hK K hHeld
        have hHeld := hHeld2
        clear hHeld2
        try simp only [Act.put, List.setIfInBounds_toArray, List.set_cons_zero, List.set_cons_succ]
        refine wpAnyH_take (i := 2) (v := .bool false) (at_list rfl) (by kernel_rfl) (by kernel_rfl) (by kernel_rfl) (fun _ _ _ h => h) (Or.inl ⟨by rfl, ?_⟩) hHeld ?_
        · intro v hSv
          clear hHeld
          go_simp
        try simp only [Act.put, List.setIfInBounds_toArray, List.set_cons_zero, List.set_cons_succ]
        refine wpAnyH_take (i := 3) (v := .bool false) (at_list rfl) (by kernel_rfl) (by kernel_rfl) (by kernel_rfl) (fun _ _ _ h => h) (Or.inl ⟨by rfl, ?_⟩) hHeld ?_
        · intro v hSv
          clear hHeld
          go_simp
        try simp only [Act.put, List.setIfInBounds_toArray, List.set_cons_zero, List.set_cons_succ]
        refine wpAnyH_take (i := 4) (v := .int .i64 now) (at_list rfl) (by kernel_rfl) (by kernel_rfl) (by kernel_rfl) (fun _ _ _ h => h) (Or.inl ⟨by rfl, ?_⟩) hHeld ?_
        · intro v hSv
          clear hHeld
          go_simp
        try simp only [Act.put, List.setIfInBounds_toArray, List.set_cons_zero, List.set_cons_succ]
        refine wpAnyH_take (i := 6) (v := .pointer (some ⟨gM, 0, none⟩)) (at_list rfl) (by kernel_rfl) (by kernel_rfl) (by kernel_rfl) (fun _ _ _ h => h) (Or.inl ⟨by rfl, ?_⟩) hHeld ?_
        · intro v hSv
          clear hHeld
          go_simp
        try simp only [Act.put, List.setIfInBounds_toArray, List.set_cons_zero, List.set_cons_succ]
        refine wpAnyH_take (i := 7) (v := .pointer (some ⟨gM, 0, none⟩)) (at_list rfl) (by kernel_rfl) (by kernel_rfl) (by kernel_rfl) (fun _ _ _ h => h) (Or.inl ⟨by rfl, ?_⟩) hHeld ?_
        · intro v hSv
          clear hHeld
          go_simp
        try simp only [Act.put, List.setIfInBounds_toArray, List.set_cons_zero, List.set_cons_succ]
        refine wpAnyH_take (i := 8) (v := .pointer (some ⟨gM, 4, none⟩)) (at_list rfl) (by kernel_rfl) (by kernel_rfl) (by kernel_rfl) (fun _ _ _ h => h) (Or.inl ⟨by rfl, ?_⟩) hHeld ?_
        · intro v hSv
          clear hHeld
          go_simp
        try simp only [Act.put, List.setIfInBounds_toArray, List.set_cons_zero, List.set_cons_succ]
        refine wpAnyH_take (i := 9) (v := .int .i64 m.un) (at_list rfl) (by kernel_rfl) (by kernel_rfl) (by kernel_rfl) (fun _ _ _ h => h) (Or.inl ⟨by rfl, ?_⟩) hHeld ?_
        · intro v hSv
          clear hHeld
          have q := Holds.reads (hSv.1) (i := 4) (x := .int .i64 m.un) rfl
          clear hSv
          go_simp
        try simp only [Act.put, List.setIfInBounds_toArray, List.set_cons_zero, List.set_cons_succ]
        refine wpAnyH_ready (rs := [5]) (by kernel_rfl) (by simp) ?_
        refine AllReadyH.cons (at_list rfl) (fun K hK => ?_) AllReadyH.nil
        go_simp
        refine (pcounted12_any now _).mono ?_
        rintro e v9 ⟨rfl, rfl⟩
        go_wp2_with fail
        refine hK.out _ _ ?_ (fun hHeld2 => ?_)
        · exact hHeld
        clear hK K hHeld
        have hHeld := hHeld2
        clear hHeld2
        try simp only [Act.put, List.setIfInBounds_toArray, List.set_cons_zero, List.set_cons_succ]
        refine wpAnyH_take (i := 10) (v := .bool false) (at_list rfl) (by kernel_rfl) (by kernel_rfl) (by kernel_rfl) (fun _ _ _ h => h) (Or.inl ⟨by rfl, ?_⟩) hHeld ?_
        · intro v hSv
          clear hHeld
          go_simp
        try simp only [Act.put, List.setIfInBounds_toArray, List.set_cons_zero, List.set_cons_succ]
        refine wpAnyH_take (i := 11) (v := .bool false) (at_list rfl) (by kernel_rfl) (by kernel_rfl) (by kernel_rfl) (fun _ _ _ h => h) (Or.inl ⟨by rfl, ?_⟩) hHeld ?_
        · intro v hSv
          clear hHeld
          go_simp
        try simp only [Act.put, List.setIfInBounds_toArray, List.set_cons_zero, List.set_cons_succ]
        refine wpAnyH_take (i := 12) (v := .bool false) (at_list rfl) (by kernel_rfl) (by kernel_rfl) (by kernel_rfl) (fun _ _ _ h => h) (Or.inl ⟨by rfl, ?_⟩) hHeld ?_
        · intro v hSv
          clear hHeld
          go_simp
        try simp only [Act.put, List.setIfInBounds_toArray, List.set_cons_zero, List.set_cons_succ]
        refine wpAnyH_done (by kernel_rfl) ?_ _
        have M := Lib.hid hHeld.1
        have HO := Lib.hid hHeld.2
        clear hHeld
        have x3 := (M.out).reads (i := 3) (x := .int .i64 m.st) rfl
        go_upto_region 5 with fail
        go_wp2_with fail
        clear x3
        refine (prest12_any gM m 6 _ M.out).mono ?_
        rintro e c1 ⟨rfl, hm, ho⟩
        replace M := Lib.hid hm
        replace HO := Lib.hid ((HO.out).trans ho (by simp))
        clear hm ho
        go_wp2
        go_ret
        rw [HX.out, HY.out]
        exact ⟨rfl, M.out, HO.out⟩
      · cases hsl : m.sl
        · have HX : Hid (tickP m now = restP m 6) := by unfold tickP; rw [Hid, if_neg (fun h => h.elim (wait_yes hw) q1), if_neg q5, hsl, if_neg (by decide)]
          have HY : Hid (tickN m now = 2) := by unfold tickN; rw [Hid, if_neg (fun h => h.elim (wait_yes hw) q1), if_neg q5]
          have de : decide (timeN now < m.un) = false := decide_eq_false q1
          have e5 : (m.st == 5) = false := by simpa using q5
          have HW := Lib.hid hw
          have HSL := Lib.hid hsl
          clear hw q1 q5 hsl
          have HO := Lib.hid (Only.refl [gM] w.heap.size w)
          have M := Lib.hid hM
          clear hM
          have HOK := Lib.hid ok
          clear ok
          go_enter Try.func19, Try.ntmps19
          go_upto_region 2 with fail
          refine wp_region_held_drew (S := fun v => Holds v gM 51 (mcA m) ∧ Only [gM] w.heap.size w v) (by kernel_rfl) ?_ (fun hHeld => ?_)
          · exact ⟨(M.out).drew, only_drew HO.out⟩
          clear M HO
          refine wpAnyH_take (i := 0) (v := .pointer (some ⟨gM, 0, none⟩)) (at_list rfl) (by kernel_rfl) (by kernel_rfl) (by kernel_rfl) (fun _ _ _ h => h) (Or.inl ⟨by rfl, ?_⟩) hHeld ?_
          · intro v hSv
            clear hHeld
            go_simp
          try simp only [Act.put, List.setIfInBounds_toArray, List.set_cons_zero, List.set_cons_succ]
          refine wpAnyH_ready (rs := [1]) (by kernel_rfl) (by simp) ?_
          refine AllReadyH.cons (at_list rfl) (fun K hK => ?_) AllReadyH.nil
          go_simp
          refine (pwaits12_any gM m _ hHeld.1).mono ?_
          rintro e v1 ⟨rfl, rfl⟩
          rw [HW.out]
          go_wp2_with fail
          refine hK.out _ _ ?_ (fun hHeld2 => ?_)
          · exact hHeld
          clear hK K hHeld
          have hHeld := hHeld2
          clear hHeld2
          try simp only [Act.put, List.setIfInBounds_toArray, List.set_cons_zero, List.set_cons_succ]
          refine wpAnyH_take (i := 2) (v := .bool false) (at_list rfl) (by kernel_rfl) (by kernel_rfl) (by kernel_rfl) (fun _ _ _ h => h) (Or.inl ⟨by rfl, ?_⟩) hHeld ?_
          · intro v hSv
            clear hHeld
            go_simp
          try simp only [Act.put, List.setIfInBounds_toArray, List.set_cons_zero, List.set_cons_succ]
          refine wpAnyH_take (i := 3) (v := .bool false) (at_list rfl) (by kernel_rfl) (by kernel_rfl) (by kernel_rfl) (fun _ _ _ h => h) (Or.inl ⟨by rfl, ?_⟩) hHeld ?_
          · intro v hSv
            clear hHeld
            go_simp
          try simp only [Act.put, List.setIfInBounds_toArray, List.set_cons_zero, List.set_cons_succ]
          refine wpAnyH_take (i := 4) (v := .int .i64 now) (at_list rfl) (by kernel_rfl) (by kernel_rfl) (by kernel_rfl) (fun _ _ _ h => h) (Or.inl ⟨by rfl, ?_⟩) hHeld ?_
          · intro v hSv
            clear hHeld
            go_simp
          try simp only [Act.put, List.setIfInBounds_toArray, List.set_cons_zero, List.set_cons_succ]
          refine wpAnyH_take (i := 6) (v := .pointer (some ⟨gM, 0, none⟩)) (at_list rfl) (by kernel_rfl) (by kernel_rfl) (by kernel_rfl) (fun _ _ _ h => h) (Or.inl ⟨by rfl, ?_⟩) hHeld ?_
          · intro v hSv
            clear hHeld
            go_simp
          try simp only [Act.put, List.setIfInBounds_toArray, List.set_cons_zero, List.set_cons_succ]
          refine wpAnyH_take (i := 7) (v := .pointer (some ⟨gM, 0, none⟩)) (at_list rfl) (by kernel_rfl) (by kernel_rfl) (by kernel_rfl) (fun _ _ _ h => h) (Or.inl ⟨by rfl, ?_⟩) hHeld ?_
          · intro v hSv
            clear hHeld
            go_simp
          try simp only [Act.put, List.setIfInBounds_toArray, List.set_cons_zero, List.set_cons_succ]
          refine wpAnyH_take (i := 8) (v := .pointer (some ⟨gM, 4, none⟩)) (at_list rfl) (by kernel_rfl) (by kernel_rfl) (by kernel_rfl) (fun _ _ _ h => h) (Or.inl ⟨by rfl, ?_⟩) hHeld ?_
          · intro v hSv
            clear hHeld
            go_simp
          try simp only [Act.put, List.setIfInBounds_toArray, List.set_cons_zero, List.set_cons_succ]
          refine wpAnyH_take (i := 9) (v := .int .i64 m.un) (at_list rfl) (by kernel_rfl) (by kernel_rfl) (by kernel_rfl) (fun _ _ _ h => h) (Or.inl ⟨by rfl, ?_⟩) hHeld ?_
          · intro v hSv
            clear hHeld
            have q := Holds.reads (hSv.1) (i := 4) (x := .int .i64 m.un) rfl
            clear hSv
            go_simp
          try simp only [Act.put, List.setIfInBounds_toArray, List.set_cons_zero, List.set_cons_succ]
          refine wpAnyH_ready (rs := [5]) (by kernel_rfl) (by simp) ?_
          refine AllReadyH.cons (at_list rfl) (fun K hK => ?_) AllReadyH.nil
          go_simp
          refine (pcounted12_any now _).mono ?_
          rintro e v9 ⟨rfl, rfl⟩
          go_wp2_with fail
          refine hK.out _ _ ?_ (fun hHeld2 => ?_)
          · exact hHeld
          clear hK K hHeld
          have hHeld := hHeld2
          clear hHeld2
          try simp only [Act.put, List.setIfInBounds_toArray, List.set_cons_zero, List.set_cons_succ]
          refine wpAnyH_take (i := 10) (v := .bool false) (at_list rfl) (by kernel_rfl) (by kernel_rfl) (by kernel_rfl) (fun _ _ _ h => h) (Or.inl ⟨by rfl, ?_⟩) hHeld ?_
          · intro v hSv
            clear hHeld
            go_simp
          try simp only [Act.put, List.setIfInBounds_toArray, List.set_cons_zero, List.set_cons_succ]
          refine wpAnyH_take (i := 11) (v := .bool false) (at_list rfl) (by kernel_rfl) (by kernel_rfl) (by kernel_rfl) (fun _ _ _ h => h) (Or.inl ⟨by rfl, ?_⟩) hHeld ?_
          · intro v hSv
            clear hHeld
            go_simp
          try simp only [Act.put, List.setIfInBounds_toArray, List.set_cons_zero, List.set_cons_succ]
          refine wpAnyH_take (i := 12) (v := .bool false) (at_list rfl) (by kernel_rfl) (by kernel_rfl) (by kernel_rfl) (fun _ _ _ h => h) (Or.inl ⟨by rfl, ?_⟩) hHeld ?_
          · intro v hSv
            clear hHeld
            go_simp
          try simp only [Act.put, List.setIfInBounds_toArray, List.set_cons_zero, List.set_cons_succ]
          refine wpAnyH_done (by kernel_rfl) ?_ _
          have M := Lib.hid hHeld.1
          have HO := Lib.hid hHeld.2
          clear hHeld
          have x3 := (M.out).reads (i := 3) (x := .int .i64 m.st) rfl
          have x2 := (M.out).reads (i := 2) (x := .bool m.sl) rfl
          rw [HSL.out] at x2
          go_upto_region 1 with fail
          go_wp2_with fail
          clear x3 x2
          refine (prest12_any gM m 6 _ M.out).mono ?_
          rintro e c1 ⟨rfl, hm, ho⟩
          replace M := Lib.hid hm
          replace HO := Lib.hid ((HO.out).trans ho (by simp))
          clear hm ho
          go_wp2
          go_ret
          rw [HX.out, HY.out]
          exact ⟨rfl, M.out, HO.out⟩
        · have HX : Hid (tickP m now = anewP m 4 now) := by unfold tickP; rw [Hid, if_neg (fun h => h.elim (wait_yes hw) q1), if_neg q5, hsl, if_pos rfl]
          have HY : Hid (tickN m now = 2) := by unfold tickN; rw [Hid, if_neg (fun h => h.elim (wait_yes hw) q1), if_neg q5]
          have de : decide (timeN now < m.un) = false := decide_eq_false q1
          have e5 : (m.st == 5) = false := by simpa using q5
          have HW := Lib.hid hw
          have HSL := Lib.hid hsl
          clear hw q1 q5 hsl
          have HO := Lib.hid (Only.refl [gM] w.heap.size w)
          have M := Lib.hid hM
          clear hM
          have HOK := Lib.hid ok
          clear ok
          go_enter Try.func19, Try.ntmps19
          go_upto_region 2 with fail
          refine wp_region_held_drew (S := fun v => Holds v gM 51 (mcA m) ∧ Only [gM] w.heap.size w v) (by kernel_rfl) ?_ (fun hHeld => ?_)
          · exact ⟨(M.out).drew, only_drew HO.out⟩
          clear M HO
          refine wpAnyH_take (i := 0) (v := .pointer (some ⟨gM, 0, none⟩)) (at_list rfl) (by kernel_rfl) (by kernel_rfl) (by kernel_rfl) (fun _ _ _ h => h) (Or.inl ⟨by rfl, ?_⟩) hHeld ?_
          · intro v hSv
            clear hHeld
            go_simp
          try simp only [Act.put, List.setIfInBounds_toArray, List.set_cons_zero, List.set_cons_succ]
          refine wpAnyH_ready (rs := [1]) (by kernel_rfl) (by simp) ?_
          refine AllReadyH.cons (at_list rfl) (fun K hK => ?_) AllReadyH.nil
          go_simp
          refine (pwaits12_any gM m _ hHeld.1).mono ?_
          rintro e v1 ⟨rfl, rfl⟩
          rw [HW.out]
          go_wp2_with fail
          refine hK.out _ _ ?_ (fun hHeld2 => ?_)
          · exact hHeld
          clear hK K hHeld
          have hHeld := hHeld2
          clear hHeld2
          try simp only [Act.put, List.setIfInBounds_toArray, List.set_cons_zero, List.set_cons_succ]
          refine wpAnyH_take (i := 2) (v := .bool false) (at_list rfl) (by kernel_rfl) (by kernel_rfl) (by kernel_rfl) (fun _ _ _ h => h) (Or.inl ⟨by rfl, ?_⟩) hHeld ?_
          · intro v hSv
            clear hHeld
            go_simp
          try simp only [Act.put, List.setIfInBounds_toArray, List.set_cons_zero, List.set_cons_succ]
          refine wpAnyH_take (i := 3) (v := .bool false) (at_list rfl) (by kernel_rfl) (by kernel_rfl) (by kernel_rfl) (fun _ _ _ h => h) (Or.inl ⟨by rfl, ?_⟩) hHeld ?_
          · intro v hSv
            clear hHeld
            go_simp
          try simp only [Act.put, List.setIfInBounds_toArray, List.set_cons_zero, List.set_cons_succ]
          refine wpAnyH_take (i := 4) (v := .int .i64 now) (at_list rfl) (by kernel_rfl) (by kernel_rfl) (by kernel_rfl) (fun _ _ _ h => h) (Or.inl ⟨by rfl, ?_⟩) hHeld ?_
          · intro v hSv
            clear hHeld
            go_simp
          try simp only [Act.put, List.setIfInBounds_toArray, List.set_cons_zero, List.set_cons_succ]
          refine wpAnyH_take (i := 6) (v := .pointer (some ⟨gM, 0, none⟩)) (at_list rfl) (by kernel_rfl) (by kernel_rfl) (by kernel_rfl) (fun _ _ _ h => h) (Or.inl ⟨by rfl, ?_⟩) hHeld ?_
          · intro v hSv
            clear hHeld
            go_simp
          try simp only [Act.put, List.setIfInBounds_toArray, List.set_cons_zero, List.set_cons_succ]
          refine wpAnyH_take (i := 7) (v := .pointer (some ⟨gM, 0, none⟩)) (at_list rfl) (by kernel_rfl) (by kernel_rfl) (by kernel_rfl) (fun _ _ _ h => h) (Or.inl ⟨by rfl, ?_⟩) hHeld ?_
          · intro v hSv
            clear hHeld
            go_simp
          try simp only [Act.put, List.setIfInBounds_toArray, List.set_cons_zero, List.set_cons_succ]
          refine wpAnyH_take (i := 8) (v := .pointer (some ⟨gM, 4, none⟩)) (at_list rfl) (by kernel_rfl) (by kernel_rfl) (by kernel_rfl) (fun _ _ _ h => h) (Or.inl ⟨by rfl, ?_⟩) hHeld ?_
          · intro v hSv
            clear hHeld
            go_simp
          try simp only [Act.put, List.setIfInBounds_toArray, List.set_cons_zero, List.set_cons_succ]
          refine wpAnyH_take (i := 9) (v := .int .i64 m.un) (at_list rfl) (by kernel_rfl) (by kernel_rfl) (by kernel_rfl) (fun _ _ _ h => h) (Or.inl ⟨by rfl, ?_⟩) hHeld ?_
          · intro v hSv
            clear hHeld
            have q := Holds.reads (hSv.1) (i := 4) (x := .int .i64 m.un) rfl
            clear hSv
            go_simp
          try simp only [Act.put, List.setIfInBounds_toArray, List.set_cons_zero, List.set_cons_succ]
          refine wpAnyH_ready (rs := [5]) (by kernel_rfl) (by simp) ?_
          refine AllReadyH.cons (at_list rfl) (fun K hK => ?_) AllReadyH.nil
          go_simp
          refine (pcounted12_any now _).mono ?_
          rintro e v9 ⟨rfl, rfl⟩
          go_wp2_with fail
          refine hK.out _ _ ?_ (fun hHeld2 => ?_)
          · exact hHeld
          clear hK K hHeld
          have hHeld := hHeld2
          clear hHeld2
          try simp only [Act.put, List.setIfInBounds_toArray, List.set_cons_zero, List.set_cons_succ]
          refine wpAnyH_take (i := 10) (v := .bool false) (at_list rfl) (by kernel_rfl) (by kernel_rfl) (by kernel_rfl) (fun _ _ _ h => h) (Or.inl ⟨by rfl, ?_⟩) hHeld ?_
          · intro v hSv
            clear hHeld
            go_simp
          try simp only [Act.put, List.setIfInBounds_toArray, List.set_cons_zero, List.set_cons_succ]
          refine wpAnyH_take (i := 11) (v := .bool false) (at_list rfl) (by kernel_rfl) (by kernel_rfl) (by kernel_rfl) (fun _ _ _ h => h) (Or.inl ⟨by rfl, ?_⟩) hHeld ?_
          · intro v hSv
            clear hHeld
            go_simp
          try simp only [Act.put, List.setIfInBounds_toArray, List.set_cons_zero, List.set_cons_succ]
          refine wpAnyH_take (i := 12) (v := .bool false) (at_list rfl) (by kernel_rfl) (by kernel_rfl) (by kernel_rfl) (fun _ _ _ h => h) (Or.inl ⟨by rfl, ?_⟩) hHeld ?_
          · intro v hSv
            clear hHeld
            go_simp
          try simp only [Act.put, List.setIfInBounds_toArray, List.set_cons_zero, List.set_cons_succ]
          refine wpAnyH_done (by kernel_rfl) ?_ _
          have M := Lib.hid hHeld.1
          have HO := Lib.hid hHeld.2
          clear hHeld
          have x3 := (M.out).reads (i := 3) (x := .int .i64 m.st) rfl
          have x2 := (M.out).reads (i := 2) (x := .bool m.sl) rfl
          rw [HSL.out] at x2
          go_upto_region 8 with fail
          go_wp2_with fail
          clear x3 x2
          refine (plisten12_any gM m 4 now _ M.out HOK.out).mono ?_
          rintro e c1 ⟨rfl, hm, ho⟩
          replace M := Lib.hid hm
          replace HO := Lib.hid ((HO.out).trans ho (by simp))
          clear hm ho
          go_wp2
          go_ret
          rw [HX.out, HY.out]
          exact ⟨rfl, M.out, HO.out⟩

end Go.Proofs.Ytibhhhadjpmjiaa
