/- The walk over RankFirsts. -/
import Derived.Test.YtifhjmhekapaoaaRankAlive
import Derived.Test.YtifhjmhekapaoaaRankFirst2
namespace Go.Proofs.Ytifhjmhekapaoaa
set_option maxRecDepth 100000
open Go.RowKit
set_option linter.unusedVariables false

set_option maxHeartbeats 4000000 in
theorem firsts7_many (A : Option Addr) (L C : Nat) (w : World) (h : 60 < L) :
    Calls Try.prog 5 #[.slice A L C] w fun e w' => e = .returned (.bool true) ∧ Below w.heap.size w w' := by
  have HB := Lib.hid (Below.refl w.heap.size w)
  have d0 : decide ((60 : Int) < (L : Int)) = true := by simp; omega
  go_enter Try.func5, Try.ntmps5
  go_wp2_with fail
  refine (alive7_any _).mono ?_
  rintro e wz ⟨rfl, hz⟩
  replace HB := Lib.hid (bstep HB.out hz)
  clear hz
  go_wp2
  go_ret
  exact ⟨rfl, HB.out⟩
set_option maxHeartbeats 4000000 in
theorem firsts7_nil (A : Option Addr) (C : Nat) (w : World) :
    Calls Try.prog 5 #[.slice A 0 C] w fun e w' => e = .returned (.bool true) ∧ Below w.heap.size w w' := by
  have HB := Lib.hid (Below.refl w.heap.size w)
  go_enter Try.func5, Try.ntmps5
  go_wp2_with fail
  refine (first7_nil A C _).mono ?_
  rintro e w1 ⟨rfl, h1⟩
  replace HB := Lib.hid (bstep HB.out h1)
  clear h1
  go_wp2_with fail
  refine (rfirst7_nil A C _).mono ?_
  rintro e w2 ⟨rfl, h2⟩
  replace HB := Lib.hid (bstep HB.out h2)
  clear h2
  go_wp2
  go_loopw [28] (fun i v => i = .int .i64 0 ∧ Hid (Below w.heap.size w v)) (fun _ _ => 0)
  case atStart => exact ⟨rfl, HB⟩
  case round =>
    clear HB
    obtain ⟨rfl, HB⟩ := hrel
    go_wp2_with fail
    refine (alive7_any _).mono ?_
    rintro e wz ⟨rfl, hz⟩
    replace HB := Lib.hid (bstep HB.out hz)
    clear hz
    go_wp2
    go_ret
    exact ⟨rfl, HB.out⟩
set_option maxHeartbeats 4000000 in
theorem firsts7_neg (l : List Rs) (g o L C : Nat) (w : World) (ho : ∀ s ∈ l, s.ok) (hn : l.length = L) (hL : L ≤ 60) (h : SetsAt w g o l) (hf : firstN l = -1) :
    Calls Try.prog 5 #[.slice (some ⟨g, o, none⟩) L C] w fun e w' => e = .returned (.bool true) ∧ Below w.heap.size w w' := by
  have HB := Lib.hid (Below.refl w.heap.size w)
  have K1 := Lib.hid h
  have HO := Lib.hid ho
  have HN := Lib.hid hn
  have HF := Lib.hid hf
  clear h ho hn hf
  have d0 : decide ((60 : Int) < (L : Int)) = false := by simp; omega
  go_enter Try.func5, Try.ntmps5
  go_wp2_with fail
  refine (first7_any l g o L C _ HO.out HN.out (by omega) K1.out).mono ?_
  rintro e c1 ⟨rfl, hc1⟩
  replace K1 := Lib.hid ((K1.out).keptB hc1)
  replace HB := Lib.hid (bstep HB.out hc1)
  clear hc1
  rw [HF.out]
  go_wp2_with fail
  refine (rfirst7_any l g o L C _ HO.out HN.out (by omega) K1.out).mono ?_
  rintro e c2 ⟨rfl, hc2⟩
  replace K1 := Lib.hid ((K1.out).keptB hc2)
  replace HB := Lib.hid (bstep HB.out hc2)
  clear hc2
  rw [HF.out]
  go_wp2
  go_loopw [28] (fun i v => ∃ j : Nat, j ≤ L ∧ i = .int .i64 j ∧ Hid (SetsAt v g o l) ∧ Hid (Below w.heap.size w v)) (fun i _ => L - (intOf i).toNat)
  case atStart => exact ⟨0, by omega, rfl, K1, HB⟩
  case round =>
    clear K1 HB
    rename_i V
    obtain ⟨j, hj, rfl, K1, HB⟩ := hrel
    by_cases hlt : j < L
    · have hd : decide ((j : Int) < (L : Int)) = true := by simpa using hlt
      obtain ⟨b, hb⟩ : ∃ b, l[j]? = some b := ⟨_, List.getElem?_eq_getElem (show j < l.length by rw [HN.out]; exact hlt)⟩
      have HBb := Lib.hid hb
      have HKb := Lib.hid hlt
      clear hb
      go_wp2_with (first | (refine big_fill rfl 29 _ _ rfl gKB (rsA b) rfl rfl KB.out (by kernel_rfl) (by kernel_rfl) (by kernel_rfl) ?_; intro vKB nKB tKB; have hbKB := btouch AKB.out tKB LKB.out; replace K1 := Lib.hid ((K1.out).keptB hbKB); replace HB := Lib.hid (bstep HB.out hbKB); replace KB := Lib.hid nKB; clear nKB tKB hbKB AKB LKB) | (refine big_alloc rfl 29 rfl (rsA zeroR) (by kernel_rfl) ?_; intro gKB wKB hlKB nKB hbKB; have KB := Lib.hid nKB; have AKB := Lib.hid hbKB; have LKB := Lib.hid hlKB; clear hlKB nKB hbKB) | (refine big_loadAt rfl 29 _ rfl g (o + j * 32) rfl (rsA b) (K1.out j b HBb.out) Try.underlying29 rfl (by kernel_rfl) ?_) | (refine big_index rfl 35 _ _ rfl g o L C j 32 rfl rfl HKb.out Try.underlying35 (by kernel_rfl) ?_))
      refine wp_region_noPanic ?_
      refine wp_region_held_drew (S := fun v => Below w.heap.size w v ∧ SetsAt v g o l ∧ Holds v gKB 29 (rsA b)) (by kernel_rfl) ?_ (fun hHeld => ?_)
      · exact ⟨bdrew HB.out, (K1.out).drew, (KB.out).drew⟩
      clear HB K1 KB
      refine wpAnyH_take (i := 0) (v := .int .i64 (-1)) (at_list rfl) (by kernel_rfl) (by kernel_rfl) (by kernel_rfl) (fun _ _ _ h => h) (Or.inl ⟨by rfl, ?_⟩) hHeld ?_
      · intro v hSv
        clear hHeld
        go_simp
      try simp only [Act.put, List.setIfInBounds_toArray, List.set_cons_zero, List.set_cons_succ]
      refine wpAnyH_take (i := 1) (v := .bool false) (at_list rfl) (by kernel_rfl) (by kernel_rfl) (by kernel_rfl) (fun _ _ _ h => h) (Or.inl ⟨by rfl, ?_⟩) hHeld ?_
      · intro v hSv
        clear hHeld
        go_simp
      try simp only [Act.put, List.setIfInBounds_toArray, List.set_cons_zero, List.set_cons_succ]
      refine wpAnyH_take (i := 2) (v := .bool false) (at_list rfl) (by kernel_rfl) (by kernel_rfl) (by kernel_rfl) (fun _ _ _ h => h) (Or.inl ⟨by rfl, ?_⟩) hHeld ?_
      · intro v hSv
        clear hHeld
        go_simp
      try simp only [Act.put, List.setIfInBounds_toArray, List.set_cons_zero, List.set_cons_succ]
      refine wpAnyH_take (i := 3) (v := undef) (at_list rfl) (by kernel_rfl) (by kernel_rfl) (by kernel_rfl) (fun _ _ _ h => h) (Or.inr ⟨by rfl, rfl⟩) hHeld ?_
      try simp only [Act.put, List.setIfInBounds_toArray, List.set_cons_zero, List.set_cons_succ]
      refine wpAnyH_take (i := 4) (v := undef) (at_list rfl) (by kernel_rfl) (by kernel_rfl) (by kernel_rfl) (fun _ _ _ h => h) (Or.inr ⟨by rfl, rfl⟩) hHeld ?_
      try simp only [Act.put, List.setIfInBounds_toArray, List.set_cons_zero, List.set_cons_succ]
      refine wpAnyH_take (i := 5) (v := undef) (at_list rfl) (by kernel_rfl) (by kernel_rfl) (by kernel_rfl) (fun _ _ _ h => h) (Or.inr ⟨by rfl, rfl⟩) hHeld ?_
      try simp only [Act.put, List.setIfInBounds_toArray, List.set_cons_zero, List.set_cons_succ]
      refine wpAnyH_take (i := 6) (v := undef) (at_list rfl) (by kernel_rfl) (by kernel_rfl) (by kernel_rfl) (fun _ _ _ h => h) (Or.inr ⟨by rfl, rfl⟩) hHeld ?_
      try simp only [Act.put, List.setIfInBounds_toArray, List.set_cons_zero, List.set_cons_succ]
      refine wpAnyH_take (i := 7) (v := undef) (at_list rfl) (by kernel_rfl) (by kernel_rfl) (by kernel_rfl) (fun _ _ _ h => h) (Or.inr ⟨by rfl, rfl⟩) hHeld ?_
      try simp only [Act.put, List.setIfInBounds_toArray, List.set_cons_zero, List.set_cons_succ]
      refine wpAnyH_take (i := 8) (v := undef) (at_list rfl) (by kernel_rfl) (by kernel_rfl) (by kernel_rfl) (fun _ _ _ h => h) (Or.inr ⟨by rfl, rfl⟩) hHeld ?_
      try simp only [Act.put, List.setIfInBounds_toArray, List.set_cons_zero, List.set_cons_succ]
      refine wpAnyH_take (i := 9) (v := .bool false) (at_list rfl) (by kernel_rfl) (by kernel_rfl) (by kernel_rfl) (fun _ _ _ h => h) (Or.inl ⟨by rfl, ?_⟩) hHeld ?_
      · intro v hSv
        clear hHeld
        go_simp
      try simp only [Act.put, List.setIfInBounds_toArray, List.set_cons_zero, List.set_cons_succ]
      refine wpAnyH_done (by kernel_rfl) ?_ _
      refine NoPanic.normal ?_
      have HB := Lib.hid hHeld.1
      have K1 := Lib.hid hHeld.2.1
      clear hHeld
      go_wp2
      go_roundw
      case rel => exact ⟨j + 1, by omega, by go_num, K1, HB⟩
      case measure => simp [intOf]; omega
    · have hd : decide ((j : Int) < (L : Int)) = false := by simpa using hlt
      go_wp2_with fail
      refine (alive7_any _).mono ?_
      rintro e wz ⟨rfl, hz⟩
      replace HB := Lib.hid (bstep HB.out hz)
      clear hz
      go_wp2
      go_ret
      exact ⟨rfl, HB.out⟩
set_option maxHeartbeats 4000000 in
theorem firsts7_pos (l : List Rs) (g o L C : Nat) (k : Nat) (s : Rs) (w : World) (ho : ∀ s ∈ l, s.ok) (hn : l.length = L) (hL : L ≤ 60) (h : SetsAt w g o l) (hf : firstN l = k) (hs : l[k]? = some s) (hk : k < L) (hfree : freeB l s = true) :
    Calls Try.prog 5 #[.slice (some ⟨g, o, none⟩) L C] w fun e w' => e = .returned (.bool true) ∧ Below w.heap.size w w' := by
  have HB := Lib.hid (Below.refl w.heap.size w)
  have K1 := Lib.hid h
  have HO := Lib.hid ho
  have HN := Lib.hid hn
  have HF := Lib.hid hf
  clear h ho hn hf
  have HS := Lib.hid hs
  have HK := Lib.hid hk
  have HR := Lib.hid hfree
  have dk : decide ((k : Int) < -1) = false := decide_eq_false (by omega)
  have dL : decide ((L : Int) ≤ (k : Int)) = false := decide_eq_false (by omega)
  have dL2 : decide (L ≤ k) = false := decide_eq_false (by omega)
  clear hs hfree
  have d0 : decide ((60 : Int) < (L : Int)) = false := by simp; omega
  go_enter Try.func5, Try.ntmps5
  go_wp2_with fail
  refine (first7_any l g o L C _ HO.out HN.out (by omega) K1.out).mono ?_
  rintro e c1 ⟨rfl, hc1⟩
  replace K1 := Lib.hid ((K1.out).keptB hc1)
  replace HB := Lib.hid (bstep HB.out hc1)
  clear hc1
  rw [HF.out]
  go_wp2_with fail
  refine (rfirst7_any l g o L C _ HO.out HN.out (by omega) K1.out).mono ?_
  rintro e c2 ⟨rfl, hc2⟩
  replace K1 := Lib.hid ((K1.out).keptB hc2)
  replace HB := Lib.hid (bstep HB.out hc2)
  clear hc2
  rw [HF.out]
  go_wp2
  go_loopw [28] (fun i v => ∃ j : Nat, j ≤ L ∧ i = .int .i64 j ∧ Hid (SetsAt v g o l) ∧ Hid (Below w.heap.size w v)) (fun i _ => L - (intOf i).toNat)
  case atStart => exact ⟨0, by omega, rfl, K1, HB⟩
  case round =>
    clear K1 HB
    rename_i V
    obtain ⟨j, hj, rfl, K1, HB⟩ := hrel
    by_cases hlt : j < L
    · have hd : decide ((j : Int) < (L : Int)) = true := by simpa using hlt
      obtain ⟨b, hb⟩ : ∃ b, l[j]? = some b := ⟨_, List.getElem?_eq_getElem (show j < l.length by rw [HN.out]; exact hlt)⟩
      have HBb := Lib.hid hb
      have HKb := Lib.hid hlt
      clear hb
      go_wp2_with (first | (refine big_fill rfl 29 _ _ rfl gKB (rsA b) rfl rfl KB.out (by kernel_rfl) (by kernel_rfl) (by kernel_rfl) ?_; intro vKB nKB tKB; have hbKB := btouch AKB.out tKB LKB.out; replace K1 := Lib.hid ((K1.out).keptB hbKB); replace HB := Lib.hid (bstep HB.out hbKB); replace KB := Lib.hid nKB; clear nKB tKB hbKB AKB LKB) | (refine big_alloc rfl 29 rfl (rsA zeroR) (by kernel_rfl) ?_; intro gKB wKB hlKB nKB hbKB; have KB := Lib.hid nKB; have AKB := Lib.hid hbKB; have LKB := Lib.hid hlKB; clear hlKB nKB hbKB) | (refine big_loadAt rfl 29 _ rfl g (o + j * 32) rfl (rsA b) (K1.out j b HBb.out) Try.underlying29 rfl (by kernel_rfl) ?_) | (refine big_index rfl 35 _ _ rfl g o L C j 32 rfl rfl HKb.out Try.underlying35 (by kernel_rfl) ?_))
      refine wp_region_noPanic ?_
      refine wp_region_held_drew (S := fun v => Below w.heap.size w v ∧ SetsAt v g o l ∧ Holds v gKB 29 (rsA b)) (by kernel_rfl) ?_ (fun hHeld => ?_)
      · exact ⟨bdrew HB.out, (K1.out).drew, (KB.out).drew⟩
      clear HB K1 KB
      refine wpAnyH_take (i := 0) (v := .int .i64 (k : Int)) (at_list rfl) (by kernel_rfl) (by kernel_rfl) (by kernel_rfl) (fun _ _ _ h => h) (Or.inl ⟨by rfl, ?_⟩) hHeld ?_
      · intro v hSv
        clear hHeld
        go_simp
      try simp only [Act.put, List.setIfInBounds_toArray, List.set_cons_zero, List.set_cons_succ]
      refine wpAnyH_take (i := 1) (v := .bool true) (at_list rfl) (by kernel_rfl) (by kernel_rfl) (by kernel_rfl) (fun _ _ _ h => h) (Or.inl ⟨by rfl, ?_⟩) hHeld ?_
      · intro v hSv
        clear hHeld
        go_simp
      try simp only [Act.put, List.setIfInBounds_toArray, List.set_cons_zero, List.set_cons_succ]
      refine wpAnyH_take (i := 2) (v := .bool true) (at_list rfl) (by kernel_rfl) (by kernel_rfl) (by kernel_rfl) (fun _ _ _ h => h) (Or.inl ⟨by rfl, ?_⟩) hHeld ?_
      · intro v hSv
        clear hHeld
        go_simp
      try simp only [Act.put, List.setIfInBounds_toArray, List.set_cons_zero, List.set_cons_succ]
      refine wpAnyH_take (i := 3) (v := .agg (rsA b)) (at_list rfl) (by kernel_rfl) (by kernel_rfl) (by kernel_rfl) (fun _ _ _ h => h) (yields_whole (by rfl) 29 _ rfl gKB rfl (fun v hv => hv.2.2) Try.underlying29 rfl (by kernel_rfl)) hHeld ?_
      try simp only [Act.put, List.setIfInBounds_toArray, List.set_cons_zero, List.set_cons_succ]
      refine wpAnyH_take (i := 4) (v := .slice (some ⟨g, o, none⟩) L C) (at_list rfl) (by kernel_rfl) (by kernel_rfl) (by kernel_rfl) (fun _ _ _ h => h) (Or.inl ⟨by rfl, ?_⟩) hHeld ?_
      · intro v hSv
        clear hHeld
        go_simp
      try simp only [Act.put, List.setIfInBounds_toArray, List.set_cons_zero, List.set_cons_succ]
      refine wpAnyH_take (i := 5) (v := .int .i64 k) (at_list rfl) (by kernel_rfl) (by kernel_rfl) (by kernel_rfl) (fun _ _ _ h => h) (Or.inl ⟨by rfl, ?_⟩) hHeld ?_
      · intro v hSv
        clear hHeld
        go_simp
      try simp only [Act.put, List.setIfInBounds_toArray, List.set_cons_zero, List.set_cons_succ]
      refine wpAnyH_take (i := 6) (v := .pointer (some ⟨g, o + k * 32, none⟩)) (at_list rfl) (by kernel_rfl) (by kernel_rfl) (by kernel_rfl) (fun _ _ _ h => h) (yields_index (by rfl) 35 _ _ rfl g o L C k 32 rfl rfl HK.out Try.underlying35 (by kernel_rfl)) hHeld ?_
      try simp only [Act.put, List.setIfInBounds_toArray, List.set_cons_zero, List.set_cons_succ]
      refine wpAnyH_take (i := 7) (v := .agg (rsA s)) (at_list rfl) (by kernel_rfl) (by kernel_rfl) (by kernel_rfl) (fun _ _ _ h => h) (yieldsIf_load_mid (by rfl) 29 _ rfl g (o + k * 32) rfl (rsA s).toList _ (fun v hv => hv.2.1 k s HS.out) Try.underlying29 rfl (by kernel_rfl)) hHeld ?_
      try simp only [Act.put, List.setIfInBounds_toArray, List.set_cons_zero, List.set_cons_succ]
      refine wpAnyH_ready (rs := [8]) (by kernel_rfl) (by simp) ?_
      refine AllReadyH.cons (at_list rfl) (fun K hK => ?_) AllReadyH.nil
      go_simp
      refine (less7_any b s _ (HO.out b (List.mem_of_getElem? HBb.out)) (HO.out s (List.mem_of_getElem? HS.out))).mono ?_
      rintro e v1 ⟨rfl, hv1⟩
      rw [freeB_iff.1 HR.out b (List.mem_of_getElem? HBb.out)]
      go_wp2_with fail
      refine hK.out _ _ ?_ (fun hHeld2 => ?_)
      · exact ⟨bstep hHeld.1 hv1, hHeld.2.1.keptB hv1, hHeld.2.2.keptB hv1⟩
      clear hK K hHeld
      have hHeld := hHeld2
      clear hHeld2 hv1
      try simp only [Act.put, List.setIfInBounds_toArray, List.set_cons_zero, List.set_cons_succ]
      refine wpAnyH_take (i := 9) (v := .bool false) (at_list rfl) (by kernel_rfl) (by kernel_rfl) (by kernel_rfl) (fun _ _ _ h => h) (Or.inl ⟨by rfl, ?_⟩) hHeld ?_
      · intro v hSv
        clear hHeld
        go_simp
      try simp only [Act.put, List.setIfInBounds_toArray, List.set_cons_zero, List.set_cons_succ]
      refine wpAnyH_done (by kernel_rfl) ?_ _
      refine NoPanic.normal ?_
      have HB := Lib.hid hHeld.1
      have K1 := Lib.hid hHeld.2.1
      clear hHeld
      go_wp2
      go_roundw
      case rel => exact ⟨j + 1, by omega, by go_num, K1, HB⟩
      case measure => simp [intOf]; omega
    · have hd : decide ((j : Int) < (L : Int)) = false := by simpa using hlt
      go_wp2_with fail
      refine (alive7_any _).mono ?_
      rintro e wz ⟨rfl, hz⟩
      replace HB := Lib.hid (bstep HB.out hz)
      clear hz
      go_wp2
      go_ret
      exact ⟨rfl, HB.out⟩
theorem firsts7_walk (A : Option Addr) (L C : Nat) (l : List Rs) (w : World) (h : SetsOk w A L C l) :
    Calls Try.prog 5 #[.slice A L C] w fun e w' => e = .returned (.bool true) ∧ Below w.heap.size w w' := by
  by_cases h60 : 60 < L
  · exact firsts7_many A L C w h60
  · by_cases h0 : 0 < L
    · obtain ⟨g, o, rfl, hs⟩ := h.at_ h0
      rcases firstN_spec l with ⟨h1, _⟩ | ⟨k, a, h1, h2, h3, _⟩
      · exact firsts7_neg l g o L C w h.ok h.len (by omega) hs h1
      · refine firsts7_pos l g o L C k a w h.ok h.len (by omega) hs h1 h2 ?_ h3
        rw [← h.len]
        by_cases hk : k < l.length
        · exact hk
        · rw [List.getElem?_eq_none (by omega)] at h2; cases h2
    · obtain rfl : L = 0 := by omega
      exact firsts7_nil A C w

end Go.Proofs.Ytifhjmhekapaoaa
