/- The walk over the reference's First. -/
import Derived.Test.YtifhjmhekapaoaaRankFirst
namespace Go.Proofs.Ytifhjmhekapaoaa
set_option maxRecDepth 100000
open Go.RowKit
set_option linter.unusedVariables false

theorem any_step {l : List Rs} {a b : Rs} {k : Nat} (hk : l[k]? = some b) : (l.take (k + 1)).any (fun c => lessB c a) = ((l.take k).any (fun c => lessB c a) || lessB b a) := by
  rw [List.take_add_one, hk]
  simp
theorem any_free {l : List Rs} {a : Rs} : freeB l a = !(l.any fun c => lessB c a) := by
  unfold freeB
  rw [List.not_any_eq_all_not]
set_option maxHeartbeats 4000000 in
theorem rfirst7_any (l : List Rs) (g o n c : Nat) (w : World) (ho : ∀ s ∈ l, s.ok) (hn : l.length = n) (hn2 : n ≤ 1000000) (h : SetsAt w g o l) :
    Calls Try.prog 21 #[.slice (some ⟨g, o, none⟩) n c] w fun e w' => e = .returned (.int .i64 (firstN l)) ∧ Below w.heap.size w w' := by
  have HB := Lib.hid (Below.refl w.heap.size w)
  have K1 := Lib.hid h
  have HO := Lib.hid ho
  have HN := Lib.hid hn
  clear h ho hn
  go_enter Try.func21, Try.ntmps21
  go_wp2
  go_loopw [3] (fun i v => ∃ k : Nat, k ≤ n ∧ i = .int .i64 k ∧ Hid (firstN l = firstFrom l k (l.drop k)) ∧ Hid (SetsAt v g o l) ∧ Hid (Below w.heap.size w v)) (fun i _ => n - (intOf i).toNat)
  case atStart => exact ⟨0, by omega, rfl, Lib.hid rfl, K1, HB⟩
  case round =>
    clear K1 HB
    rename_i V
    obtain ⟨k, hk, rfl, HC, K1, HB⟩ := hrel
    by_cases hlt : k < n
    · have hd : decide ((k : Int) < (n : Int)) = true := by simpa using hlt
      obtain ⟨a, ha⟩ : ∃ a, l[k]? = some a := ⟨_, List.getElem?_eq_getElem (show k < l.length by rw [HN.out]; exact hlt)⟩
      have HA := Lib.hid ha
      have HK := Lib.hid hlt
      clear ha
      go_wp2
      go_loopw [4, 5] (fun s j v => ∃ m : Nat, m ≤ n ∧ j = .int .i64 m ∧ s = .bool ((l.take m).any fun c => lessB c a) ∧ Hid (SetsAt v g o l) ∧ Hid (Below w.heap.size w v)) (fun _ j _ => n - (intOf j).toNat)
      case atStart => exact ⟨0, by omega, rfl, rfl, K1, HB⟩
      case round =>
        clear K1 HB
        rename_i V2
        obtain ⟨m, hm, rfl, rfl, K1, HB⟩ := hrel
        by_cases hlt2 : m < n
        · have hd2 : decide ((m : Int) < (n : Int)) = true := by simpa using hlt2
          obtain ⟨b, hb⟩ : ∃ b, l[m]? = some b := ⟨_, List.getElem?_eq_getElem (show m < l.length by rw [HN.out]; exact hlt2)⟩
          have HBb := Lib.hid hb
          have HKb := Lib.hid hlt2
          have HS := Lib.hid (any_step (a := a) hb)
          clear hb
          cases hs : (l.take m).any fun c => lessB c a
          · have HE := Lib.hid hs
            clear hs
            obtain ⟨r, HL⟩ : ∃ r, Hid (lessB b a = r) := ⟨_, Lib.hid rfl⟩
            have HS2 : Hid ((l.take (m + 1)).any (fun c => lessB c a) = r) := by rw [Hid, HS.out, HE.out, HL.out]; simp
            clear HS
            go_wp2
            refine wp_region_noPanic ?_
            refine wp_region_held_drew (S := fun v => Below w.heap.size w v ∧ SetsAt v g o l) (by kernel_rfl) ?_ (fun hHeld => ?_)
            · exact ⟨bdrew HB.out, (K1.out).drew⟩
            clear HB K1
            refine wpAnyH_take (i := 0) (v := .bool false) (at_list rfl) (by kernel_rfl) (by kernel_rfl) (by kernel_rfl) (fun _ _ _ h => h) (Or.inl ⟨by rfl, ?_⟩) hHeld ?_
            · intro v hSv
              clear hHeld
              go_simp
            try simp only [Act.put, List.setIfInBounds_toArray, List.set_cons_zero, List.set_cons_succ]
            refine wpAnyH_take (i := 1) (v := .bool false) (at_list rfl) (by kernel_rfl) (by kernel_rfl) (by kernel_rfl) (fun _ _ _ h => h) (Or.inl ⟨by rfl, ?_⟩) hHeld ?_
            · intro v hSv
              clear hHeld
              go_simp
            try simp only [Act.put, List.setIfInBounds_toArray, List.set_cons_zero, List.set_cons_succ]
            refine wpAnyH_take (i := 2) (v := .slice (some ⟨g, o, none⟩) n c) (at_list rfl) (by kernel_rfl) (by kernel_rfl) (by kernel_rfl) (fun _ _ _ h => h) (Or.inl ⟨by rfl, ?_⟩) hHeld ?_
            · intro v hSv
              clear hHeld
              go_simp
            try simp only [Act.put, List.setIfInBounds_toArray, List.set_cons_zero, List.set_cons_succ]
            refine wpAnyH_take (i := 3) (v := .int .i64 m) (at_list rfl) (by kernel_rfl) (by kernel_rfl) (by kernel_rfl) (fun _ _ _ h => h) (Or.inl ⟨by rfl, ?_⟩) hHeld ?_
            · intro v hSv
              clear hHeld
              go_simp
            try simp only [Act.put, List.setIfInBounds_toArray, List.set_cons_zero, List.set_cons_succ]
            refine wpAnyH_take (i := 4) (v := .pointer (some ⟨g, o + m * 32, none⟩)) (at_list rfl) (by kernel_rfl) (by kernel_rfl) (by kernel_rfl) (fun _ _ _ h => h) (yields_index (by rfl) 35 _ _ rfl g o n c m 32 rfl rfl HKb.out Try.underlying35 (by kernel_rfl)) hHeld ?_
            try simp only [Act.put, List.setIfInBounds_toArray, List.set_cons_zero, List.set_cons_succ]
            refine wpAnyH_take (i := 5) (v := .agg (rsA b)) (at_list rfl) (by kernel_rfl) (by kernel_rfl) (by kernel_rfl) (fun _ _ _ h => h) (yieldsIf_load_mid (by rfl) 29 _ rfl g (o + m * 32) rfl (rsA b).toList _ (fun v hv => hv.2 m b HBb.out) Try.underlying29 rfl (by kernel_rfl)) hHeld ?_
            try simp only [Act.put, List.setIfInBounds_toArray, List.set_cons_zero, List.set_cons_succ]
            refine wpAnyH_take (i := 6) (v := .slice (some ⟨g, o, none⟩) n c) (at_list rfl) (by kernel_rfl) (by kernel_rfl) (by kernel_rfl) (fun _ _ _ h => h) (Or.inl ⟨by rfl, ?_⟩) hHeld ?_
            · intro v hSv
              clear hHeld
              go_simp
            try simp only [Act.put, List.setIfInBounds_toArray, List.set_cons_zero, List.set_cons_succ]
            refine wpAnyH_take (i := 7) (v := .int .i64 k) (at_list rfl) (by kernel_rfl) (by kernel_rfl) (by kernel_rfl) (fun _ _ _ h => h) (Or.inl ⟨by rfl, ?_⟩) hHeld ?_
            · intro v hSv
              clear hHeld
              go_simp
            try simp only [Act.put, List.setIfInBounds_toArray, List.set_cons_zero, List.set_cons_succ]
            refine wpAnyH_take (i := 8) (v := .pointer (some ⟨g, o + k * 32, none⟩)) (at_list rfl) (by kernel_rfl) (by kernel_rfl) (by kernel_rfl) (fun _ _ _ h => h) (yields_index (by rfl) 35 _ _ rfl g o n c k 32 rfl rfl HK.out Try.underlying35 (by kernel_rfl)) hHeld ?_
            try simp only [Act.put, List.setIfInBounds_toArray, List.set_cons_zero, List.set_cons_succ]
            refine wpAnyH_take (i := 9) (v := .agg (rsA a)) (at_list rfl) (by kernel_rfl) (by kernel_rfl) (by kernel_rfl) (fun _ _ _ h => h) (yieldsIf_load_mid (by rfl) 29 _ rfl g (o + k * 32) rfl (rsA a).toList _ (fun v hv => hv.2 k a HA.out) Try.underlying29 rfl (by kernel_rfl)) hHeld ?_
            try simp only [Act.put, List.setIfInBounds_toArray, List.set_cons_zero, List.set_cons_succ]
            refine wpAnyH_ready (rs := [10]) (by kernel_rfl) (by simp) ?_
            refine AllReadyH.cons (at_list rfl) (fun K hK => ?_) AllReadyH.nil
            go_simp
            refine (rless7_any b a _ (HO.out b (List.mem_of_getElem? HBb.out)) (HO.out a (List.mem_of_getElem? HA.out))).mono ?_
            rintro e v1 ⟨rfl, hv1⟩
            rw [HL.out]
            go_wp2_with fail
            refine hK.out _ _ ?_ (fun hHeld2 => ?_)
            · exact ⟨bstep hHeld.1 hv1, hHeld.2.keptB hv1⟩
            clear hK K hHeld
            have hHeld := hHeld2
            clear hHeld2 hv1
            try simp only [Act.put, List.setIfInBounds_toArray, List.set_cons_zero, List.set_cons_succ]
            refine wpAnyH_take (i := 11) (v := .bool r) (at_list rfl) (by kernel_rfl) (by kernel_rfl) (by kernel_rfl) (fun _ _ _ h => h) (Or.inl ⟨by rfl, ?_⟩) hHeld ?_
            · intro v hSv
              clear hHeld
              go_simp
            try simp only [Act.put, List.setIfInBounds_toArray, List.set_cons_zero, List.set_cons_succ]
            refine wpAnyH_take (i := 12) (v := .bool r) (at_list rfl) (by kernel_rfl) (by kernel_rfl) (by kernel_rfl) (fun _ _ _ h => h) (Or.inl ⟨by rfl, ?_⟩) hHeld ?_
            · intro v hSv
              clear hHeld
              go_simp
            try simp only [Act.put, List.setIfInBounds_toArray, List.set_cons_zero, List.set_cons_succ]
            refine wpAnyH_done (by kernel_rfl) ?_ _
            refine NoPanic.normal ?_
            have HB := Lib.hid hHeld.1
            have K1 := Lib.hid hHeld.2
            clear hHeld
            go_wp2
            go_roundw
            case rel => exact ⟨m + 1, by omega, by go_num, by rw [HS2.out], K1, HB⟩
            case measure => simp [intOf]; omega
          · have HE := Lib.hid hs
            clear hs
            have HS2 : Hid ((l.take (m + 1)).any (fun c => lessB c a) = true) := by rw [Hid, HS.out, HE.out]; simp
            clear HS
            go_wp2
            refine wp_region_noPanic ?_
            refine wp_region_held_drew (S := fun v => Below w.heap.size w v ∧ SetsAt v g o l) (by kernel_rfl) ?_ (fun hHeld => ?_)
            · exact ⟨bdrew HB.out, (K1.out).drew⟩
            clear HB K1
            refine wpAnyH_take (i := 0) (v := .bool true) (at_list rfl) (by kernel_rfl) (by kernel_rfl) (by kernel_rfl) (fun _ _ _ h => h) (Or.inl ⟨by rfl, ?_⟩) hHeld ?_
            · intro v hSv
              clear hHeld
              go_simp
            try simp only [Act.put, List.setIfInBounds_toArray, List.set_cons_zero, List.set_cons_succ]
            refine wpAnyH_take (i := 1) (v := .bool true) (at_list rfl) (by kernel_rfl) (by kernel_rfl) (by kernel_rfl) (fun _ _ _ h => h) (Or.inl ⟨by rfl, ?_⟩) hHeld ?_
            · intro v hSv
              clear hHeld
              go_simp
            try simp only [Act.put, List.setIfInBounds_toArray, List.set_cons_zero, List.set_cons_succ]
            refine wpAnyH_take (i := 2) (v := undef) (at_list rfl) (by kernel_rfl) (by kernel_rfl) (by kernel_rfl) (fun _ _ _ h => h) (Or.inr ⟨by rfl, rfl⟩) hHeld ?_
            try simp only [Act.put, List.setIfInBounds_toArray, List.set_cons_zero, List.set_cons_succ]
            refine wpAnyH_take (i := 3) (v := undef) (at_list rfl) (by kernel_rfl) (by kernel_rfl) (by kernel_rfl) (fun _ _ _ h => h) (Or.inr ⟨by rfl, rfl⟩) hHeld ?_
            try simp only [Act.put, List.setIfInBounds_toArray, List.set_cons_zero, List.set_cons_succ]
            refine wpAnyH_take (i := 4) (v := undef) (at_list rfl) (by kernel_rfl) (by kernel_rfl) (by kernel_rfl) (fun _ _ _ h => h) (Or.inr ⟨by rfl, rfl⟩) hHeld ?_
            try simp only [Act.put, List.setIfInBounds_toArray, List.set_cons_zero, List.set_cons_succ]
            refine wpAnyH_take (i := 5) (v := undef) (at_list rfl) (by kernel_rfl) (by kernel_rfl) (by kernel_rfl) (fun _ _ _ h => h) (Or.inr ⟨by rfl, rfl⟩) hHeld ?_
            try simp only [Act.put, List.setIfInBounds_toArray, List.set_cons_zero, List.set_cons_succ]
            refine wpAnyH_take (i := 6) (v := undef) (at_list rfl) (by kernel_rfl) (by kernel_rfl) (by kernel_rfl) (fun _ _ _ h => h) (Or.inr ⟨by rfl, rfl⟩) hHeld ?_
            try simp only [Act.put, List.setIfInBounds_toArray, List.set_cons_zero, List.set_cons_succ]
            refine wpAnyH_take (i := 7) (v := undef) (at_list rfl) (by kernel_rfl) (by kernel_rfl) (by kernel_rfl) (fun _ _ _ h => h) (Or.inr ⟨by rfl, rfl⟩) hHeld ?_
            try simp only [Act.put, List.setIfInBounds_toArray, List.set_cons_zero, List.set_cons_succ]
            refine wpAnyH_take (i := 8) (v := undef) (at_list rfl) (by kernel_rfl) (by kernel_rfl) (by kernel_rfl) (fun _ _ _ h => h) (Or.inr ⟨by rfl, rfl⟩) hHeld ?_
            try simp only [Act.put, List.setIfInBounds_toArray, List.set_cons_zero, List.set_cons_succ]
            refine wpAnyH_take (i := 9) (v := undef) (at_list rfl) (by kernel_rfl) (by kernel_rfl) (by kernel_rfl) (fun _ _ _ h => h) (Or.inr ⟨by rfl, rfl⟩) hHeld ?_
            try simp only [Act.put, List.setIfInBounds_toArray, List.set_cons_zero, List.set_cons_succ]
            refine wpAnyH_take (i := 10) (v := undef) (at_list rfl) (by kernel_rfl) (by kernel_rfl) (by kernel_rfl) (fun _ _ _ h => h) (Or.inr ⟨by rfl, rfl⟩) hHeld ?_
            try simp only [Act.put, List.setIfInBounds_toArray, List.set_cons_zero, List.set_cons_succ]
            refine wpAnyH_take (i := 11) (v := .bool true) (at_list rfl) (by kernel_rfl) (by kernel_rfl) (by kernel_rfl) (fun _ _ _ h => h) (Or.inl ⟨by rfl, ?_⟩) hHeld ?_
            · intro v hSv
              clear hHeld
              go_simp
            try simp only [Act.put, List.setIfInBounds_toArray, List.set_cons_zero, List.set_cons_succ]
            refine wpAnyH_take (i := 12) (v := .bool true) (at_list rfl) (by kernel_rfl) (by kernel_rfl) (by kernel_rfl) (fun _ _ _ h => h) (Or.inl ⟨by rfl, ?_⟩) hHeld ?_
            · intro v hSv
              clear hHeld
              go_simp
            try simp only [Act.put, List.setIfInBounds_toArray, List.set_cons_zero, List.set_cons_succ]
            refine wpAnyH_done (by kernel_rfl) ?_ _
            refine NoPanic.normal ?_
            have HB := Lib.hid hHeld.1
            have K1 := Lib.hid hHeld.2
            clear hHeld
            go_wp2
            go_roundw
            case rel => exact ⟨m + 1, by omega, by go_num, by rw [HS2.out], K1, HB⟩
            case measure => simp [intOf]; omega
        · have hd2 : decide ((m : Int) < (n : Int)) = false := by simpa using hlt2
          have e : l.take m = l := List.take_of_length_le (by rw [HN.out]; omega)
          rw [e]
          have hf := any_free (l := l) (a := a)
          cases hs : l.any fun c => lessB c a
          · rw [hs] at hf
            have HR := Lib.hid (first_yes HA.out hf HC.out)
            clear hf hs e
            go_wp2
            go_ret
            exact ⟨ret_int (by rw [HR.out]), HB.out⟩
          · rw [hs] at hf
            have HR := Lib.hid (first_no HA.out hf HC.out)
            clear hf hs e
            go_wp2
            go_roundw
            case rel => exact ⟨k + 1, by omega, by go_num, HR, K1, HB⟩
            case measure => simp [intOf]; omega
    · have hd : decide ((k : Int) < (n : Int)) = false := by simpa using hlt
      have HR := Lib.hid (first_end HN.out hlt HC.out)
      go_wp2
      go_ret
      exact ⟨ret_int (by rw [HR.out]), HB.out⟩
set_option maxHeartbeats 4000000 in
theorem rfirst7_nil (A : Option Addr) (c : Nat) (w : World) :
    Calls Try.prog 21 #[.slice A 0 c] w fun e w' => e = .returned (.int .i64 (-1)) ∧ Below w.heap.size w w' := by
  have HB := Lib.hid (Below.refl w.heap.size w)
  go_enter Try.func21, Try.ntmps21
  go_wp2
  go_loopw [3] (fun i v => i = .int .i64 0 ∧ v = w) (fun _ _ => 0)
  case atStart => exact ⟨rfl, rfl⟩
  case round =>
    obtain ⟨rfl, rfl⟩ := hrel
    go_wp2
    go_ret
    exact ⟨rfl, Below.refl _ _⟩

end Go.Proofs.Ytifhjmhekapaoaa
