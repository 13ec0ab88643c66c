/- slices.MinFunc over ports, by their last times. -/
import Derived.Test.YtnddmaadmibpeaaForeignIdx
import Derived.Deep.DeepCutAuto
namespace Go.Proofs.Ytnddmaadmibpeaa
set_option maxRecDepth 100000
open Go.RowKit
set_option linter.unusedVariables false

/-- the first of those whose last time is least -/
def minP (L : List Fe) (p : Pt) : List Pt → Pt
  | [] => p
  | q :: l => minP L (if (atE L q).t0 < (atE L p).t0 then q else p) l
theorem minP_snoc (L : List Fe) (q : Pt) : ∀ (l : List Pt) (p : Pt), minP L p (l ++ [q]) = if (atE L q).t0 < (atE L (minP L p l)).t0 then q else minP L p l
  | [], p => rfl
  | x :: l, p => by
    rw [List.cons_append, minP, minP_snoc L q l]
    rfl
theorem minP_mem (L : List Fe) : ∀ (l : List Pt) (p : Pt), minP L p l = p ∨ minP L p l ∈ l
  | [], p => .inl rfl
  | x :: l, p => by
    unfold minP
    rcases minP_mem L l (if (atE L x).t0 < (atE L p).t0 then x else p) with h | h
    · rw [h]
      split
      · exact .inr (by simp)
      · exact .inl rfl
    · exact .inr (by simp [h])
theorem atE_of {L : List Fe} (h : TabOk L) {e : Fe} (he : e ∈ L) : atE L e.s.sn = e := by
  unfold atE
  rw [getE_of h.apart he]
  rfl
theorem minP_from {L : List Fe} (h : TabOk L) : ∀ (l : List Fe) (x : Fe), x ∈ L → (∀ e ∈ l, e ∈ L) → minP L x.s.sn (l.map (·.s.sn)) = (minFrom x l).s.sn
  | [], x, _, _ => rfl
  | y :: l, x, hx, hl => by
    rw [List.map_cons, minP, minFrom, atE_of h hx, atE_of h (hl y (by simp))]
    split
    · exact minP_from h l y (hl y (by simp)) fun e he => hl e (by simp [he])
    · exact minP_from h l x hx fun e he => hl e (by simp [he])
theorem take_tail {q : Pt} {ps : List Pt} {k : Nat} (hk : 1 ≤ k) {p0 : Pt} {rest : List Pt} (hp : ps = p0 :: rest) (hq : ps[k]? = some q) : rest.take k = rest.take (k - 1) ++ [q] := by
  subst hp
  obtain ⟨j, rfl⟩ : ∃ j, k = j + 1 := ⟨k - 1, by omega⟩
  rw [Nat.add_sub_cancel, List.take_add_one]
  have : rest[j]? = some q := by simpa using hq
  rw [this]
  rfl
set_option maxHeartbeats 4000000 in
theorem min8_any (bt bs p m : Nat) (own : Ck) (win : Int) (L : List Fe) (st : Int) (p0 : Pt) (rest : List Pt) (g n c : Nat) (w : World) (h : ClosAt w bt bs p m own win L st) (ok : ∀ q ∈ p0 :: rest, ptOk q) (hn : (p0 :: rest).length = n) (hn2 : n ≤ 1000000) (hp : PtsAt w g 0 (p0 :: rest)) :
    Calls Try.prog 36 #[.slice (some ⟨g, 0, none⟩) n c, .func (.func 34) #[] #[.pointer (some ⟨bt, 0, none⟩)]] w fun e w' => e = .returned (.agg (ptA (minP L p0 rest))) ∧ Below w.heap.size w w' := by
  have HB := Lib.hid (Below.refl w.heap.size w)
  have CA := Lib.hid h
  have HOK := Lib.hid ok
  have HN := Lib.hid hn
  have PA := Lib.hid hp
  have hn1 : decide ((n : Int) < 1) = false := by simp at hn ⊢; omega
  clear h ok hn hp
  go_enter Try.func36, Try.ntmps36
  go_upto_region 1 with ((refine big_alloc rfl 35 rfl (ptA zP) (by kernel_rfl) ?_; intro gK4 wK4 hlK4 nK4 hbK4; have K4 := Lib.hid nK4; have LK4 := Lib.hid (Nat.le_trans (HB.out).size hlK4); have OCAK4 := Lib.hid ((CA.out).off hlK4); have OPAK4 := Lib.hid ((PA.out).off hlK4); replace CA := Lib.hid ((CA.out).keptB hbK4); replace PA := Lib.hid ((PA.out).keptB hbK4); replace HB := Lib.hid (bstep HB.out hbK4); clear hlK4 nK4 hbK4))
  have HP0 : Hid ((p0 :: rest)[0]? = some p0) := rfl
  go_wp2_with (first | (refine big_fill rfl 35 _ _ rfl gK5 (ptA p0) rfl rfl K5.out (by kernel_rfl) (by kernel_rfl) (by kernel_rfl) ?_; intro vK50 nK5 htK5; replace K5 := Lib.hid nK5; replace CA := Lib.hid ((CA.out).touch htK5 OCAK5.out); replace PA := Lib.hid ((PA.out).touch htK5 OPAK5.out); replace K4 := Lib.hid ((K4.out).touch htK5 OK4K5.out); replace HB := Lib.hid (btouch HB.out htK5 LK5.out); clear nK5 htK5) | (refine big_alloc rfl 35 rfl (ptA zP) (by kernel_rfl) ?_; intro gK5 wK5 hlK5 nK5 hbK5; have K5 := Lib.hid nK5; have LK5 := Lib.hid (Nat.le_trans (HB.out).size hlK5); have OCAK5 := Lib.hid ((CA.out).off hlK5); have OPAK5 := Lib.hid ((PA.out).off hlK5); have OK4K5 := Lib.hid ((K4.out).off hlK5); replace CA := Lib.hid ((CA.out).keptB hbK5); replace PA := Lib.hid ((PA.out).keptB hbK5); replace K4 := Lib.hid ((K4.out).keptB hbK5); replace HB := Lib.hid (bstep HB.out hbK5); clear hlK5 nK5 hbK5) | (refine big_loadAt rfl 35 _ rfl g (0 + 0 * 9) rfl (ptA p0) ((PA.out) 0 p0 HP0.out) Try.underlying35 rfl (by kernel_rfl) ?_) | (refine big_index rfl 56 _ _ rfl g 0 n c 0 9 rfl rfl (by have := HN.out; simp at this; omega) Try.underlying56 (by kernel_rfl) ?_))
  go_loopg [6] n (fun gh i v => ∃ k : Nat, 1 ≤ k ∧ k + gh = n + 1 ∧ k ≤ n ∧ i = .int .i64 k ∧ Hid (Below w.heap.size w v) ∧ Hid (ClosAt v bt bs p m own win L st) ∧ Hid (PtsAt v g 0 (p0 :: rest)) ∧ Hid (Holds v gK4 35 (ptA zP)) ∧ Hid (Holds v gK5 35 (ptA (minP L p0 (rest.take (k - 1))))))
  case atStart => exact ⟨1, by omega, by omega, by have := HN.out; simp at this; omega, rfl, HB, CA, PA, K4, K5⟩
  case round =>
    clear HB CA PA K4 K5
    obtain ⟨k, hk1, hk, hkn, rfl, HB, CA, PA, K4, K5⟩ := hrel
    cases gk with
    | zero => omega
    | succ g1 =>
      by_cases hlt : k < n
      · have hd : decide ((k : Int) < (n : Int)) = true := by simpa using hlt
        obtain ⟨q, hq⟩ : ∃ q, (p0 :: rest)[k]? = some q := ⟨_, List.getElem?_eq_getElem (show k < (p0 :: rest).length by have := HN.out; omega)⟩
        have HQ := Lib.hid hq
        have HK := Lib.hid hlt
        have HOQ := Lib.hid ((HOK.out) q (List.mem_of_getElem? hq))
        have HK1 := Lib.hid hk1
        obtain ⟨mn, HMN⟩ : ∃ x, Hid (minP L p0 (rest.take (k - 1)) = x) := ⟨_, Lib.hid rfl⟩
        rw [HMN.out] at K5
        have HOM : Hid (ptOk mn) := by
          rcases minP_mem L (rest.take (k - 1)) p0 with h1 | h1
          · rw [← HMN.out, h1]; exact (HOK.out) p0 (by simp)
          · rw [← HMN.out]; exact (HOK.out) _ (List.mem_cons_of_mem _ (List.mem_of_mem_take h1))
        have HS : Hid (minP L p0 (rest.take (k + 1 - 1)) = if (atE L q).t0 < (atE L mn).t0 then q else mn) := by
          rw [Hid, Nat.add_sub_cancel, take_tail HK1.out rfl HQ.out, minP_snoc, HMN.out]
        clear hq hlt hk1
        by_cases hc : (atE L q).t0 < (atE L mn).t0
        · have HC := Lib.hid hc
          have hd2 : decide (cmpI (atE L q).t0 (atE L mn).t0 < 0) = true := by
            have := cmpI_lt (atE L q).t0 (atE L mn).t0
            simp [this]; omega
          clear hc
          go_upto_region 7 with fail
          refine wp_region_held_drew (S := fun v => Below w.heap.size w v ∧ ClosAt v bt bs p m own win L st ∧ PtsAt v g 0 (p0 :: rest) ∧ Holds v gK4 35 (ptA zP) ∧ Holds v gK5 35 (ptA mn) ∧ True) (by kernel_rfl) ?_ (fun hHeld => ?_)
          · exact ⟨bdrew HB.out, (CA.out).drew, (PA.out).drew, (K4.out).drew, (K5.out).drew, trivial⟩
          clear HB CA PA K4 K5
          refine wpAnyH_take (i := 0) (v := .func (.func 34) #[] #[.pointer (some ⟨bt, 0, none⟩)]) (at_list rfl) (by kernel_rfl) (by kernel_rfl) (by kernel_rfl) (fun _ _ _ h => h) (Or.inl ⟨by rfl, ?_⟩) hHeld ?_
          · intro v hSv
            clear hHeld
            go_simp
          try simp only [Act.put, List.setIfInBounds_toArray, List.set_cons_zero, List.set_cons_succ]
          refine wpAnyH_take (i := 1) (v := .slice (some ⟨g, 0, none⟩) n c) (at_list rfl) (by kernel_rfl) (by kernel_rfl) (by kernel_rfl) (fun _ _ _ h => h) (Or.inl ⟨by rfl, ?_⟩) hHeld ?_
          · intro v hSv
            clear hHeld
            go_simp
          try simp only [Act.put, List.setIfInBounds_toArray, List.set_cons_zero, List.set_cons_succ]
          refine wpAnyH_take (i := 2) (v := .int .i64 k) (at_list rfl) (by kernel_rfl) (by kernel_rfl) (by kernel_rfl) (fun _ _ _ h => h) (Or.inl ⟨by rfl, ?_⟩) hHeld ?_
          · intro v hSv
            clear hHeld
            go_simp
          try simp only [Act.put, List.setIfInBounds_toArray, List.set_cons_zero, List.set_cons_succ]
          refine wpAnyH_take (i := 3) (v := .pointer (some ⟨g, 0 + k * 9, none⟩)) (at_list rfl) (by kernel_rfl) (by kernel_rfl) (by kernel_rfl) (fun _ _ _ h => h) (yields_index (by rfl) 56 _ _ rfl g 0 n c k 9 rfl rfl HK.out Try.underlying56 (by kernel_rfl)) hHeld ?_
          try simp only [Act.put, List.setIfInBounds_toArray, List.set_cons_zero, List.set_cons_succ]
          refine wpAnyH_take (i := 4) (v := .agg (ptA q)) (at_list rfl) (by kernel_rfl) (by kernel_rfl) (by kernel_rfl) (fun _ _ _ h => h) (yieldsIf_load_mid (by rfl) 35 _ rfl g (0 + k * 9) rfl (ptA q).toList _ (fun v hv => (hv.2.2.1) k q HQ.out) Try.underlying35 rfl (by kernel_rfl)) hHeld ?_
          try simp only [Act.put, List.setIfInBounds_toArray, List.set_cons_zero, List.set_cons_succ]
          refine wpAnyH_take (i := 5) (v := .agg (ptA mn)) (at_list rfl) (by kernel_rfl) (by kernel_rfl) (by kernel_rfl) (fun _ _ _ h => h) (yields_whole (by rfl) 35 _ rfl gK5 rfl (fun v hv => hv.2.2.2.2.1) Try.underlying35 rfl (by kernel_rfl)) hHeld ?_
          try simp only [Act.put, List.setIfInBounds_toArray, List.set_cons_zero, List.set_cons_succ]
          refine wpAnyH_ready (rs := [6]) (by kernel_rfl) (by simp) ?_
          refine AllReadyH.cons (at_list rfl) (fun K hK => ?_) AllReadyH.nil
          go_simp
          refine (bytime8_any bt bs p m own win L st q mn _ (hHeld.2.1) HOQ.out HOM.out).mono ?_
          rintro e v1 ⟨rfl, hv1⟩
          go_wp2_with fail
          refine hK.out _ _ ?_ (fun hHeld2 => ?_)
          · exact ⟨bstep hHeld.1 hv1, (hHeld.2.1).keptB hv1, (hHeld.2.2.1).keptB hv1, (hHeld.2.2.2.1).keptB hv1, (hHeld.2.2.2.2.1).keptB hv1, trivial⟩
          clear hK K hHeld
          have hHeld := hHeld2
          clear hHeld2 hv1
          try simp only [Act.put, List.setIfInBounds_toArray, List.set_cons_zero, List.set_cons_succ]
          refine wpAnyH_take (i := 7) (v := .bool true) (at_list rfl) (by kernel_rfl) (by kernel_rfl) (by kernel_rfl) (fun _ _ _ h => h) (Or.inl ⟨by rfl, ?_⟩) hHeld ?_
          · intro v hSv
            clear hHeld
            go_simp
          try simp only [Act.put, List.setIfInBounds_toArray, List.set_cons_zero, List.set_cons_succ]
          refine wpAnyH_done (by kernel_rfl) ?_ _
          have HB := Lib.hid hHeld.1
          have CA := Lib.hid hHeld.2.1
          have PA := Lib.hid hHeld.2.2.1
          have K4 := Lib.hid hHeld.2.2.2.1
          have K5 := Lib.hid hHeld.2.2.2.2.1
          clear hHeld
          go_wp2_with (first | (refine big_fill rfl 35 _ _ rfl gK5 (ptA q) rfl rfl K5.out (by kernel_rfl) (by kernel_rfl) (by kernel_rfl) ?_; intro vK57 nK5 htK5; replace K5 := Lib.hid nK5; replace CA := Lib.hid ((CA.out).touch htK5 OCAK5.out); replace PA := Lib.hid ((PA.out).touch htK5 OPAK5.out); replace K4 := Lib.hid ((K4.out).touch htK5 OK4K5.out); replace HB := Lib.hid (btouch HB.out htK5 LK5.out); clear nK5 htK5) | (refine big_loadAt rfl 35 _ rfl g (0 + k * 9) rfl (ptA q) ((PA.out) k q HQ.out) Try.underlying35 rfl (by kernel_rfl) ?_) | (refine big_index rfl 56 _ _ rfl g 0 n c k 9 rfl rfl HK.out Try.underlying56 (by kernel_rfl) ?_))
          have HS2 := Lib.hid ((HS.out).trans (if_pos HC.out))
          rw [← HS2.out] at K5
          go_roundg g1
          case measure => omega
          case rel => exact ⟨k + 1, by omega, by omega, by have := HK.out; omega, by go_num, HB, CA, PA, K4, K5⟩
        · have HC := Lib.hid hc
          have hd2 : decide (cmpI (atE L q).t0 (atE L mn).t0 < 0) = false := by
            have := cmpI_lt (atE L q).t0 (atE L mn).t0
            simp [this]; omega
          clear hc
          go_upto_region 7 with fail
          refine wp_region_held_drew (S := fun v => Below w.heap.size w v ∧ ClosAt v bt bs p m own win L st ∧ PtsAt v g 0 (p0 :: rest) ∧ Holds v gK4 35 (ptA zP) ∧ Holds v gK5 35 (ptA mn) ∧ True) (by kernel_rfl) ?_ (fun hHeld => ?_)
          · exact ⟨bdrew HB.out, (CA.out).drew, (PA.out).drew, (K4.out).drew, (K5.out).drew, trivial⟩
          clear HB CA PA K4 K5
          refine wpAnyH_take (i := 0) (v := .func (.func 34) #[] #[.pointer (some ⟨bt, 0, none⟩)]) (at_list rfl) (by kernel_rfl) (by kernel_rfl) (by kernel_rfl) (fun _ _ _ h => h) (Or.inl ⟨by rfl, ?_⟩) hHeld ?_
          · intro v hSv
            clear hHeld
            go_simp
          try simp only [Act.put, List.setIfInBounds_toArray, List.set_cons_zero, List.set_cons_succ]
          refine wpAnyH_take (i := 1) (v := .slice (some ⟨g, 0, none⟩) n c) (at_list rfl) (by kernel_rfl) (by kernel_rfl) (by kernel_rfl) (fun _ _ _ h => h) (Or.inl ⟨by rfl, ?_⟩) hHeld ?_
          · intro v hSv
            clear hHeld
            go_simp
          try simp only [Act.put, List.setIfInBounds_toArray, List.set_cons_zero, List.set_cons_succ]
          refine wpAnyH_take (i := 2) (v := .int .i64 k) (at_list rfl) (by kernel_rfl) (by kernel_rfl) (by kernel_rfl) (fun _ _ _ h => h) (Or.inl ⟨by rfl, ?_⟩) hHeld ?_
          · intro v hSv
            clear hHeld
            go_simp
          try simp only [Act.put, List.setIfInBounds_toArray, List.set_cons_zero, List.set_cons_succ]
          refine wpAnyH_take (i := 3) (v := .pointer (some ⟨g, 0 + k * 9, none⟩)) (at_list rfl) (by kernel_rfl) (by kernel_rfl) (by kernel_rfl) (fun _ _ _ h => h) (yields_index (by rfl) 56 _ _ rfl g 0 n c k 9 rfl rfl HK.out Try.underlying56 (by kernel_rfl)) hHeld ?_
          try simp only [Act.put, List.setIfInBounds_toArray, List.set_cons_zero, List.set_cons_succ]
          refine wpAnyH_take (i := 4) (v := .agg (ptA q)) (at_list rfl) (by kernel_rfl) (by kernel_rfl) (by kernel_rfl) (fun _ _ _ h => h) (yieldsIf_load_mid (by rfl) 35 _ rfl g (0 + k * 9) rfl (ptA q).toList _ (fun v hv => (hv.2.2.1) k q HQ.out) Try.underlying35 rfl (by kernel_rfl)) hHeld ?_
          try simp only [Act.put, List.setIfInBounds_toArray, List.set_cons_zero, List.set_cons_succ]
          refine wpAnyH_take (i := 5) (v := .agg (ptA mn)) (at_list rfl) (by kernel_rfl) (by kernel_rfl) (by kernel_rfl) (fun _ _ _ h => h) (yields_whole (by rfl) 35 _ rfl gK5 rfl (fun v hv => hv.2.2.2.2.1) Try.underlying35 rfl (by kernel_rfl)) hHeld ?_
          try simp only [Act.put, List.setIfInBounds_toArray, List.set_cons_zero, List.set_cons_succ]
          refine wpAnyH_ready (rs := [6]) (by kernel_rfl) (by simp) ?_
          refine AllReadyH.cons (at_list rfl) (fun K hK => ?_) AllReadyH.nil
          go_simp
          refine (bytime8_any bt bs p m own win L st q mn _ (hHeld.2.1) HOQ.out HOM.out).mono ?_
          rintro e v1 ⟨rfl, hv1⟩
          go_wp2_with fail
          refine hK.out _ _ ?_ (fun hHeld2 => ?_)
          · exact ⟨bstep hHeld.1 hv1, (hHeld.2.1).keptB hv1, (hHeld.2.2.1).keptB hv1, (hHeld.2.2.2.1).keptB hv1, (hHeld.2.2.2.2.1).keptB hv1, trivial⟩
          clear hK K hHeld
          have hHeld := hHeld2
          clear hHeld2 hv1
          try simp only [Act.put, List.setIfInBounds_toArray, List.set_cons_zero, List.set_cons_succ]
          refine wpAnyH_take (i := 7) (v := .bool false) (at_list rfl) (by kernel_rfl) (by kernel_rfl) (by kernel_rfl) (fun _ _ _ h => h) (Or.inl ⟨by rfl, ?_⟩) hHeld ?_
          · intro v hSv
            clear hHeld
            go_simp
          try simp only [Act.put, List.setIfInBounds_toArray, List.set_cons_zero, List.set_cons_succ]
          refine wpAnyH_done (by kernel_rfl) ?_ _
          have HB := Lib.hid hHeld.1
          have CA := Lib.hid hHeld.2.1
          have PA := Lib.hid hHeld.2.2.1
          have K4 := Lib.hid hHeld.2.2.2.1
          have K5 := Lib.hid hHeld.2.2.2.2.1
          clear hHeld
          go_wp2
          have HS2 := Lib.hid ((HS.out).trans (if_neg (show ¬ (atE L q).t0 < (atE L mn).t0 by have := HC.out; omega)))
          rw [← HS2.out] at K5
          go_roundg g1
          case measure => omega
          case rel => exact ⟨k + 1, by omega, by omega, by have := HK.out; omega, by go_num, HB, CA, PA, K4, K5⟩
      · have hd : decide ((k : Int) < (n : Int)) = false := by simp; omega
        obtain rfl : k = n := by omega
        have HT : Hid (rest.take (k - 1) = rest) := by
          have := HN.out
          simp at this
          exact List.take_of_length_le (by omega)
        rw [HT.out] at K5
        clear hkn
        go_wp2_with (first | (refine big_fill rfl 35 _ _ rfl gK4 (ptA (minP L p0 rest)) rfl rfl K4.out (by kernel_rfl) (by kernel_rfl) (by kernel_rfl) ?_; intro vK49 nK4 htK4; replace K4 := Lib.hid nK4; replace CA := Lib.hid ((CA.out).touch htK4 OCAK4.out); replace PA := Lib.hid ((PA.out).touch htK4 OPAK4.out); replace K5 := Lib.hid ((K5.out).touch htK4 (Ne.symm OK4K5.out)); replace HB := Lib.hid (btouch HB.out htK4 LK4.out); clear nK4 htK4) | (refine big_whole rfl 35 _ rfl gK5 rfl K5.out Try.underlying35 rfl (by kernel_rfl) ?_))
        refine bodyPost_ret (v := .agg (ptA (minP L p0 rest))) (results_cell_row rfl _ _ gK4 _ _ (0, 0) _ rfl K4.out Try.underlying35 rfl (by kernel_rfl)) rfl ⟨rfl, HB.out⟩

end Go.Proofs.Ytnddmaadmibpeaa
