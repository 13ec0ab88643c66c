/- The walk over the reference's head Decode. -/
import Derived.Test.YtifhjmhekapaoaaDoorHeadRDA
import Derived.Test.YtifhjmhekapaoaaDoorHeadRDB
import Derived.Test.YtifhjmhekapaoaaDoorHeadRDC
import Derived.Test.YtifhjmhekapaoaaDoorHeadRDD
import Derived.Test.YtifhjmhekapaoaaDoorHeadRDE
namespace Go.Proofs.YtifhjmhekapaoaaDoor
set_option maxRecDepth 100000
open Go.RowKit
set_option linter.unusedVariables false

theorem rdf_of (a : Addr) (L C : Nat) (zs : List Int) (hlen : zs.length = L) (hL : 34 ≤ L) (hC : L ≤ C) (hM : C ≤ maxLen) (hb : ∀ z ∈ zs, isByte z) : RDF a L C zs (hdOf zs) (longN (zs.getD 0 0 % 16)) (zs.getD 2 0 * 256 + zs.getD 3 0) (zs.getD 0 0) (zs.getD 1 0) (zs.getD 4 0) (zs.getD 5 0) (zs.getD 16 0) (zs.getD 17 0) (zs.getD 18 0) (zs.getD 19 0) (zs.getD 32 0) (zs.getD 33 0) where
  l34 := hL
  lc := hC
  cm := hM
  len := hlen
  b0 := getD_byte hb 0
  b4 := getD_byte hb 4
  b33 := getD_byte hb 33
  gt := rfl
  gd := rfl
  gl := rfl
  v0 := fun v hv => by
    have h := hv 0 (by omega)
    rw [Addr.add_zero'] at h
    exact h
  v1 := fun v hv => hv.at_ (by omega) (by omega)
  v4 := fun v hv => hv.at_ (by omega) (by omega)
  v5 := fun v hv => hv.at_ (by omega) (by omega)
  v16 := fun v hv => hv.at_ (by omega) (by omega)
  v17 := fun v hv => hv.at_ (by omega) (by omega)
  v18 := fun v hv => hv.at_ (by omega) (by omega)
  v19 := fun v hv => hv.at_ (by omega) (by omega)
  v32 := fun v hv => hv.at_ (by omega) (by omega)
  v33 := fun v hv => hv.at_ (by omega) (by omega)
  cv := fun v hv => value5_any a L C 6 zs v hlen (by omega) (by omega) hb hv
  cw := fun v hv => value5_any a L C 30 zs v hlen (by omega) (by omega) hb hv
  cx := fun v hv => value5_any a L C 2 zs v hlen (by omega) (by omega) hb hv
  cs := fun v hv => by
    have h8 : ((zs.drop 8).take 8).length = 8 := by rw [List.length_take, List.length_drop]; omega
    have hs := hv.sub (ys := (zs.drop 8).take 8) 8 (fun i hi => by
      rw [h8] at hi
      rw [List.getElem?_take, if_pos hi, List.getElem?_drop])
    refine (signed_any (a.add 8) (C - 8) ((zs.drop 8).take 8) v h8 (fun z hz => hb z (List.mem_of_mem_drop (List.mem_of_mem_take hz))) hs).mono ?_
    rintro e w' ⟨h1, rfl⟩
    exact ⟨h1, Below.refl _ _⟩
  cg := fun v hv => by
    have h10 : ((zs.drop 20).take 10).length = 10 := by rw [List.length_take, List.length_drop]; omega
    exact ridget_ten (a.add 20) (C - 20) ((zs.drop 20).take 10) v h10 (fun z hz => hb z (List.mem_of_mem_drop (List.mem_of_mem_take hz))) (hv.sub 20 (fun i hi => by
      rw [h10] at hi
      rw [List.getElem?_take, if_pos hi, List.getElem?_drop]))
  cl := fun v => rlong_any _ v
  s8 := fun v => slice_mid a L C 8 16 (by omega) (by omega) (by omega) v
  s20 := fun v => slice_mid a L C 20 30 (by omega) (by omega) (by omega) v
theorem port_bd {zs : List Int} (hb : ∀ z ∈ zs, isByte z) : 0 ≤ (hdOf zs).p.n ∧ (hdOf zs).p.n ≤ 65535 := by
  have gn := getD_byte (show ∀ z ∈ (zs.drop 20).take 10, isByte z from fun z hz => hb z (List.mem_of_mem_drop (List.mem_of_mem_take hz))) 8
  have gn2 := getD_byte (show ∀ z ∈ (zs.drop 20).take 10, isByte z from fun z hz => hb z (List.mem_of_mem_drop (List.mem_of_mem_take hz))) 9
  unfold isByte at gn gn2
  show 0 ≤ _ * 256 + _ ∧ _ * 256 + _ ≤ 65535
  omega
theorem form_rest {L : Int} {zs : List Int} (hL : ¬ L < 34) (h2 : zs.getD 1 0 = 2) (hm : longN (zs.getD 0 0 % 16) ≠ 0) (hx : zs.getD 2 0 * 256 + zs.getD 3 0 = longN (zs.getD 0 0 % 16)) (hl : L = longN (zs.getD 0 0 % 16)) : formN L zs = if 15 < zs.getD 0 0 ∨ zs.getD 5 0 ≠ 0 ∨ zs.getD 16 0 ≠ 0 ∨ zs.getD 17 0 ≠ 0 ∨ zs.getD 18 0 ≠ 0 ∨ zs.getD 19 0 ≠ 0 ∨ zs.getD 32 0 ≠ 0 then 54 else 0 := by
  unfold formN
  rw [if_neg hL, if_neg (fun h => h h2), if_neg hm, if_neg (fun h => h.elim (fun h => h hx) (fun h => h hl))]
theorem rdecode_any (a : Addr) (L C : Nat) (zs : List Int) (w : World) (hlen : zs.length = L) (hL : 34 ≤ L) (hC : L ≤ C) (hM : C ≤ maxLen) (hb : ∀ z ∈ zs, isByte z) (hc : BytesAt w a zs) :
    Calls Tryd.prog 7 #[.slice (some a) L C] w fun e w' => e = decR (faultN L zs) (decH L zs) ∧ Below w.heap.size w w' := by
  have F := rdf_of a L C zs hlen hL hC hM hb
  have hL' : ¬ ((L : Int) < 34) := by omega
  show Calls Tryd.prog 7 #[.slice (some a) L C] w fun e w' => e = .returned (.tuple #[.agg (hdA (decH L zs)), .int .i64 (faultN L zs)]) ∧ Below w.heap.size w w'
  by_cases h2 : zs.getD 1 0 = 2
  · by_cases hh : 127 < zs.getD 33 0
    · by_cases hm : longN (zs.getD 0 0 % 16) = 0
      · exact rd_52_h a L C zs (hdOf zs) _ _ _ _ _ _ _ _ _ _ _ _ w _ (Ending.returned.inj (fault_form (c := 52) (by omega) (by unfold formN; rw [if_neg hL', if_neg (fun h => h h2), if_pos hm]))) F hc h2 hh hm
      by_cases hx : zs.getD 2 0 * 256 + zs.getD 3 0 = longN (zs.getD 0 0 % 16)
      · by_cases hl : (L : Int) = longN (zs.getD 0 0 % 16)
        · have hf := form_rest hL' h2 hm hx hl
          by_cases am : 15 < zs.getD 0 0 ∨ zs.getD 5 0 ≠ 0 ∨ zs.getD 16 0 ≠ 0 ∨ zs.getD 17 0 ≠ 0 ∨ zs.getD 18 0 ≠ 0 ∨ zs.getD 19 0 ≠ 0 ∨ zs.getD 32 0 ≠ 0
          · rw [if_pos am] at hf
            exact rd_54_h a L C zs (hdOf zs) _ _ _ _ _ _ _ _ _ _ _ _ w _ (Ending.returned.inj (fault_form (c := 54) (by omega) (hf))) F hc h2 hh hm hx hl am
          · rw [if_neg am] at hf
            have hr := fault_rest hf
            have n0 : ¬ 15 < zs.getD 0 0 := fun h => am (.inl h)
            have n5 : zs.getD 5 0 = 0 := by by_cases h : zs.getD 5 0 = 0; exact h; exact absurd (.inr (.inl h)) am
            have n16 : zs.getD 16 0 = 0 := by by_cases h : zs.getD 16 0 = 0; exact h; exact absurd (.inr (.inr (.inl h))) am
            have n17 : zs.getD 17 0 = 0 := by by_cases h : zs.getD 17 0 = 0; exact h; exact absurd (.inr (.inr (.inr (.inl h)))) am
            have n18 : zs.getD 18 0 = 0 := by by_cases h : zs.getD 18 0 = 0; exact h; exact absurd (.inr (.inr (.inr (.inr (.inl h))))) am
            have n19 : zs.getD 19 0 = 0 := by by_cases h : zs.getD 19 0 = 0; exact h; exact absurd (.inr (.inr (.inr (.inr (.inr (.inl h)))))) am
            have n32 : zs.getD 32 0 = 0 := by by_cases h : zs.getD 32 0 = 0; exact h; exact absurd (.inr (.inr (.inr (.inr (.inr (.inr h)))))) am
            cases fb : flagB (hdOf zs).t (hdOf zs).f
            · rw [fb] at hr
              exact rd_55_h a L C zs (hdOf zs) _ _ _ _ _ _ _ _ _ _ _ _ w _ (Ending.returned.inj (hr.trans (by simp [decR]; rfl))) F hc h2 hh hm hx hl n0 n5 n16 n17 n18 n19 n32 fb
            · rw [fb] at hr
              cases nb : inB (hdOf zs).p.n 1 65534
              · rw [nb] at hr
                have hp := inB_not.1 nb
                have hbd := port_bd hb
                by_cases hp0 : (hdOf zs).p.n = 0
                · exact rd_560_h a L C zs (hdOf zs) _ _ _ _ _ _ _ _ _ _ _ _ w _ (Ending.returned.inj (hr.trans (by simp [decR]; rfl))) F hc h2 hh hm hx hl n0 n5 n16 n17 n18 n19 n32 fb hp0
                · exact rd_56f_h a L C zs (hdOf zs) _ _ _ _ _ _ _ _ _ _ _ _ w _ (Ending.returned.inj (hr.trans (by simp [decR]; rfl))) F hc h2 hh hm hx hl n0 n5 n16 n17 n18 n19 n32 fb (by omega)
              · rw [nb] at hr
                have hp := inB_iff.1 nb
                exact rd_0_h a L C zs (hdOf zs) _ _ _ _ _ _ _ _ _ _ _ _ w _ (Ending.returned.inj (hr.trans (by simp [decR]; rfl))) F hc h2 hh hm hx hl n0 n5 n16 n17 n18 n19 n32 fb (by omega) (by omega)
        · exact rd_53l_h a L C zs (hdOf zs) _ _ _ _ _ _ _ _ _ _ _ _ w _ (Ending.returned.inj (fault_form (c := 53) (by omega) (by unfold formN; rw [if_neg hL', if_neg (fun h => h h2), if_neg hm, if_pos (.inr hl)]))) F hc h2 hh hm hx hl
      · exact rd_53x_h a L C zs (hdOf zs) _ _ _ _ _ _ _ _ _ _ _ _ w _ (Ending.returned.inj (fault_form (c := 53) (by omega) (by unfold formN; rw [if_neg hL', if_neg (fun h => h h2), if_neg hm, if_pos (.inl hx)]))) F hc h2 hh hm hx
    · by_cases hm : longN (zs.getD 0 0 % 16) = 0
      · exact rd_52_l a L C zs (hdOf zs) _ _ _ _ _ _ _ _ _ _ _ _ w _ (Ending.returned.inj (fault_form (c := 52) (by omega) (by unfold formN; rw [if_neg hL', if_neg (fun h => h h2), if_pos hm]))) F hc h2 hh hm
      by_cases hx : zs.getD 2 0 * 256 + zs.getD 3 0 = longN (zs.getD 0 0 % 16)
      · by_cases hl : (L : Int) = longN (zs.getD 0 0 % 16)
        · have hf := form_rest hL' h2 hm hx hl
          by_cases am : 15 < zs.getD 0 0 ∨ zs.getD 5 0 ≠ 0 ∨ zs.getD 16 0 ≠ 0 ∨ zs.getD 17 0 ≠ 0 ∨ zs.getD 18 0 ≠ 0 ∨ zs.getD 19 0 ≠ 0 ∨ zs.getD 32 0 ≠ 0
          · rw [if_pos am] at hf
            exact rd_54_l a L C zs (hdOf zs) _ _ _ _ _ _ _ _ _ _ _ _ w _ (Ending.returned.inj (fault_form (c := 54) (by omega) (hf))) F hc h2 hh hm hx hl am
          · rw [if_neg am] at hf
            have hr := fault_rest hf
            have n0 : ¬ 15 < zs.getD 0 0 := fun h => am (.inl h)
            have n5 : zs.getD 5 0 = 0 := by by_cases h : zs.getD 5 0 = 0; exact h; exact absurd (.inr (.inl h)) am
            have n16 : zs.getD 16 0 = 0 := by by_cases h : zs.getD 16 0 = 0; exact h; exact absurd (.inr (.inr (.inl h))) am
            have n17 : zs.getD 17 0 = 0 := by by_cases h : zs.getD 17 0 = 0; exact h; exact absurd (.inr (.inr (.inr (.inl h)))) am
            have n18 : zs.getD 18 0 = 0 := by by_cases h : zs.getD 18 0 = 0; exact h; exact absurd (.inr (.inr (.inr (.inr (.inl h))))) am
            have n19 : zs.getD 19 0 = 0 := by by_cases h : zs.getD 19 0 = 0; exact h; exact absurd (.inr (.inr (.inr (.inr (.inr (.inl h)))))) am
            have n32 : zs.getD 32 0 = 0 := by by_cases h : zs.getD 32 0 = 0; exact h; exact absurd (.inr (.inr (.inr (.inr (.inr (.inr h)))))) am
            cases fb : flagB (hdOf zs).t (hdOf zs).f
            · rw [fb] at hr
              exact rd_55_l a L C zs (hdOf zs) _ _ _ _ _ _ _ _ _ _ _ _ w _ (Ending.returned.inj (hr.trans (by simp [decR]; rfl))) F hc h2 hh hm hx hl n0 n5 n16 n17 n18 n19 n32 fb
            · rw [fb] at hr
              cases nb : inB (hdOf zs).p.n 1 65534
              · rw [nb] at hr
                have hp := inB_not.1 nb
                have hbd := port_bd hb
                by_cases hp0 : (hdOf zs).p.n = 0
                · exact rd_560_l a L C zs (hdOf zs) _ _ _ _ _ _ _ _ _ _ _ _ w _ (Ending.returned.inj (hr.trans (by simp [decR]; rfl))) F hc h2 hh hm hx hl n0 n5 n16 n17 n18 n19 n32 fb hp0
                · exact rd_56f_l a L C zs (hdOf zs) _ _ _ _ _ _ _ _ _ _ _ _ w _ (Ending.returned.inj (hr.trans (by simp [decR]; rfl))) F hc h2 hh hm hx hl n0 n5 n16 n17 n18 n19 n32 fb (by omega)
              · rw [nb] at hr
                have hp := inB_iff.1 nb
                exact rd_0_l a L C zs (hdOf zs) _ _ _ _ _ _ _ _ _ _ _ _ w _ (Ending.returned.inj (hr.trans (by simp [decR]; rfl))) F hc h2 hh hm hx hl n0 n5 n16 n17 n18 n19 n32 fb (by omega) (by omega)
        · exact rd_53l_l a L C zs (hdOf zs) _ _ _ _ _ _ _ _ _ _ _ _ w _ (Ending.returned.inj (fault_form (c := 53) (by omega) (by unfold formN; rw [if_neg hL', if_neg (fun h => h h2), if_neg hm, if_pos (.inr hl)]))) F hc h2 hh hm hx hl
      · exact rd_53x_l a L C zs (hdOf zs) _ _ _ _ _ _ _ _ _ _ _ _ w _ (Ending.returned.inj (fault_form (c := 53) (by omega) (by unfold formN; rw [if_neg hL', if_neg (fun h => h h2), if_neg hm, if_pos (.inl hx)]))) F hc h2 hh hm hx
  · have h := rd_51 a L C zs (hdOf zs) _ _ _ _ _ _ _ _ _ _ _ _ w F hc h2
    have e := Ending.returned.inj (fault_form (L := (L : Int)) (zs := zs) (c := 51) (by omega) (by unfold formN; rw [if_neg hL', if_pos h2]))
    rw [show (.tuple #[.agg (hdA (decH L zs)), .int .i64 (faultN L zs)] : Value) = .tuple #[.agg (hdA zeroH), .int .i64 51] from e]
    exact h

end Go.Proofs.YtifhjmhekapaoaaDoor
