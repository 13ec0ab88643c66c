/- The walks over the laws StampOrder and StampBytes. -/
import Derived.Test.YtaeefaembfgfhaaStampLaws4
import Derived.Test.YtaeefaembfgfhaaStampLaws3
import Derived.Test.YtaeefaembfgfhaaBytesOrder
namespace Go.Proofs.Ytaeefaembfgfhaa
open Go.RowKit
set_option linter.unusedVariables false

theorem conv_row (g cap : Nat) (zs : List Int) (w : World) (hl : zs.length = 10) (hc : ∀ i, i < zs.length → w.cell? ⟨g, i, none⟩ = some (.int .u8 (zs.getD i 0))) :
    (convert 38 9 (.slice (some ⟨g, 0, none⟩) 10 cap)).run Try.prog w = .ok (.string (strOfNums zs)) w :=
  run_convert_bytes_arg w 38 5 Try.underlying38 Try.underlying5 g 0 10 cap zs hl (fun i hi => by
    rw [Nat.zero_add]; exact hc i (by omega)) 9 Try.underlying9
theorem row_cells {w : World} {g : Nat} {t : TypeId} {zs : List Int} (h : Holds w g t (byteCells zs)) : ∀ i, i < zs.length → w.cell? ⟨g, i, none⟩ = some (.int .u8 (zs.getD i 0)) := by
  intro i hi
  have := cells_of h (o := 0) (ys := zs) (fun i _ => by rw [Nat.zero_add]) i hi
  rw [Addr.add_lit, Nat.zero_add] at this
  exact this

theorem wire_num (s t : Int) (h : rightB s t = true) : beN (beL 6 s ++ beL 4 t) = s * 4294967296 + t := by
  obtain ⟨e1, e2⟩ := wire_back h
  rw [List.take_left' (beL_length 6 s)] at e1
  rw [List.drop_left' (beL_length 6 s)] at e2
  rw [beN_append, e1, e2, beL_length]
  have : (256 : Int) ^ 4 = 4294967296 := by decide
  rw [this]
theorem wire_less {s t s' t' : Int} (h : rightB s t = true) (h' : rightB s' t' = true) :
    Op.bytesLess (strOfNums (beL 6 s ++ beL 4 t)).toList (strOfNums (beL 6 s' ++ beL 4 t')).toList = lessB s t s' t' := by
  rw [str_toList, str_toList, less_bytes _ _ (by rw [wire_length, wire_length]) (wire_bytes s t) (wire_bytes s' t'), wire_num s t h, wire_num s' t' h']
  have h1 := rightB_iff.1 h
  have h2 := rightB_iff.1 h'
  unfold lessB
  congr 1
  apply propext
  omega
theorem of_less {m n : Int} : lessB (m / 1000000000) (m % 1000000000) (n / 1000000000) (n % 1000000000) = decide (m < n) := by
  unfold lessB
  congr 1
  apply propext
  omega

set_option maxHeartbeats 1000000 in
theorem sorder_walk (m n : Int) (w : World) :
    Calls Try.prog 7 #[.int .i64 m, .int .i64 n] w fun e w' => e = .returned (.bool true) ∧ Below w.heap.size w w' := by
  by_cases hr : ofB m = true ∧ ofB n = true
  · obtain ⟨hm, hn⟩ := hr
    obtain ⟨_, _, p3⟩ := of_back hm
    obtain ⟨_, _, q3⟩ := of_back hn
    have hl := of_less (m := m) (n := n)
    have hw := wire_less p3 q3
    rw [hl] at hw
    obtain ⟨a, ha⟩ : ∃ X, m / 1000000000 = X := ⟨_, rfl⟩
    obtain ⟨b, hb⟩ : ∃ X, m % 1000000000 = X := ⟨_, rfl⟩
    obtain ⟨c, hc⟩ : ∃ X, n / 1000000000 = X := ⟨_, rfl⟩
    obtain ⟨d, hd⟩ : ∃ X, n % 1000000000 = X := ⟨_, rfl⟩
    rw [ha, hb] at p3 hl hw
    rw [hc, hd] at q3 hl hw
    obtain ⟨P, hP⟩ : ∃ X, strOfNums (beL 6 a ++ beL 4 b) = X := ⟨_, rfl⟩
    obtain ⟨Q, hQ⟩ : ∃ X, strOfNums (beL 6 c ++ beL 4 d) = X := ⟨_, rfl⟩
    rw [hP, hQ] at hw
    have Hm := Lib.hid hm
    have Hn := Lib.hid hn
    have HP3 := Lib.hid p3
    have HQ3 := Lib.hid q3
    have Hl := Lib.hid hl
    have Ha := Lib.hid ha
    have Hb := Lib.hid hb
    have Hc := Lib.hid hc
    have Hd := Lib.hid hd
    have HP := Lib.hid hP
    have HQ := Lib.hid hQ
    clear hm hn p3 q3 hl ha hb hc hd hP hQ
    go_enter Try.func7, Try.ntmps7
    go_wp2_with fail
    refine (of_any m _).mono ?_
    rintro e w1 ⟨rfl, hb1⟩
    rw [Hm.out, told_true, told_true, Ha.out, Hb.out]
    go_wp2_with fail
    refine (of_any n _).mono ?_
    rintro e w2 ⟨rfl, hb2⟩
    rw [Hn.out, told_true, told_true, Hc.out, Hd.out]
    have K5 := Lib.hid (((Holds.fresh w1 24 #[.int .i64 a, .int .i64 b] rfl).kept hb2 (by simp)).laid (.cells #[.int .i64 c, .int .i64 d] 24))
    have K7 := Lib.hid (Holds.fresh w2 24 #[.int .i64 c, .int .i64 d] rfl)
    have HB := Lib.hid (bstep (bstep (bstep hb1 (bnew _ _)) hb2) (bnew w2 (.cells #[.int .i64 c, .int .i64 d] 24)))
    clear hb1 hb2
    have c0 := (K5.out).reads (i := 0) rfl
    have c1 := (K5.out).reads (i := 1) rfl
    go_wp2_with fail
    refine (put_yes a b _ HP3.out).mono ?_
    rintro e w3 ⟨g, hg, hh, hb3, rfl⟩
    rw [wire_length]
    have KG := Lib.hid hh
    replace K5 := Lib.hid ((K5.out).kept hb3 (K5.out).inside)
    replace K7 := Lib.hid ((K7.out).kept hb3 (K7.out).inside)
    replace HB := Lib.hid (bstep HB.out hb3)
    clear hg hh hb3 c0 c1
    have c0 := (K7.out).reads (i := 0) rfl
    have c1 := (K7.out).reads (i := 1) rfl
    go_wp2_with fail
    refine (put_yes c d _ HQ3.out).mono ?_
    rintro e w4 ⟨g', hg, hh, hb4, rfl⟩
    rw [wire_length]
    have KG' := Lib.hid hh
    replace KG := Lib.hid ((KG.out).kept hb4 (KG.out).inside)
    replace K5 := Lib.hid ((K5.out).kept hb4 (K5.out).inside)
    replace K7 := Lib.hid ((K7.out).kept hb4 (K7.out).inside)
    replace HB := Lib.hid (bstep HB.out hb4)
    clear hg hh hb4 c0 c1
    go_wp2_with fail
    refine (alive2_any _).mono ?_
    rintro e w5 ⟨rfl, hb5⟩
    replace KG := Lib.hid ((KG.out).kept hb5 (KG.out).inside)
    replace KG' := Lib.hid ((KG'.out).kept hb5 (KG'.out).inside)
    replace K5 := Lib.hid ((K5.out).kept hb5 (K5.out).inside)
    replace K7 := Lib.hid ((K7.out).kept hb5 (K7.out).inside)
    replace HB := Lib.hid (bstep HB.out hb5)
    clear hb5
    have c0 := (K5.out).reads (i := 0) rfl
    have c1 := (K5.out).reads (i := 1) rfl
    have d0 := (K7.out).reads (i := 0) rfl
    have d1 := (K7.out).reads (i := 1) rfl
    go_wp2_with fail
    refine (less_any a b c d _).mono ?_
    rintro e w6 ⟨rfl, hb6⟩
    rw [Hl.out]
    replace KG := Lib.hid ((KG.out).kept hb6 (KG.out).inside)
    replace KG' := Lib.hid ((KG'.out).kept hb6 (KG'.out).inside)
    replace HB := Lib.hid (bstep HB.out hb6)
    clear hb6 c0 c1 d0 d1
    have v1 := conv_row g 10 _ w6 (wire_length a b) (row_cells KG.out)
    have v2 := conv_row g' 10 _ w6 (wire_length c d) (row_cells KG'.out)
    rw [HP.out] at v1
    rw [HQ.out] at v2
    go_wp2
    go_ret
    exact ⟨by simp, HB.out⟩
  · cases hm : ofB m
    · have Hm := Lib.hid hm
      clear hm hr
      go_enter Try.func7, Try.ntmps7
      go_wp2_with fail
      refine (of_any m _).mono ?_
      rintro e w1 ⟨rfl, hb1⟩
      rw [Hm.out, told_false, told_false]
      go_wp2_with fail
      refine (of_any n _).mono ?_
      rintro e w2 ⟨rfl, hb2⟩
      have HB := Lib.hid (bstep (bstep hb1 (bnew _ _)) hb2)
      clear hb1 hb2
      go_wp2_with fail
      refine (alive2_any _).mono ?_
      rintro e w3 ⟨rfl, hb3⟩
      go_wp2
      go_ret
      exact ⟨rfl, bstep (bstep HB.out (bnew _ _)) hb3⟩
    · have hn : ofB n = false := by
        cases h : ofB n
        · rfl
        · exact absurd ⟨hm, h⟩ hr
      have Hm := Lib.hid hm
      have Hn := Lib.hid hn
      clear hm hn hr
      go_enter Try.func7, Try.ntmps7
      go_wp2_with fail
      refine (of_any m _).mono ?_
      rintro e w1 ⟨rfl, hb1⟩
      rw [Hm.out]
      go_wp2_with fail
      refine (of_any n _).mono ?_
      rintro e w2 ⟨rfl, hb2⟩
      rw [Hn.out]
      have HB := Lib.hid (bstep (bstep hb1 (bnew _ _)) hb2)
      clear hb1 hb2
      go_wp2_with fail
      refine (alive2_any _).mono ?_
      rintro e w3 ⟨rfl, hb3⟩
      go_wp2
      go_ret
      exact ⟨rfl, bstep (bstep HB.out (bnew _ _)) hb3⟩

/-- both readers of bytes tell the same -/
def Alike (A : Option Addr) (L C : Nat) (w : World) (X Y G : Int) : Prop :=
  (∀ v, Below w.heap.size w v → Calls Try.prog 22 #[.slice A L C] v fun e w' => e = .returned (.tuple #[.agg #[.int .i64 X, .int .i64 Y], .int .i64 G]) ∧ Below v.heap.size v w') ∧
  (∀ v, Below w.heap.size w v → Calls Try.prog 23 #[.slice A L C] v fun e w' => e = .returned (.tuple #[.agg #[.int .i64 X, .int .i64 Y], .int .i64 G]) ∧ Below v.heap.size v w')

theorem alike_any (A : Option Addr) (L C : Nat) (zs : List Int) (w : World) (h : sliceOk .u8 w A L C zs) : ∃ X Y G, Alike A L C w X Y G := by
  by_cases hL : L = 10
  · subst hL
    rcases h with ⟨_, h0, _⟩ | ⟨a, rfl, h1, h2, h3, h4, h5⟩
    · omega
    have hl : (zs.take 10).length = 10 := by rw [List.length_take]; omega
    have hb : ∀ z ∈ zs.take 10, isByte z := fun z hz => byte_wf (h5 z (List.mem_of_mem_take hz))
    have hc : BytesAt w a (zs.take 10) := by
      intro i hi
      rw [h4 i (by omega)]
      rw [hl] at hi
      simp only [List.getD, List.getElem?_take, if_pos hi]
    have hlt : a.block < w.heap.size := by
      have := World.block_lt_of_cell? w _ (hc 0 (by omega))
      simpa [Addr.add] using this
    refine ⟨told (rightB (beN ((zs.take 10).take 6)) (beN ((zs.take 10).drop 6))) (beN ((zs.take 10).take 6)), told (rightB (beN ((zs.take 10).take 6)) (beN ((zs.take 10).drop 6))) (beN ((zs.take 10).drop 6)), if rightB (beN ((zs.take 10).take 6)) (beN ((zs.take 10).drop 6)) then 0 else 20, ?_, ?_⟩
    · intro v hv
      have hc' := hc.keep hv (fun _ _ => hlt)
      exact get_ten a C (zs.take 10) v hl hb (fun i hi => hc' i (by omega))
    · intro v hv
      exact rget_ten a C (zs.take 10) v hl hb h1 (hc.keep hv (fun _ _ => hlt))
  · have hm : L ≤ maxLen := by
      rcases h with ⟨_, h0, _⟩ | ⟨a, rfl, h1, h2, h3, h4, h5⟩
      · rw [h0]; exact Nat.zero_le _
      · exact Nat.le_trans h1 h2
    exact ⟨0, 0, 20, fun v _ => get_short A L C v hL hm, fun v _ => rget_short A L C v hL hm⟩

theorem conv_nil (w : World) : (convert 38 9 (.slice none 0 0)).run Try.prog w = .ok (.string ByteArray.empty) w :=
  run_convert_bytes_nil w 38 5 Try.underlying38 Try.underlying5 0 0 9 Try.underlying9

set_option maxHeartbeats 1000000 in
theorem bytes_walk (a0 a1 : Int) (A : Option Addr) (L C : Nat) (zs : List Int) (w : World) (h : sliceOk .u8 w A L C zs) :
    Calls Try.prog 4 #[.agg #[.int .i64 a0, .int .i64 a1], .slice A L C] w fun e w' => e = .returned (.bool true) ∧ Below w.heap.size w w' := by
  obtain ⟨X, Y, G, g1, g2⟩ := alike_any A L C zs w h
  have G1 := Lib.hid g1
  have G2 := Lib.hid g2
  have heq := eql_rstamp
  have hsame := sameB_refl X Y
  have hnil := conv_nil
  clear g1 g2 h
  cases hR : rightB a0 a1
  · have HR := Lib.hid hR
    clear hR
    go_enter Try.func4, Try.ntmps4
    go_wp2_with fail
    refine (put_no a0 a1 _ HR.out).mono ?_
    rintro e w1 ⟨rfl, hb1⟩
    have K2 := Lib.hid ((Holds.fresh w 23 #[.int .i64 a0, .int .i64 a1] rfl).kept hb1 (by simp))
    have HB := Lib.hid (bstep (bnew _ _) hb1)
    clear hb1
    have c0 := (K2.out).reads (i := 0) rfl
    have c1 := (K2.out).reads (i := 1) rfl
    go_wp2_with fail
    refine (rput_no a0 a1 _ HR.out).mono ?_
    rintro e w2 ⟨rfl, hb2⟩
    replace HB := Lib.hid (bstep HB.out hb2)
    clear hb2 c0 c1 K2
    go_wp2_with fail
    refine (G1.out _ HB.out).mono ?_
    rintro e w3 ⟨rfl, hb3⟩
    have K9 := Lib.hid (Holds.fresh w3 24 #[.int .i64 X, .int .i64 Y] rfl)
    replace HB := Lib.hid (bstep (bstep HB.out hb3) (bnew w3 (.cells #[.int .i64 X, .int .i64 Y] 24)))
    clear hb3
    go_wp2_with fail
    refine (G2.out _ HB.out).mono ?_
    rintro e w4 ⟨rfl, hb4⟩
    have K11 := Lib.hid (Holds.fresh w4 23 #[.int .i64 X, .int .i64 Y] rfl)
    replace K9 := Lib.hid (((K9.out).kept hb4 (K9.out).inside).laid (.cells #[.int .i64 X, .int .i64 Y] 23))
    replace HB := Lib.hid (bstep (bstep HB.out hb4) (bnew w4 (.cells #[.int .i64 X, .int .i64 Y] 23)))
    clear hb4
    go_wp2_with fail
    refine (alive2_any _).mono ?_
    rintro e w5 ⟨rfl, hb5⟩
    replace K9 := Lib.hid ((K9.out).kept hb5 (K9.out).inside)
    replace K11 := Lib.hid ((K11.out).kept hb5 (K11.out).inside)
    replace HB := Lib.hid (bstep HB.out hb5)
    clear hb5
    have c0 := (K9.out).reads (i := 0) rfl
    have c1 := (K9.out).reads (i := 1) rfl
    have d0 := (K11.out).reads (i := 0) rfl
    have d1 := (K11.out).reads (i := 1) rfl
    go_wp2
    go_ret
    exact ⟨by simp, HB.out⟩
  · have HR := Lib.hid hR
    clear hR
    obtain ⟨P, HP⟩ : ∃ X, Hid (strOfNums (beL 6 a0 ++ beL 4 a1) = X) := ⟨_, Lib.hid rfl⟩
    go_enter Try.func4, Try.ntmps4
    go_wp2_with fail
    refine (put_yes a0 a1 _ HR.out).mono ?_
    rintro e w1 ⟨g, hg, hh, hb1, rfl⟩
    rw [wire_length]
    have KG := Lib.hid hh
    have K2 := Lib.hid ((Holds.fresh w 23 #[.int .i64 a0, .int .i64 a1] rfl).kept hb1 (by simp))
    have HB := Lib.hid (bstep (bnew _ _) hb1)
    clear hb1 hg hh
    have c0 := (K2.out).reads (i := 0) rfl
    have c1 := (K2.out).reads (i := 1) rfl
    go_wp2_with fail
    refine (rput_yes a0 a1 _ HR.out).mono ?_
    rintro e w2 ⟨g', cap, hg, hg', hh, hb2, rfl⟩
    rw [wire_length]
    replace KG := Lib.hid ((KG.out).kept hb2 (KG.out).inside)
    have KH := Lib.hid hh
    have HG' := Lib.hid hg'
    replace HB := Lib.hid (bstep HB.out hb2)
    clear hb2 c0 c1 K2 hg hg' hh
    go_wp2_with fail
    refine (G1.out _ HB.out).mono ?_
    rintro e w3 ⟨rfl, hb3⟩
    have K9 := Lib.hid (Holds.fresh w3 24 #[.int .i64 X, .int .i64 Y] rfl)
    have hb3' := hb3.alloc hb3.size (.cells #[.int .i64 X, .int .i64 Y] 24)
    replace KG := Lib.hid ((KG.out).kept hb3' (KG.out).inside)
    have KH' := Lib.hid (fun i hi => keep1 hb3' (KH.out i hi))
    replace HB := Lib.hid (bstep (bstep HB.out hb3) (bnew w3 (.cells #[.int .i64 X, .int .i64 Y] 24)))
    clear hb3 hb3' KH
    go_wp2_with fail
    refine (G2.out _ HB.out).mono ?_
    rintro e w4 ⟨rfl, hb4⟩
    have K11 := Lib.hid (Holds.fresh w4 23 #[.int .i64 X, .int .i64 Y] rfl)
    have hb4' := hb4.alloc hb4.size (.cells #[.int .i64 X, .int .i64 Y] 23)
    replace K9 := Lib.hid ((K9.out).kept hb4' (K9.out).inside)
    replace KG := Lib.hid ((KG.out).kept hb4' (KG.out).inside)
    have KH := Lib.hid (fun i hi => keep1 hb4' (KH'.out i hi))
    replace HB := Lib.hid (bstep (bstep HB.out hb4) (bnew w4 (.cells #[.int .i64 X, .int .i64 Y] 23)))
    clear hb4 hb4' KH'
    go_wp2_with fail
    refine (alive2_any _).mono ?_
    rintro e w5 ⟨rfl, hb5⟩
    replace K9 := Lib.hid ((K9.out).kept hb5 (K9.out).inside)
    replace K11 := Lib.hid ((K11.out).kept hb5 (K11.out).inside)
    replace KG := Lib.hid ((KG.out).kept hb5 (KG.out).inside)
    have KH' := Lib.hid (fun i hi => keep1 hb5 (KH.out i hi))
    replace HB := Lib.hid (bstep HB.out hb5)
    clear hb5 KH
    have c0 := (K9.out).reads (i := 0) rfl
    have c1 := (K9.out).reads (i := 1) rfl
    have d0 := (K11.out).reads (i := 0) rfl
    have d1 := (K11.out).reads (i := 1) rfl
    have v1 := conv_row g 10 _ w5 (wire_length a0 a1) (row_cells KG.out)
    have v2 := conv_row g' cap _ w5 (wire_length a0 a1) KH'.out
    rw [HP.out] at v1 v2
    go_wp2
    go_ret
    exact ⟨by simp, HB.out⟩

end Go.Proofs.Ytaeefaembfgfhaa
