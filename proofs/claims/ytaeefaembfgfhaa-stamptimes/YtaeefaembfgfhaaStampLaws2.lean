/- The walks over the laws StampThree and StampTimes. -/
import Derived.Test.YtaeefaembfgfhaaStampLaws
import Derived.Deep.RegionHeld3
import Derived.RegionTactic
import Derived.Deep.DeepCutAuto
namespace Go.Proofs.Ytaeefaembfgfhaa
open Go.RowKit
set_option linter.unusedVariables false

theorem eql_rstamp (a b c d : Int) (w : World) : (binOp .eql 23 (.agg #[.int .i64 a, .int .i64 b]) (.agg #[.int .i64 c, .int .i64 d])).run Try.prog w = .ok (.bool (sameB a b c d)) w := by
  rw [run_eql_struct, run_equalIn_agg w 9999 _ _ _ (by kernel_rfl) (by kernel_rfl)]
  unfold sameB
  cases h1 : (a == c) <;> cases h2 : (b == d) <;> go_simp
theorem neq_stamp (a b c d : Int) (w : World) : (binOp .neq 24 (.agg #[.int .i64 a, .int .i64 b]) (.agg #[.int .i64 c, .int .i64 d])).run Try.prog w = .ok (.bool (!sameB a b c d)) w := by
  rw [run_neq_struct, run_equalIn_agg w 9999 _ _ _ (by kernel_rfl) (by kernel_rfl)]
  unfold sameB
  cases h1 : (a == c) <;> cases h2 : (b == d) <;> go_simp
theorem sameB_refl (a b : Int) : sameB a b a b = true := by unfold sameB; simp

/-- Less at a telling that is named -/
theorem less_as (a b c d : Int) (B : Bool) (h : lessB a b c d = B) (w : World) :
    Calls Try.prog 18 #[.agg #[.int .i64 a, .int .i64 b], .agg #[.int .i64 c, .int .i64 d]] w fun e w' => e = .returned (.bool B) ∧ Below w.heap.size w w' :=
  (less_any a b c d w).mono fun _ _ ⟨he, hb⟩ => ⟨he.trans (ret_bool h), hb⟩

/-- three stamps that lie in blocks of their own -/
def Three (t : TypeId) (a0 a1 b0 b1 c0 c1 : Int) (w : World) (s7 s8 s9 : Value) (wx : World) : Prop :=
  ∃ g7 g8 g9 : Nat, s7 = .pointer (some ⟨g7, 0, none⟩) ∧ s8 = .pointer (some ⟨g8, 0, none⟩) ∧ s9 = .pointer (some ⟨g9, 0, none⟩) ∧
    Holds wx g7 t #[.int .i64 a0, .int .i64 a1] ∧ Holds wx g8 t #[.int .i64 b0, .int .i64 b1] ∧ Holds wx g9 t #[.int .i64 c0, .int .i64 c1] ∧ Below w.heap.size w wx

set_option maxHeartbeats 1000000 in
theorem three_walk (a0 a1 b0 b1 c0 c1 : Int) (w : World) :
    Calls Try.prog 10 #[.agg #[.int .i64 a0, .int .i64 a1], .agg #[.int .i64 b0, .int .i64 b1], .agg #[.int .i64 c0, .int .i64 c1]] w fun e w' => e = .returned (.bool true) ∧ Below w.heap.size w w' := by
  have hne := neq_stamp
  have Lxx := Lib.hid (less_as a0 a1 a0 a1 false (by unfold lessB; simp))
  obtain ⟨X, hX⟩ : ∃ X, lessB a0 a1 b0 b1 = X := ⟨_, rfl⟩
  obtain ⟨Y, hY⟩ : ∃ X, lessB b0 b1 a0 a1 = X := ⟨_, rfl⟩
  obtain ⟨Z, hZ⟩ : ∃ X, lessB b0 b1 c0 c1 = X := ⟨_, rfl⟩
  obtain ⟨V, hV⟩ : ∃ X, lessB a0 a1 c0 c1 = X := ⟨_, rfl⟩
  have Lxy := Lib.hid (less_as a0 a1 b0 b1 X hX)
  have Lyx := Lib.hid (less_as b0 b1 a0 a1 Y hY)
  have Lyz := Lib.hid (less_as b0 b1 c0 c1 Z hZ)
  have Lxz := Lib.hid (less_as a0 a1 c0 c1 V hV)
  have h : (X = true ∧ Y = false ∧ (Z = true → V = true)) ∨ (X = false ∧ Y = true) ∨ (X = false ∧ Y = false ∧ sameB a0 a1 b0 b1 = true) := by
    subst hX hY hZ hV
    simp only [← Bool.not_eq_true, lessB_iff, sameB_iff]
    omega
  clear hX hY hZ hV
  go_enter Try.func10, Try.ntmps10
  go_upto_region 1 with fail
  go_cut [7, 8, 9] (fun s7 s8 s9 wx => Three 24 a0 a1 b0 b1 c0 c1 w s7 s8 s9 wx)
  case first =>
    go_region
    all_goals
      go_wp2_with fail
      go_meet
      refine ⟨_, _, _, rfl, rfl, rfl, ?_, ?_, ?_, bdrew (bstep (bstep (bstep (bstep (bstep (bnew _ _) (bnew _ _)) (bnew _ _)) (bnew _ _)) (bnew _ _)) (bnew _ _))⟩
      all_goals first | exact (Holds.fresh _ _ _ (by simp)).drew | exact ((Holds.fresh _ _ _ (by simp)).laid _).drew | exact (((Holds.fresh _ _ _ (by simp)).laid _).laid _).drew
  case rest =>
    obtain ⟨g7, g8, g9, rfl, rfl, rfl, h7, h8, h9, hb⟩ := hcut
    have K7 := Lib.hid h7
    have K8 := Lib.hid h8
    have K9 := Lib.hid h9
    have HB := Lib.hid hb
    clear h7 h8 h9 hb
    have c70 := (K7.out).reads (i := 0) rfl
    have c71 := (K7.out).reads (i := 1) rfl
    have c80 := (K8.out).reads (i := 0) rfl
    have c81 := (K8.out).reads (i := 1) rfl
    have c90 := (K9.out).reads (i := 0) rfl
    have c91 := (K9.out).reads (i := 1) rfl
    rcases h with ⟨rfl, rfl, hv⟩ | ⟨rfl, rfl⟩ | ⟨rfl, rfl, hs⟩
    · skip
      go_wp2_with fail
      refine (Lxx.out _).mono ?_
      rintro e w1 ⟨rfl, hb1⟩
      clear c70 c71 c80 c81 c90 c91
      replace K7 := Lib.hid ((K7.out).kept hb1 (K7.out).inside)
      replace K8 := Lib.hid ((K8.out).kept hb1 (K8.out).inside)
      replace K9 := Lib.hid ((K9.out).kept hb1 (K9.out).inside)
      replace HB := Lib.hid (bstep HB.out hb1)
      clear hb1
      have c70 := (K7.out).reads (i := 0) rfl
      have c71 := (K7.out).reads (i := 1) rfl
      have c80 := (K8.out).reads (i := 0) rfl
      have c81 := (K8.out).reads (i := 1) rfl
      have c90 := (K9.out).reads (i := 0) rfl
      have c91 := (K9.out).reads (i := 1) rfl
      go_wp2_with fail
      refine (Lxy.out _).mono ?_
      rintro e w2 ⟨rfl, hb2⟩
      clear c70 c71 c80 c81 c90 c91
      replace K7 := Lib.hid ((K7.out).kept hb2 (K7.out).inside)
      replace K8 := Lib.hid ((K8.out).kept hb2 (K8.out).inside)
      replace K9 := Lib.hid ((K9.out).kept hb2 (K9.out).inside)
      replace HB := Lib.hid (bstep HB.out hb2)
      clear hb2
      have c70 := (K7.out).reads (i := 0) rfl
      have c71 := (K7.out).reads (i := 1) rfl
      have c80 := (K8.out).reads (i := 0) rfl
      have c81 := (K8.out).reads (i := 1) rfl
      have c90 := (K9.out).reads (i := 0) rfl
      have c91 := (K9.out).reads (i := 1) rfl
      go_wp2_with fail
      refine (Lyx.out _).mono ?_
      rintro e w3 ⟨rfl, hb3⟩
      clear c70 c71 c80 c81 c90 c91
      replace K7 := Lib.hid ((K7.out).kept hb3 (K7.out).inside)
      replace K8 := Lib.hid ((K8.out).kept hb3 (K8.out).inside)
      replace K9 := Lib.hid ((K9.out).kept hb3 (K9.out).inside)
      replace HB := Lib.hid (bstep HB.out hb3)
      clear hb3
      have c70 := (K7.out).reads (i := 0) rfl
      have c71 := (K7.out).reads (i := 1) rfl
      have c80 := (K8.out).reads (i := 0) rfl
      have c81 := (K8.out).reads (i := 1) rfl
      have c90 := (K9.out).reads (i := 0) rfl
      have c91 := (K9.out).reads (i := 1) rfl
      go_wp2_with fail
      refine (Lxy.out _).mono ?_
      rintro e w4 ⟨rfl, hb4⟩
      clear c70 c71 c80 c81 c90 c91
      replace K7 := Lib.hid ((K7.out).kept hb4 (K7.out).inside)
      replace K8 := Lib.hid ((K8.out).kept hb4 (K8.out).inside)
      replace K9 := Lib.hid ((K9.out).kept hb4 (K9.out).inside)
      replace HB := Lib.hid (bstep HB.out hb4)
      clear hb4
      have c70 := (K7.out).reads (i := 0) rfl
      have c71 := (K7.out).reads (i := 1) rfl
      have c80 := (K8.out).reads (i := 0) rfl
      have c81 := (K8.out).reads (i := 1) rfl
      have c90 := (K9.out).reads (i := 0) rfl
      have c91 := (K9.out).reads (i := 1) rfl
      go_wp2_with fail
      refine (alive2_any _).mono ?_
      rintro e w5 ⟨rfl, hb5⟩
      clear c70 c71 c80 c81 c90 c91
      replace K7 := Lib.hid ((K7.out).kept hb5 (K7.out).inside)
      replace K8 := Lib.hid ((K8.out).kept hb5 (K8.out).inside)
      replace K9 := Lib.hid ((K9.out).kept hb5 (K9.out).inside)
      replace HB := Lib.hid (bstep HB.out hb5)
      clear hb5
      have c70 := (K7.out).reads (i := 0) rfl
      have c71 := (K7.out).reads (i := 1) rfl
      have c80 := (K8.out).reads (i := 0) rfl
      have c81 := (K8.out).reads (i := 1) rfl
      have c90 := (K9.out).reads (i := 0) rfl
      have c91 := (K9.out).reads (i := 1) rfl
      go_wp2_with fail
      refine (Lxy.out _).mono ?_
      rintro e w6 ⟨rfl, hb6⟩
      clear c70 c71 c80 c81 c90 c91
      replace K7 := Lib.hid ((K7.out).kept hb6 (K7.out).inside)
      replace K8 := Lib.hid ((K8.out).kept hb6 (K8.out).inside)
      replace K9 := Lib.hid ((K9.out).kept hb6 (K9.out).inside)
      replace HB := Lib.hid (bstep HB.out hb6)
      clear hb6
      have c70 := (K7.out).reads (i := 0) rfl
      have c71 := (K7.out).reads (i := 1) rfl
      have c80 := (K8.out).reads (i := 0) rfl
      have c81 := (K8.out).reads (i := 1) rfl
      have c90 := (K9.out).reads (i := 0) rfl
      have c91 := (K9.out).reads (i := 1) rfl
      cases Z
      · clear hv
        go_wp2_with fail
        refine (Lyz.out _).mono ?_
        rintro e w7 ⟨rfl, hb7⟩
        clear c70 c71 c80 c81 c90 c91
        replace K7 := Lib.hid ((K7.out).kept hb7 (K7.out).inside)
        replace K8 := Lib.hid ((K8.out).kept hb7 (K8.out).inside)
        replace K9 := Lib.hid ((K9.out).kept hb7 (K9.out).inside)
        replace HB := Lib.hid (bstep HB.out hb7)
        clear hb7
        have c70 := (K7.out).reads (i := 0) rfl
        have c71 := (K7.out).reads (i := 1) rfl
        have c80 := (K8.out).reads (i := 0) rfl
        have c81 := (K8.out).reads (i := 1) rfl
        have c90 := (K9.out).reads (i := 0) rfl
        have c91 := (K9.out).reads (i := 1) rfl
        go_wp2
        go_ret
        exact ⟨rfl, HB.out⟩
      · obtain rfl : V = true := hv rfl
        clear hv
        go_wp2_with fail
        refine (Lyz.out _).mono ?_
        rintro e w8 ⟨rfl, hb8⟩
        clear c70 c71 c80 c81 c90 c91
        replace K7 := Lib.hid ((K7.out).kept hb8 (K7.out).inside)
        replace K8 := Lib.hid ((K8.out).kept hb8 (K8.out).inside)
        replace K9 := Lib.hid ((K9.out).kept hb8 (K9.out).inside)
        replace HB := Lib.hid (bstep HB.out hb8)
        clear hb8
        have c70 := (K7.out).reads (i := 0) rfl
        have c71 := (K7.out).reads (i := 1) rfl
        have c80 := (K8.out).reads (i := 0) rfl
        have c81 := (K8.out).reads (i := 1) rfl
        have c90 := (K9.out).reads (i := 0) rfl
        have c91 := (K9.out).reads (i := 1) rfl
        go_wp2_with fail
        refine (Lxz.out _).mono ?_
        rintro e w9 ⟨rfl, hb9⟩
        clear c70 c71 c80 c81 c90 c91
        replace K7 := Lib.hid ((K7.out).kept hb9 (K7.out).inside)
        replace K8 := Lib.hid ((K8.out).kept hb9 (K8.out).inside)
        replace K9 := Lib.hid ((K9.out).kept hb9 (K9.out).inside)
        replace HB := Lib.hid (bstep HB.out hb9)
        clear hb9
        have c70 := (K7.out).reads (i := 0) rfl
        have c71 := (K7.out).reads (i := 1) rfl
        have c80 := (K8.out).reads (i := 0) rfl
        have c81 := (K8.out).reads (i := 1) rfl
        have c90 := (K9.out).reads (i := 0) rfl
        have c91 := (K9.out).reads (i := 1) rfl
        go_wp2
        go_ret
        exact ⟨rfl, HB.out⟩
    · skip
      go_wp2_with fail
      refine (Lxx.out _).mono ?_
      rintro e w10 ⟨rfl, hb10⟩
      clear c70 c71 c80 c81 c90 c91
      replace K7 := Lib.hid ((K7.out).kept hb10 (K7.out).inside)
      replace K8 := Lib.hid ((K8.out).kept hb10 (K8.out).inside)
      replace K9 := Lib.hid ((K9.out).kept hb10 (K9.out).inside)
      replace HB := Lib.hid (bstep HB.out hb10)
      clear hb10
      have c70 := (K7.out).reads (i := 0) rfl
      have c71 := (K7.out).reads (i := 1) rfl
      have c80 := (K8.out).reads (i := 0) rfl
      have c81 := (K8.out).reads (i := 1) rfl
      have c90 := (K9.out).reads (i := 0) rfl
      have c91 := (K9.out).reads (i := 1) rfl
      go_wp2_with fail
      refine (Lxy.out _).mono ?_
      rintro e w11 ⟨rfl, hb11⟩
      clear c70 c71 c80 c81 c90 c91
      replace K7 := Lib.hid ((K7.out).kept hb11 (K7.out).inside)
      replace K8 := Lib.hid ((K8.out).kept hb11 (K8.out).inside)
      replace K9 := Lib.hid ((K9.out).kept hb11 (K9.out).inside)
      replace HB := Lib.hid (bstep HB.out hb11)
      clear hb11
      have c70 := (K7.out).reads (i := 0) rfl
      have c71 := (K7.out).reads (i := 1) rfl
      have c80 := (K8.out).reads (i := 0) rfl
      have c81 := (K8.out).reads (i := 1) rfl
      have c90 := (K9.out).reads (i := 0) rfl
      have c91 := (K9.out).reads (i := 1) rfl
      go_wp2_with fail
      refine (Lxy.out _).mono ?_
      rintro e w12 ⟨rfl, hb12⟩
      clear c70 c71 c80 c81 c90 c91
      replace K7 := Lib.hid ((K7.out).kept hb12 (K7.out).inside)
      replace K8 := Lib.hid ((K8.out).kept hb12 (K8.out).inside)
      replace K9 := Lib.hid ((K9.out).kept hb12 (K9.out).inside)
      replace HB := Lib.hid (bstep HB.out hb12)
      clear hb12
      have c70 := (K7.out).reads (i := 0) rfl
      have c71 := (K7.out).reads (i := 1) rfl
      have c80 := (K8.out).reads (i := 0) rfl
      have c81 := (K8.out).reads (i := 1) rfl
      have c90 := (K9.out).reads (i := 0) rfl
      have c91 := (K9.out).reads (i := 1) rfl
      go_wp2_with fail
      refine (Lyx.out _).mono ?_
      rintro e w13 ⟨rfl, hb13⟩
      clear c70 c71 c80 c81 c90 c91
      replace K7 := Lib.hid ((K7.out).kept hb13 (K7.out).inside)
      replace K8 := Lib.hid ((K8.out).kept hb13 (K8.out).inside)
      replace K9 := Lib.hid ((K9.out).kept hb13 (K9.out).inside)
      replace HB := Lib.hid (bstep HB.out hb13)
      clear hb13
      have c70 := (K7.out).reads (i := 0) rfl
      have c71 := (K7.out).reads (i := 1) rfl
      have c80 := (K8.out).reads (i := 0) rfl
      have c81 := (K8.out).reads (i := 1) rfl
      have c90 := (K9.out).reads (i := 0) rfl
      have c91 := (K9.out).reads (i := 1) rfl
      go_wp2_with fail
      refine (alive2_any _).mono ?_
      rintro e w14 ⟨rfl, hb14⟩
      clear c70 c71 c80 c81 c90 c91
      replace K7 := Lib.hid ((K7.out).kept hb14 (K7.out).inside)
      replace K8 := Lib.hid ((K8.out).kept hb14 (K8.out).inside)
      replace K9 := Lib.hid ((K9.out).kept hb14 (K9.out).inside)
      replace HB := Lib.hid (bstep HB.out hb14)
      clear hb14
      have c70 := (K7.out).reads (i := 0) rfl
      have c71 := (K7.out).reads (i := 1) rfl
      have c80 := (K8.out).reads (i := 0) rfl
      have c81 := (K8.out).reads (i := 1) rfl
      have c90 := (K9.out).reads (i := 0) rfl
      have c91 := (K9.out).reads (i := 1) rfl
      go_wp2_with fail
      refine (Lxy.out _).mono ?_
      rintro e w15 ⟨rfl, hb15⟩
      clear c70 c71 c80 c81 c90 c91
      replace K7 := Lib.hid ((K7.out).kept hb15 (K7.out).inside)
      replace K8 := Lib.hid ((K8.out).kept hb15 (K8.out).inside)
      replace K9 := Lib.hid ((K9.out).kept hb15 (K9.out).inside)
      replace HB := Lib.hid (bstep HB.out hb15)
      clear hb15
      have c70 := (K7.out).reads (i := 0) rfl
      have c71 := (K7.out).reads (i := 1) rfl
      have c80 := (K8.out).reads (i := 0) rfl
      have c81 := (K8.out).reads (i := 1) rfl
      have c90 := (K9.out).reads (i := 0) rfl
      have c91 := (K9.out).reads (i := 1) rfl
      go_wp2
      go_ret
      exact ⟨rfl, HB.out⟩
    · skip
      go_wp2_with fail
      refine (Lxx.out _).mono ?_
      rintro e w16 ⟨rfl, hb16⟩
      clear c70 c71 c80 c81 c90 c91
      replace K7 := Lib.hid ((K7.out).kept hb16 (K7.out).inside)
      replace K8 := Lib.hid ((K8.out).kept hb16 (K8.out).inside)
      replace K9 := Lib.hid ((K9.out).kept hb16 (K9.out).inside)
      replace HB := Lib.hid (bstep HB.out hb16)
      clear hb16
      have c70 := (K7.out).reads (i := 0) rfl
      have c71 := (K7.out).reads (i := 1) rfl
      have c80 := (K8.out).reads (i := 0) rfl
      have c81 := (K8.out).reads (i := 1) rfl
      have c90 := (K9.out).reads (i := 0) rfl
      have c91 := (K9.out).reads (i := 1) rfl
      go_wp2_with fail
      refine (Lxy.out _).mono ?_
      rintro e w17 ⟨rfl, hb17⟩
      clear c70 c71 c80 c81 c90 c91
      replace K7 := Lib.hid ((K7.out).kept hb17 (K7.out).inside)
      replace K8 := Lib.hid ((K8.out).kept hb17 (K8.out).inside)
      replace K9 := Lib.hid ((K9.out).kept hb17 (K9.out).inside)
      replace HB := Lib.hid (bstep HB.out hb17)
      clear hb17
      have c70 := (K7.out).reads (i := 0) rfl
      have c71 := (K7.out).reads (i := 1) rfl
      have c80 := (K8.out).reads (i := 0) rfl
      have c81 := (K8.out).reads (i := 1) rfl
      have c90 := (K9.out).reads (i := 0) rfl
      have c91 := (K9.out).reads (i := 1) rfl
      go_wp2_with fail
      refine (Lxy.out _).mono ?_
      rintro e w18 ⟨rfl, hb18⟩
      clear c70 c71 c80 c81 c90 c91
      replace K7 := Lib.hid ((K7.out).kept hb18 (K7.out).inside)
      replace K8 := Lib.hid ((K8.out).kept hb18 (K8.out).inside)
      replace K9 := Lib.hid ((K9.out).kept hb18 (K9.out).inside)
      replace HB := Lib.hid (bstep HB.out hb18)
      clear hb18
      have c70 := (K7.out).reads (i := 0) rfl
      have c71 := (K7.out).reads (i := 1) rfl
      have c80 := (K8.out).reads (i := 0) rfl
      have c81 := (K8.out).reads (i := 1) rfl
      have c90 := (K9.out).reads (i := 0) rfl
      have c91 := (K9.out).reads (i := 1) rfl
      go_wp2_with fail
      refine (Lyx.out _).mono ?_
      rintro e w19 ⟨rfl, hb19⟩
      clear c70 c71 c80 c81 c90 c91
      replace K7 := Lib.hid ((K7.out).kept hb19 (K7.out).inside)
      replace K8 := Lib.hid ((K8.out).kept hb19 (K8.out).inside)
      replace K9 := Lib.hid ((K9.out).kept hb19 (K9.out).inside)
      replace HB := Lib.hid (bstep HB.out hb19)
      clear hb19
      have c70 := (K7.out).reads (i := 0) rfl
      have c71 := (K7.out).reads (i := 1) rfl
      have c80 := (K8.out).reads (i := 0) rfl
      have c81 := (K8.out).reads (i := 1) rfl
      have c90 := (K9.out).reads (i := 0) rfl
      have c91 := (K9.out).reads (i := 1) rfl
      go_wp2_with fail
      refine (alive2_any _).mono ?_
      rintro e w20 ⟨rfl, hb20⟩
      clear c70 c71 c80 c81 c90 c91
      replace K7 := Lib.hid ((K7.out).kept hb20 (K7.out).inside)
      replace K8 := Lib.hid ((K8.out).kept hb20 (K8.out).inside)
      replace K9 := Lib.hid ((K9.out).kept hb20 (K9.out).inside)
      replace HB := Lib.hid (bstep HB.out hb20)
      clear hb20
      have c70 := (K7.out).reads (i := 0) rfl
      have c71 := (K7.out).reads (i := 1) rfl
      have c80 := (K8.out).reads (i := 0) rfl
      have c81 := (K8.out).reads (i := 1) rfl
      have c90 := (K9.out).reads (i := 0) rfl
      have c91 := (K9.out).reads (i := 1) rfl
      go_wp2_with fail
      refine (Lxy.out _).mono ?_
      rintro e w21 ⟨rfl, hb21⟩
      clear c70 c71 c80 c81 c90 c91
      replace K7 := Lib.hid ((K7.out).kept hb21 (K7.out).inside)
      replace K8 := Lib.hid ((K8.out).kept hb21 (K8.out).inside)
      replace K9 := Lib.hid ((K9.out).kept hb21 (K9.out).inside)
      replace HB := Lib.hid (bstep HB.out hb21)
      clear hb21
      have c70 := (K7.out).reads (i := 0) rfl
      have c71 := (K7.out).reads (i := 1) rfl
      have c80 := (K8.out).reads (i := 0) rfl
      have c81 := (K8.out).reads (i := 1) rfl
      have c90 := (K9.out).reads (i := 0) rfl
      have c91 := (K9.out).reads (i := 1) rfl
      go_wp2
      go_ret
      exact ⟨rfl, HB.out⟩

end Go.Proofs.Ytaeefaembfgfhaa
