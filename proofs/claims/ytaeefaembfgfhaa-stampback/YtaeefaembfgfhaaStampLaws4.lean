/- The walks over the laws StampBack, StampBytes, StampOrder. -/
import Derived.Test.YtaeefaembfgfhaaStampLaws2
import Derived.Test.YtaeefaembfgfhaaStampRefWire
namespace Go.Proofs.Ytaeefaembfgfhaa
open Go.RowKit
set_option linter.unusedVariables false

theorem of_back {n : Int} (h : ofB n = true) : nanB (n / 1000000000) (n % 1000000000) = true ∧ n / 1000000000 * 1000000000 + n % 1000000000 = n ∧ rightB (n / 1000000000) (n % 1000000000) = true := by
  have h1 := ofB_iff.1 h
  have h2 : rightB (n / 1000000000) (n % 1000000000) = true := by rw [rightB_iff]; omega
  exact ⟨by rw [nanB_iff]; exact ⟨h2, by omega⟩, by omega, h2⟩

theorem wire_back {s n : Int} (h : rightB s n = true) : beN ((beL 6 s ++ beL 4 n).take 6) = s ∧ beN ((beL 6 s ++ beL 4 n).drop 6) = n := by
  obtain ⟨⟨h1, h2⟩, h3, h4⟩ := rightB_iff.1 h
  rw [List.take_left' (beL_length 6 s), List.drop_left' (beL_length 6 s)]
  have e6 : (256 : Int) ^ 6 = 281474976710656 := by decide
  have e4 : (256 : Int) ^ 4 = 4294967296 := by decide
  exact ⟨beN_beL 6 s h1 (by omega), beN_beL 4 n h3 (by omega)⟩

theorem wire_bytes (s n : Int) : ∀ z ∈ beL 6 s ++ beL 4 n, isByte z := fun z hz => by
  rcases List.mem_append.1 hz with h | h
  · exact beL_byte _ _ z h
  · exact beL_byte _ _ z h
theorem wire_length (s n : Int) : (beL 6 s ++ beL 4 n).length = 10 := by rw [List.length_append, beL_length, beL_length]

/-- what was put is got -/
theorem get_put (s n : Int) (g : Nat) (w : World) (t : TypeId) (hR : rightB s n = true) (hh : Holds w g t (byteCells (beL 6 s ++ beL 4 n))) :
    Calls Try.prog 22 #[.slice (some ⟨g, 0, none⟩) 10 10] w fun e w' => e = .returned (.tuple #[.agg #[.int .i64 s, .int .i64 n], .int .i64 0]) ∧ Below w.heap.size w w' := by
  have h := get_ten ⟨g, 0, none⟩ 10 (beL 6 s ++ beL 4 n) w (wire_length s n) (wire_bytes s n) (by
    have h1 := cells_of hh (o := 0) (ys := beL 6 s ++ beL 4 n) (fun i _ => by rw [Nat.zero_add])
    rw [wire_length] at h1
    exact h1)
  obtain ⟨e1, e2⟩ := wire_back hR
  rw [e1, e2, hR] at h
  exact h

set_option maxHeartbeats 1000000 in
theorem sback_walk (n a0 a1 : Int) (w : World) :
    Calls Try.prog 6 #[.int .i64 n, .agg #[.int .i64 a0, .int .i64 a1]] w fun e w' => e = .returned (.bool true) ∧ Below w.heap.size w w' := by
  have heq := eql_rstamp
  have hsame := sameB_refl a0 a1
  cases hO : ofB n
  · have HO := Lib.hid hO
    clear hO
    go_enter Try.func6, Try.ntmps6
    go_wp2_with fail
    refine (of_any n _).mono ?_
    rintro e w1 ⟨rfl, hb1⟩
    rw [HO.out, told_false, told_false]
    have K3 := Lib.hid (((Holds.fresh w 23 #[.int .i64 a0, .int .i64 a1] rfl).kept hb1 (by simp)).laid (.cells #[.int .i64 0, .int .i64 0] 24))
    have HB := Lib.hid (bstep (bstep (bnew _ _) hb1) (bnew _ (.cells #[.int .i64 0, .int .i64 0] 24)))
    clear hb1
    cases hR : rightB a0 a1
    · have HR := Lib.hid hR
      clear hR
      have c30 := (K3.out).reads (i := 0) rfl
      have c31 := (K3.out).reads (i := 1) rfl
      go_wp2_with fail
      refine (put_no a0 a1 _ HR.out).mono ?_
      rintro e v1 ⟨rfl, hv1⟩
      clear c30 c31
      replace K3 := Lib.hid ((K3.out).kept hv1 (K3.out).inside)
      replace HB := Lib.hid (bstep HB.out hv1)
      clear hv1
      go_wp2_with fail
      refine (alive2_any _).mono ?_
      rintro e v2 ⟨rfl, hv2⟩
      replace K3 := Lib.hid ((K3.out).kept hv2 (K3.out).inside)
      replace HB := Lib.hid (bstep HB.out hv2)
      clear hv2
      have c30 := (K3.out).reads (i := 0) rfl
      have c31 := (K3.out).reads (i := 1) rfl
      go_wp2_with fail
      refine (right_any a0 a1 _).mono ?_
      rintro e v3 ⟨rfl, hv3⟩
      rw [HR.out]
      go_wp2
      go_ret
      exact ⟨rfl, bstep HB.out hv3⟩
    · have HR := Lib.hid hR
      clear hR
      have c30 := (K3.out).reads (i := 0) rfl
      have c31 := (K3.out).reads (i := 1) rfl
      go_wp2_with fail
      refine (put_yes a0 a1 _ HR.out).mono ?_
      rintro e v1 ⟨g, hg, hh, hv1, rfl⟩
      rw [wire_length]
      have KG := Lib.hid hh
      clear c30 c31 hg hh
      replace K3 := Lib.hid ((K3.out).kept hv1 (K3.out).inside)
      replace HB := Lib.hid (bstep HB.out hv1)
      clear hv1
      go_wp2_with fail
      refine (get_put a0 a1 g _ _ HR.out KG.out).mono ?_
      rintro e v2 ⟨rfl, hv2⟩
      have K11 := Lib.hid (Holds.fresh v2 24 #[.int .i64 a0, .int .i64 a1] rfl)
      replace K3 := Lib.hid (((K3.out).kept hv2 (K3.out).inside).laid (.cells #[.int .i64 a0, .int .i64 a1] 24))
      replace HB := Lib.hid (bstep (bstep HB.out hv2) (bnew v2 (.cells #[.int .i64 a0, .int .i64 a1] 24)))
      clear hv2 KG
      go_wp2_with fail
      refine (alive2_any _).mono ?_
      rintro e v3 ⟨rfl, hv3⟩
      replace K3 := Lib.hid ((K3.out).kept hv3 (K3.out).inside)
      replace K11 := Lib.hid ((K11.out).kept hv3 (K11.out).inside)
      replace HB := Lib.hid (bstep HB.out hv3)
      clear hv3
      have c30 := (K3.out).reads (i := 0) rfl
      have c31 := (K3.out).reads (i := 1) rfl
      have d30 := (K11.out).reads (i := 0) rfl
      have d31 := (K11.out).reads (i := 1) rfl
      go_wp2
      go_ret
      exact ⟨rfl, HB.out⟩
  · have HO := Lib.hid hO
    obtain ⟨q1, q2, q3⟩ := of_back hO
    clear hO
    obtain ⟨s, hs⟩ : ∃ X, n / 1000000000 = X := ⟨_, rfl⟩
    obtain ⟨t, ht⟩ : ∃ X, n % 1000000000 = X := ⟨_, rfl⟩
    rw [hs, ht] at q1 q2 q3
    have Q1 := Lib.hid q1
    have Q2 := Lib.hid q2
    have Q3 := Lib.hid q3
    have Hs := Lib.hid hs
    have Ht := Lib.hid ht
    clear q1 q2 q3 hs ht
    go_enter Try.func6, Try.ntmps6
    go_wp2_with fail
    refine (of_any n _).mono ?_
    rintro e w1 ⟨rfl, hb1⟩
    rw [HO.out, told_true, told_true, Hs.out, Ht.out]
    have K3 := Lib.hid (((Holds.fresh w 23 #[.int .i64 a0, .int .i64 a1] rfl).kept hb1 (by simp)).laid (.cells #[.int .i64 s, .int .i64 t] 24))
    have K5 := Lib.hid (Holds.fresh w1 24 #[.int .i64 s, .int .i64 t] rfl)
    have HB := Lib.hid (bstep (bstep (bnew _ _) hb1) (bnew _ (.cells #[.int .i64 s, .int .i64 t] 24)))
    clear hb1
    go_wp2_with fail
    refine (nanos_any s t _).mono ?_
    rintro e w2 ⟨rfl, hb2⟩
    rw [Q1.out, told_true, Q2.out]
    replace K3 := Lib.hid ((K3.out).kept hb2 (K3.out).inside)
    replace K5 := Lib.hid ((K5.out).kept hb2 (K5.out).inside)
    replace HB := Lib.hid (bstep HB.out hb2)
    clear hb2
    have c50 := (K5.out).reads (i := 0) rfl
    have c51 := (K5.out).reads (i := 1) rfl
    go_wp2_with fail
    refine (right_any s t _).mono ?_
    rintro e w3 ⟨rfl, hb3⟩
    rw [Q3.out]
    replace K3 := Lib.hid ((K3.out).kept hb3 (K3.out).inside)
    replace HB := Lib.hid (bstep HB.out hb3)
    clear hb3 c50 c51 K5
    cases hR : rightB a0 a1
    · have HR := Lib.hid hR
      clear hR
      have c30 := (K3.out).reads (i := 0) rfl
      have c31 := (K3.out).reads (i := 1) rfl
      go_wp2_with fail
      refine (put_no a0 a1 _ HR.out).mono ?_
      rintro e v1 ⟨rfl, hv1⟩
      clear c30 c31
      replace K3 := Lib.hid ((K3.out).kept hv1 (K3.out).inside)
      replace HB := Lib.hid (bstep HB.out hv1)
      clear hv1
      go_wp2_with fail
      refine (alive2_any _).mono ?_
      rintro e v2 ⟨rfl, hv2⟩
      replace K3 := Lib.hid ((K3.out).kept hv2 (K3.out).inside)
      replace HB := Lib.hid (bstep HB.out hv2)
      clear hv2
      have c30 := (K3.out).reads (i := 0) rfl
      have c31 := (K3.out).reads (i := 1) rfl
      go_wp2_with fail
      refine (right_any a0 a1 _).mono ?_
      rintro e v3 ⟨rfl, hv3⟩
      rw [HR.out]
      go_wp2
      go_ret
      exact ⟨rfl, bstep HB.out hv3⟩
    · have HR := Lib.hid hR
      clear hR
      have c30 := (K3.out).reads (i := 0) rfl
      have c31 := (K3.out).reads (i := 1) rfl
      go_wp2_with fail
      refine (put_yes a0 a1 _ HR.out).mono ?_
      rintro e v1 ⟨g, hg, hh, hv1, rfl⟩
      rw [wire_length]
      have KG := Lib.hid hh
      clear c30 c31 hg hh
      replace K3 := Lib.hid ((K3.out).kept hv1 (K3.out).inside)
      replace HB := Lib.hid (bstep HB.out hv1)
      clear hv1
      go_wp2_with fail
      refine (get_put a0 a1 g _ _ HR.out KG.out).mono ?_
      rintro e v2 ⟨rfl, hv2⟩
      have K11 := Lib.hid (Holds.fresh v2 24 #[.int .i64 a0, .int .i64 a1] rfl)
      replace K3 := Lib.hid (((K3.out).kept hv2 (K3.out).inside).laid (.cells #[.int .i64 a0, .int .i64 a1] 24))
      replace HB := Lib.hid (bstep (bstep HB.out hv2) (bnew v2 (.cells #[.int .i64 a0, .int .i64 a1] 24)))
      clear hv2 KG
      go_wp2_with fail
      refine (alive2_any _).mono ?_
      rintro e v3 ⟨rfl, hv3⟩
      replace K3 := Lib.hid ((K3.out).kept hv3 (K3.out).inside)
      replace K11 := Lib.hid ((K11.out).kept hv3 (K11.out).inside)
      replace HB := Lib.hid (bstep HB.out hv3)
      clear hv3
      have c30 := (K3.out).reads (i := 0) rfl
      have c31 := (K3.out).reads (i := 1) rfl
      have d30 := (K11.out).reads (i := 0) rfl
      have d31 := (K11.out).reads (i := 1) rfl
      go_wp2
      go_ret
      exact ⟨rfl, HB.out⟩

end Go.Proofs.Ytaeefaembfgfhaa
