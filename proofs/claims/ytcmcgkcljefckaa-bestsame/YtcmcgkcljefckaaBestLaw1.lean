/- The walk over BestPorts. -/
import Derived.Test.YtcmcgkcljefckaaBestAlive
import Derived.Test.YtcmcgkcljefckaaBestRefPort
import Derived.Test.YtcmcgkcljefckaaBestEq
import Derived.Deep.DeepCutAuto
import Derived.Deep.LoopGhost
import Derived.WalkMore
namespace Go.Proofs.Ytcmcgkcljefckaa
set_option maxRecDepth 100000
open Go.RowKit
set_option linter.unusedVariables false
set_option linter.unusedSimpArgs false

theorem sets_ok_in {w : World} {A : Option Addr} {n c : Nat} {l : List Rs} (h : SetsOk w A n c l) : SetsIn w (.slice A n c) l := ⟨A, n, c, rfl, h.len, h.at_⟩
theorem chs_ok_in {w : World} {A : Option Addr} {n c : Nat} {l : List Ch} (h : ChsOk w A n c l) : ChsIn w (.slice A n c) l := ⟨A, n, c, rfl, h.len, h.at_⟩
set_option maxHeartbeats 4000000 in
theorem ports9 (A : Option Addr) (n c : Nat) (l : List Rs) (r : Pt) (w : World) (hl : SetsOk w A n c l) (hr : r.c.ok) :
    Calls Try.prog 3 #[.slice A n c, .agg (ptA r)] w fun e w' => e = .returned (.bool true) ∧ Below w.heap.size w w' := by
  have SL := Lib.hid hl
  have HR := Lib.hid hr
  clear hl hr
  have HB := Lib.hid (Below.refl w.heap.size w)
  have SI := Lib.hid (sets_ok_in SL.out)
  go_enter Try.func3, Try.ntmps3
  go_upto_region 1 with ((refine big_box rfl 26 _ rfl (ptA r) rfl (by kernel_rfl) ?_; intro gK3 wK3 hlK3 nK3 hbK3; have K3 := Lib.hid nK3; have LK3 := Lib.hid (Nat.le_trans (HB.out).size hlK3); replace SI := Lib.hid ((SI.out).keptB hbK3); replace HB := Lib.hid (bstep HB.out hbK3); clear hlK3 nK3 hbK3))
  by_cases hn : 60 < n
  · have d : decide ((60 : Int) < (n : Int)) = true := decide_eq_true (by omega)
    clear hn
    go_wp2_with fail
    refine (alive9_any _).mono ?_
    rintro e c1 ⟨rfl, hc1⟩
    replace K3 := Lib.hid ((K3.out).keptB hc1)
    replace HB := Lib.hid (bstep HB.out hc1)
    clear hc1
    go_wp2
    try rw [Exit.noGoto_ret]
    go_ret
    exact ⟨rfl, HB.out⟩
  · have d : decide ((60 : Int) < (n : Int)) = false := decide_eq_false (by omega)
    have HN : Hid (n ≤ 60) := by rw [Hid]; omega
    clear hn
    have HO := Lib.hid (SL.out).ok
    go_upto_region 3 with fail
    clear d
    obtain ⟨X, HX⟩ : ∃ X, Hid (portN l r = X) := ⟨_, Lib.hid rfl⟩
    refine wp_region_held_drew (S := fun v => Below w.heap.size w v ∧ SetsIn v (.slice A n c) l ∧ Holds v gK3 26 (ptA r) ∧ True) (by kernel_rfl) ?_ (fun hHeld => ?_)
    · exact ⟨bdrew HB.out, (SI.out).drew, (K3.out).drew, trivial⟩
    clear HB SI K3
    refine wpAnyH_ready (rs := [0]) (by kernel_rfl) (by simp) ?_
    refine AllReadyH.cons (at_list rfl) (fun K hK => ?_) AllReadyH.nil
    go_simp
    refine (alive9_any _).mono ?_
    rintro e v1 ⟨rfl, hv1⟩
    go_wp2_with fail
    refine hK.out _ _ ?_ (fun hHeld2 => ?_)
    · exact ⟨bstep hHeld.1 hv1, (hHeld.2.1).keptB hv1, (hHeld.2.2.1).keptB hv1, trivial⟩
    clear hK K hHeld
    have hHeld := hHeld2
    clear hHeld2 hv1
    try simp only [Act.put, List.setIfInBounds_toArray, List.set_cons_zero, List.set_cons_succ]
    refine wpAnyH_take (i := 1) (v := .bool true) (at_list rfl) (by kernel_rfl) (by kernel_rfl) (by kernel_rfl) (fun _ _ _ h => h) (Or.inl ⟨by rfl, ?_⟩) hHeld ?_
    · intro v hSv
      clear hHeld
      go_simp
    try simp only [Act.put, List.setIfInBounds_toArray, List.set_cons_zero, List.set_cons_succ]
    refine wpAnyH_take (i := 2) (v := .slice A n c) (at_list rfl) (by kernel_rfl) (by kernel_rfl) (by kernel_rfl) (fun _ _ _ h => h) (Or.inl ⟨by rfl, ?_⟩) hHeld ?_
    · intro v hSv
      clear hHeld
      go_simp
    try simp only [Act.put, List.setIfInBounds_toArray, List.set_cons_zero, List.set_cons_succ]
    refine wpAnyH_take (i := 3) (v := .agg #[.int .u8 r.c.b0, .int .u8 r.c.b1, .int .u8 r.c.b2, .int .u8 r.c.b3, .int .u8 r.c.b4, .int .u8 r.c.b5, .int .u8 r.c.b6, .int .u8 r.c.b7, .int .i64 r.n]) (at_list rfl) (by kernel_rfl) (by kernel_rfl) (by kernel_rfl) (fun _ _ _ h => h) (yieldsIf_load_mid (by rfl) 26 _ rfl gK3 0 rfl [.int .u8 r.c.b0, .int .u8 r.c.b1, .int .u8 r.c.b2, .int .u8 r.c.b3, .int .u8 r.c.b4, .int .u8 r.c.b5, .int .u8 r.c.b6, .int .u8 r.c.b7, .int .i64 r.n] _ (fun v hv => Holds.range (hv.2.2.1) rfl) Try.underlying26 rfl (by kernel_rfl)) hHeld ?_
    try simp only [Act.put, List.setIfInBounds_toArray, List.set_cons_zero, List.set_cons_succ]
    refine wpAnyH_take (i := 5) (v := .slice A n c) (at_list rfl) (by kernel_rfl) (by kernel_rfl) (by kernel_rfl) (fun _ _ _ h => h) (Or.inl ⟨by rfl, ?_⟩) hHeld ?_
    · intro v hSv
      clear hHeld
      go_simp
    try simp only [Act.put, List.setIfInBounds_toArray, List.set_cons_zero, List.set_cons_succ]
    refine wpAnyH_take (i := 6) (v := .agg #[.int .u8 r.c.b0, .int .u8 r.c.b1, .int .u8 r.c.b2, .int .u8 r.c.b3, .int .u8 r.c.b4, .int .u8 r.c.b5, .int .u8 r.c.b6, .int .u8 r.c.b7, .int .i64 r.n]) (at_list rfl) (by kernel_rfl) (by kernel_rfl) (by kernel_rfl) (fun _ _ _ h => h) (yieldsIf_load_mid (by rfl) 26 _ rfl gK3 0 rfl [.int .u8 r.c.b0, .int .u8 r.c.b1, .int .u8 r.c.b2, .int .u8 r.c.b3, .int .u8 r.c.b4, .int .u8 r.c.b5, .int .u8 r.c.b6, .int .u8 r.c.b7, .int .i64 r.n] _ (fun v hv => Holds.range (hv.2.2.1) rfl) Try.underlying26 rfl (by kernel_rfl)) hHeld ?_
    try simp only [Act.put, List.setIfInBounds_toArray, List.set_cons_zero, List.set_cons_succ]
    refine wpAnyH_ready (rs := [4]) (by kernel_rfl) (by simp) ?_
    refine AllReadyH.cons (at_list rfl) (fun K hK => ?_) AllReadyH.nil
    go_simp
    refine (pport9_any A n c l r _ HO.out (by have := HN.out; omega) HR.out (hHeld.2.1)).mono ?_
    rintro e v2 ⟨rfl, hv2⟩
    rw [HX.out]
    go_wp2_with fail
    refine hK.out _ _ ?_ (fun hHeld2 => ?_)
    · exact ⟨bstep hHeld.1 hv2, (hHeld.2.1).keptB hv2, (hHeld.2.2.1).keptB hv2, trivial⟩
    clear hK K hHeld
    have hHeld := hHeld2
    clear hHeld2 hv2
    try simp only [Act.put, List.setIfInBounds_toArray, List.set_cons_zero, List.set_cons_succ]
    refine wpAnyH_ready (rs := [7]) (by kernel_rfl) (by simp) ?_
    refine AllReadyH.cons (at_list rfl) (fun K hK => ?_) AllReadyH.nil
    go_simp
    refine (rport9_any A n c l r _ HO.out (by have := HN.out; omega) HR.out (hHeld.2.1)).mono ?_
    rintro e v3 ⟨rfl, hv3⟩
    rw [HX.out]
    go_wp2_with fail
    refine hK.out _ _ ?_ (fun hHeld2 => ?_)
    · exact ⟨bstep hHeld.1 hv3, (hHeld.2.1).keptB hv3, (hHeld.2.2.1).keptB hv3, trivial⟩
    clear hK K hHeld
    have hHeld := hHeld2
    clear hHeld2 hv3
    try simp only [Act.put, List.setIfInBounds_toArray, List.set_cons_zero, List.set_cons_succ]
    refine wpAnyH_take (i := 8) (v := .bool true) (at_list rfl) (by kernel_rfl) (by kernel_rfl) (by kernel_rfl) (fun _ _ _ h => h) (yields_cmp (by rfl) .eql 33 _ _ _ rfl (chA X) (chA X) rfl rfl (by kernel_rfl) true (fun v => (eql_rch X X v).trans (by rw [eqH9_self]))) hHeld ?_
    try simp only [Act.put, List.setIfInBounds_toArray, List.set_cons_zero, List.set_cons_succ]
    refine wpAnyH_take (i := 9) (v := .bool true) (at_list rfl) (by kernel_rfl) (by kernel_rfl) (by kernel_rfl) (fun _ _ _ h => h) (Or.inl ⟨by rfl, ?_⟩) hHeld ?_
    · intro v hSv
      clear hHeld
      go_simp
    try simp only [Act.put, List.setIfInBounds_toArray, List.set_cons_zero, List.set_cons_succ]
    refine wpAnyH_take (i := 10) (v := .bool true) (at_list rfl) (by kernel_rfl) (by kernel_rfl) (by kernel_rfl) (fun _ _ _ h => h) (Or.inl ⟨by rfl, ?_⟩) hHeld ?_
    · intro v hSv
      clear hHeld
      go_simp
    try simp only [Act.put, List.setIfInBounds_toArray, List.set_cons_zero, List.set_cons_succ]
    refine wpAnyH_done (by kernel_rfl) ?_ _
    have HB := Lib.hid hHeld.1
    have SI := Lib.hid hHeld.2.1
    have K3 := Lib.hid hHeld.2.2.1
    clear hHeld
    go_wp2
    go_ret
    exact ⟨rfl, HB.out⟩

end Go.Proofs.Ytcmcgkcljefckaa
