/- The walk over Observe. -/
import Derived.Test.YtblbjljfcoeeeaaServoPlain
import Derived.Deep.DeepCutAuto
namespace Go.Proofs.Ytblbjljfcoeeeaa
set_option maxRecDepth 100000
open Go.RowKit
set_option linter.unusedVariables false
set_option linter.unusedSimpArgs false

theorem run_build14 {P : Program} {op : Oper} {a : Act} (ty : TypeId) (parts : Array (Nat × Operand)) (ho : op.op = .build ty parts) (cs : Array Value) (hf : P.built ty (parts.map fun (i, x) => (i, a.eval x)).toList = some cs) (w : World) : (execOp a.eval op).run P w = .ok (.value (.agg cs)) w := by
  unfold execOp
  simp only [ho, Sem.run_bind, run_build w ty _ cs hf, Result.andThen_ok, Sem.run_pure]
theorem yields_build14 {P : Program} {ops : Array Oper} {op : Oper} {a : Act} {S : World → Prop} (hw : Region.wanted op (yielded ops a.tmps) = true) (ty : TypeId) (parts : Array (Nat × Operand)) (ho : op.op = .build ty parts) (cs : Array Value) (hf : P.built ty (parts.map fun (i, x) => (i, a.eval x)).toList = some cs) : YieldsIf P ops S op (.agg cs) a :=
  .inl ⟨hw, fun w _ => run_build14 ty parts ho cs hf w⟩
set_option maxHeartbeats 4000000 in
theorem pobs14_any (gM : Nat) (s : Sv) (o : Sp) (t : Int) (w : World) (hM : Holds w gM 63 (scA s)) (hs : smallB s.tm = true) (n0 : 0 ≤ s.n) (n1 : s.n ≤ 1000000) :
    Calls Try.prog 20 #[.pointer (some ⟨gM, 0, none⟩), .agg (#[.int .i64 o.lo, .int .i64 o.hi, .bool o.k]), .int .i64 t] w fun e w' => e = .returned (.bool (obsB s o t)) ∧ Holds w' gM 63 (scA (obsS s o t)) ∧ Only [gM] w.heap.size w w' := by
  have HN : Hid (0 ≤ s.n ∧ s.n ≤ 1000000) := Lib.hid ⟨n0, n1⟩
  clear n0 n1
  cases hm : may14 (fromN s) o t
  · have HX := Lib.hid (obs_no hm).1
    have HY := Lib.hid (obs_no hm).2
    have HMY := Lib.hid hm
    clear hm
    have HB := Lib.hid (Below.refl w.heap.size w)
    have M := Lib.hid hM
    clear hM
    go_enter Try.func20, Try.ntmps20
    go_upto_region 1 with ((refine big_box rfl 38 _ rfl (#[.int .i64 o.lo, .int .i64 o.hi, .bool o.k]) rfl (by kernel_rfl) ?_; intro gK4 wK4 hlK4 nK4 hbK4; have K4 := Lib.hid nK4; have LK4 := Lib.hid (Nat.le_trans (HB.out).size hlK4); have OMK4 := Lib.hid ((M.out).off hlK4); replace M := Lib.hid ((M.out).keptB hbK4); replace HB := Lib.hid (bstep HB.out hbK4); clear hlK4 nK4 hbK4; try simp only [Act.put, List.setIfInBounds_toArray, List.set_cons_zero, List.set_cons_succ]))
    go_wp2_with ((refine big_load rfl 61 _ rfl gM 0 rfl M.out [.int .i64 s.o.lo, .int .i64 s.o.hi, .bool s.o.k, .int .i64 s.tm, .int .i64 s.n] rfl Try.underlying61 rfl (by kernel_rfl) ?_; try simp only [Act.put, List.setIfInBounds_toArray, List.set_cons_zero, List.set_cons_succ]))
    refine (pasker14_any s _).mono ?_
    rintro e c1 ⟨gK5, rfl, lK5, nK5, hc1⟩
    have LK5 := Lib.hid (Nat.le_trans (HB.out).size lK5)
    have OMK5 := Lib.hid ((M.out).off lK5)
    have OK4K5 := Lib.hid ((K4.out).off lK5)
    replace M := Lib.hid ((M.out).keptB hc1)
    replace K4 := Lib.hid ((K4.out).keptB hc1)
    replace HB := Lib.hid (bstep HB.out hc1)
    have K5 := Lib.hid nK5
    clear lK5 nK5 hc1
    go_upto_region 2 with fail
    go_wp2_with ((refine big_whole rfl 38 _ rfl gK4 rfl K4.out Try.underlying38 rfl (by kernel_rfl) ?_; try simp only [Act.put, List.setIfInBounds_toArray, List.set_cons_zero, List.set_cons_succ]))
    refine (pclos14_any o t (fromN s) gK5 _ K5.out).mono ?_
    rintro e c2 ⟨rfl, hc2⟩
    replace M := Lib.hid ((M.out).keptB hc2)
    replace K4 := Lib.hid ((K4.out).keptB hc2)
    replace K5 := Lib.hid ((K5.out).keptB hc2)
    replace HB := Lib.hid (bstep HB.out hc2)
    clear hc2
    rw [HMY.out]
    go_wp2
    go_ret
    rw [HX.out, HY.out]
    exact ⟨rfl, M.out, only_of HB.out⟩
  · cases ha : agreeB s o t
    · have HX0 := (obs_new hs hm ha).1
      have HY := Lib.hid (obs_new hs hm ha).2
      unfold agreeB at ha
      obtain ⟨r, Hr⟩ : ∃ z_, Hid (readS s t = z_) := ⟨_, Lib.hid rfl⟩
      obtain ⟨b, Hb⟩ : ∃ z_, Hid (meetS r o = z_) := ⟨_, Lib.hid rfl⟩
      rw [Hr.out, Hb.out] at ha
      have HX := Lib.hid HX0
      have HAG := Lib.hid ha
      have HMY := Lib.hid hm
      clear hm ha HX0
      have HB := Lib.hid (Below.refl w.heap.size w)
      have M := Lib.hid hM
      clear hM
      go_enter Try.func20, Try.ntmps20
      go_upto_region 1 with ((refine big_box rfl 38 _ rfl (#[.int .i64 o.lo, .int .i64 o.hi, .bool o.k]) rfl (by kernel_rfl) ?_; intro gK4 wK4 hlK4 nK4 hbK4; have K4 := Lib.hid nK4; have LK4 := Lib.hid (Nat.le_trans (HB.out).size hlK4); have OMK4 := Lib.hid ((M.out).off hlK4); replace M := Lib.hid ((M.out).keptB hbK4); replace HB := Lib.hid (bstep HB.out hbK4); clear hlK4 nK4 hbK4; try simp only [Act.put, List.setIfInBounds_toArray, List.set_cons_zero, List.set_cons_succ]))
      go_wp2_with ((refine big_load rfl 61 _ rfl gM 0 rfl M.out [.int .i64 s.o.lo, .int .i64 s.o.hi, .bool s.o.k, .int .i64 s.tm, .int .i64 s.n] rfl Try.underlying61 rfl (by kernel_rfl) ?_; try simp only [Act.put, List.setIfInBounds_toArray, List.set_cons_zero, List.set_cons_succ]))
      refine (pasker14_any s _).mono ?_
      rintro e c1 ⟨gK5, rfl, lK5, nK5, hc1⟩
      have LK5 := Lib.hid (Nat.le_trans (HB.out).size lK5)
      have OMK5 := Lib.hid ((M.out).off lK5)
      have OK4K5 := Lib.hid ((K4.out).off lK5)
      replace M := Lib.hid ((M.out).keptB hc1)
      replace K4 := Lib.hid ((K4.out).keptB hc1)
      replace HB := Lib.hid (bstep HB.out hc1)
      have K5 := Lib.hid nK5
      clear lK5 nK5 hc1
      go_upto_region 2 with fail
      go_wp2_with ((refine big_whole rfl 38 _ rfl gK4 rfl K4.out Try.underlying38 rfl (by kernel_rfl) ?_; try simp only [Act.put, List.setIfInBounds_toArray, List.set_cons_zero, List.set_cons_succ]))
      refine (pclos14_any o t (fromN s) gK5 _ K5.out).mono ?_
      rintro e c2 ⟨rfl, hc2⟩
      replace M := Lib.hid ((M.out).keptB hc2)
      replace K4 := Lib.hid ((K4.out).keptB hc2)
      replace K5 := Lib.hid ((K5.out).keptB hc2)
      replace HB := Lib.hid (bstep HB.out hc2)
      clear hc2
      rw [HMY.out]
      go_upto_region 4 with fail
      go_wp2_with fail
      refine (plast14_any gM s _ M.out).mono ?_
      rintro e c3 ⟨rfl, hc3⟩
      replace M := Lib.hid ((M.out).keptB hc3)
      replace K4 := Lib.hid ((K4.out).keptB hc3)
      replace K5 := Lib.hid ((K5.out).keptB hc3)
      replace HB := Lib.hid (bstep HB.out hc3)
      clear hc3
      go_upto_region 5 with fail
      go_wp2_with fail
      refine (pread14_any gM s t _ M.out).mono ?_
      rintro e c4 ⟨rfl, hc4⟩
      replace M := Lib.hid ((M.out).keptB hc4)
      replace K4 := Lib.hid ((K4.out).keptB hc4)
      replace K5 := Lib.hid ((K5.out).keptB hc4)
      replace HB := Lib.hid (bstep HB.out hc4)
      clear hc4
      rw [Hr.out]
      go_upto_region 6 with (first | (refine big_fill rfl 38 _ _ rfl gK10 (#[.int .i64 r.lo, .int .i64 r.hi, .bool r.k]) rfl rfl K10.out (by kernel_rfl) (by kernel_rfl) (by kernel_rfl) ?_; intro vK101 nK10 htK10; replace K10 := Lib.hid nK10; replace M := Lib.hid ((M.out).touch htK10 OMK10.out); replace K4 := Lib.hid ((K4.out).touch htK10 OK4K10.out); replace K5 := Lib.hid ((K5.out).touch htK10 OK5K10.out); replace HB := Lib.hid (btouch HB.out htK10 LK10.out); clear nK10 htK10; try simp only [Act.put, List.setIfInBounds_toArray, List.set_cons_zero, List.set_cons_succ]) | (refine big_alloc rfl 38 rfl (#[.int .i64 0, .int .i64 0, .bool false]) (by kernel_rfl) ?_; intro gK10 wK10 hlK10 nK10 hbK10; have K10 := Lib.hid nK10; have LK10 := Lib.hid (Nat.le_trans (HB.out).size hlK10); have OMK10 := Lib.hid ((M.out).off hlK10); have OK4K10 := Lib.hid ((K4.out).off hlK10); have OK5K10 := Lib.hid ((K5.out).off hlK10); replace M := Lib.hid ((M.out).keptB hbK10); replace K4 := Lib.hid ((K4.out).keptB hbK10); replace K5 := Lib.hid ((K5.out).keptB hbK10); replace HB := Lib.hid (bstep HB.out hbK10); clear hlK10 nK10 hbK10; try simp only [Act.put, List.setIfInBounds_toArray, List.set_cons_zero, List.set_cons_succ]))
      go_wp2_with (first | (refine big_whole rfl 38 _ rfl gK10 rfl K10.out Try.underlying38 rfl (by kernel_rfl) ?_; try simp only [Act.put, List.setIfInBounds_toArray, List.set_cons_zero, List.set_cons_succ]) | (refine big_whole rfl 38 _ rfl gK4 rfl K4.out Try.underlying38 rfl (by kernel_rfl) ?_; try simp only [Act.put, List.setIfInBounds_toArray, List.set_cons_zero, List.set_cons_succ]))
      refine (meet3_any r o _).mono ?_
      rintro e c5 ⟨rfl, hc5⟩
      replace M := Lib.hid ((M.out).keptB hc5)
      replace K4 := Lib.hid ((K4.out).keptB hc5)
      replace K5 := Lib.hid ((K5.out).keptB hc5)
      replace K10 := Lib.hid ((K10.out).keptB hc5)
      replace HB := Lib.hid (bstep HB.out hc5)
      clear hc5
      rw [Hb.out]
      go_upto_region 7 with (first | (refine big_fill rfl 38 _ _ rfl gK11 (#[.int .i64 b.lo, .int .i64 b.hi, .bool b.k]) rfl rfl K11.out (by kernel_rfl) (by kernel_rfl) (by kernel_rfl) ?_; intro vK111 nK11 htK11; replace K11 := Lib.hid nK11; replace M := Lib.hid ((M.out).touch htK11 OMK11.out); replace K4 := Lib.hid ((K4.out).touch htK11 OK4K11.out); replace K5 := Lib.hid ((K5.out).touch htK11 OK5K11.out); replace K10 := Lib.hid ((K10.out).touch htK11 OK10K11.out); replace HB := Lib.hid (btouch HB.out htK11 LK11.out); clear nK11 htK11; try simp only [Act.put, List.setIfInBounds_toArray, List.set_cons_zero, List.set_cons_succ]) | (refine big_alloc rfl 38 rfl (#[.int .i64 0, .int .i64 0, .bool false]) (by kernel_rfl) ?_; intro gK11 wK11 hlK11 nK11 hbK11; have K11 := Lib.hid nK11; have LK11 := Lib.hid (Nat.le_trans (HB.out).size hlK11); have OMK11 := Lib.hid ((M.out).off hlK11); have OK4K11 := Lib.hid ((K4.out).off hlK11); have OK5K11 := Lib.hid ((K5.out).off hlK11); have OK10K11 := Lib.hid ((K10.out).off hlK11); replace M := Lib.hid ((M.out).keptB hbK11); replace K4 := Lib.hid ((K4.out).keptB hbK11); replace K5 := Lib.hid ((K5.out).keptB hbK11); replace K10 := Lib.hid ((K10.out).keptB hbK11); replace HB := Lib.hid (bstep HB.out hbK11); clear hlK11 nK11 hbK11; try simp only [Act.put, List.setIfInBounds_toArray, List.set_cons_zero, List.set_cons_succ]))
      have z0 := (K10.out).reads (i := 2) (x := .bool r.k) rfl
      have z1 := (K11.out).reads (i := 2) (x := .bool b.k) rfl
      have hag := HAG.out
      cases hrk : r.k
      · rw [hrk] at z0
        clear hrk hag
        go_upto_region 8 with fail
        clear z0 z1
        go_wp2_with (first | (refine big_store rfl 61 _ _ rfl gM 0 [.int .i64 o.lo, .int .i64 o.hi, .bool o.k, .int .i64 t, .int .i64 1] rfl rfl M.out (by kernel_rfl) (by kernel_rfl) (of_decide_eq_true (by kernel_rfl)) (scA ⟨s.ppb, o, t, 1⟩) (by kernel_rfl) ?_; intro vM nM htM; replace M := Lib.hid nM; have HO := Lib.hid (Only.touch (only_of (s := [gM]) HB.out) htM (fun _ => by simp)); clear HB nM htM; try simp only [Act.put, List.setIfInBounds_toArray, List.set_cons_zero, List.set_cons_succ]) | (refine big_build rfl 61 _ rfl (#[.int .i64 o.lo, .int .i64 o.hi, .bool o.k, .int .i64 t, .int .i64 1]) (by kernel_rfl) ?_; try simp only [Act.put, List.setIfInBounds_toArray, List.set_cons_zero, List.set_cons_succ]) | (refine big_whole rfl 38 _ rfl gK4 rfl K4.out Try.underlying38 rfl (by kernel_rfl) ?_; try simp only [Act.put, List.setIfInBounds_toArray, List.set_cons_zero, List.set_cons_succ]))
        go_ret
        rw [HX.out, HY.out]
        exact ⟨rfl, M.out, HO.out⟩
      · have hbk : b.k = false := by rw [hrk] at hag; simpa using hag
        rw [hrk] at z0
        rw [hbk] at z1
        clear hrk hbk hag
        go_upto_region 8 with fail
        clear z0 z1
        go_wp2_with (first | (refine big_store rfl 61 _ _ rfl gM 0 [.int .i64 o.lo, .int .i64 o.hi, .bool o.k, .int .i64 t, .int .i64 1] rfl rfl M.out (by kernel_rfl) (by kernel_rfl) (of_decide_eq_true (by kernel_rfl)) (scA ⟨s.ppb, o, t, 1⟩) (by kernel_rfl) ?_; intro vM nM htM; replace M := Lib.hid nM; have HO := Lib.hid (Only.touch (only_of (s := [gM]) HB.out) htM (fun _ => by simp)); clear HB nM htM; try simp only [Act.put, List.setIfInBounds_toArray, List.set_cons_zero, List.set_cons_succ]) | (refine big_build rfl 61 _ rfl (#[.int .i64 o.lo, .int .i64 o.hi, .bool o.k, .int .i64 t, .int .i64 1]) (by kernel_rfl) ?_; try simp only [Act.put, List.setIfInBounds_toArray, List.set_cons_zero, List.set_cons_succ]) | (refine big_whole rfl 38 _ rfl gK4 rfl K4.out Try.underlying38 rfl (by kernel_rfl) ?_; try simp only [Act.put, List.setIfInBounds_toArray, List.set_cons_zero, List.set_cons_succ]))
        go_ret
        rw [HX.out, HY.out]
        exact ⟨rfl, M.out, HO.out⟩
    · have HX0 := (obs_more hs hm ha).1
      have HY := Lib.hid (obs_more hs hm ha).2
      unfold agreeB at ha
      obtain ⟨r, Hr⟩ : ∃ z_, Hid (readS s t = z_) := ⟨_, Lib.hid rfl⟩
      obtain ⟨b, Hb⟩ : ∃ z_, Hid (meetS r o = z_) := ⟨_, Lib.hid rfl⟩
      rw [Hr.out, Hb.out] at ha
      rw [Hr.out, Hb.out] at HX0
      have HX := Lib.hid HX0
      have HAG := Lib.hid ha
      have HMY := Lib.hid hm
      clear hm ha HX0
      have HB := Lib.hid (Below.refl w.heap.size w)
      have M := Lib.hid hM
      clear hM
      go_enter Try.func20, Try.ntmps20
      go_upto_region 1 with ((refine big_box rfl 38 _ rfl (#[.int .i64 o.lo, .int .i64 o.hi, .bool o.k]) rfl (by kernel_rfl) ?_; intro gK4 wK4 hlK4 nK4 hbK4; have K4 := Lib.hid nK4; have LK4 := Lib.hid (Nat.le_trans (HB.out).size hlK4); have OMK4 := Lib.hid ((M.out).off hlK4); replace M := Lib.hid ((M.out).keptB hbK4); replace HB := Lib.hid (bstep HB.out hbK4); clear hlK4 nK4 hbK4; try simp only [Act.put, List.setIfInBounds_toArray, List.set_cons_zero, List.set_cons_succ]))
      go_wp2_with ((refine big_load rfl 61 _ rfl gM 0 rfl M.out [.int .i64 s.o.lo, .int .i64 s.o.hi, .bool s.o.k, .int .i64 s.tm, .int .i64 s.n] rfl Try.underlying61 rfl (by kernel_rfl) ?_; try simp only [Act.put, List.setIfInBounds_toArray, List.set_cons_zero, List.set_cons_succ]))
      refine (pasker14_any s _).mono ?_
      rintro e c1 ⟨gK5, rfl, lK5, nK5, hc1⟩
      have LK5 := Lib.hid (Nat.le_trans (HB.out).size lK5)
      have OMK5 := Lib.hid ((M.out).off lK5)
      have OK4K5 := Lib.hid ((K4.out).off lK5)
      replace M := Lib.hid ((M.out).keptB hc1)
      replace K4 := Lib.hid ((K4.out).keptB hc1)
      replace HB := Lib.hid (bstep HB.out hc1)
      have K5 := Lib.hid nK5
      clear lK5 nK5 hc1
      go_upto_region 2 with fail
      go_wp2_with ((refine big_whole rfl 38 _ rfl gK4 rfl K4.out Try.underlying38 rfl (by kernel_rfl) ?_; try simp only [Act.put, List.setIfInBounds_toArray, List.set_cons_zero, List.set_cons_succ]))
      refine (pclos14_any o t (fromN s) gK5 _ K5.out).mono ?_
      rintro e c2 ⟨rfl, hc2⟩
      replace M := Lib.hid ((M.out).keptB hc2)
      replace K4 := Lib.hid ((K4.out).keptB hc2)
      replace K5 := Lib.hid ((K5.out).keptB hc2)
      replace HB := Lib.hid (bstep HB.out hc2)
      clear hc2
      rw [HMY.out]
      go_upto_region 4 with fail
      go_wp2_with fail
      refine (plast14_any gM s _ M.out).mono ?_
      rintro e c3 ⟨rfl, hc3⟩
      replace M := Lib.hid ((M.out).keptB hc3)
      replace K4 := Lib.hid ((K4.out).keptB hc3)
      replace K5 := Lib.hid ((K5.out).keptB hc3)
      replace HB := Lib.hid (bstep HB.out hc3)
      clear hc3
      go_upto_region 5 with fail
      go_wp2_with fail
      refine (pread14_any gM s t _ M.out).mono ?_
      rintro e c4 ⟨rfl, hc4⟩
      replace M := Lib.hid ((M.out).keptB hc4)
      replace K4 := Lib.hid ((K4.out).keptB hc4)
      replace K5 := Lib.hid ((K5.out).keptB hc4)
      replace HB := Lib.hid (bstep HB.out hc4)
      clear hc4
      rw [Hr.out]
      go_upto_region 6 with (first | (refine big_fill rfl 38 _ _ rfl gK10 (#[.int .i64 r.lo, .int .i64 r.hi, .bool r.k]) rfl rfl K10.out (by kernel_rfl) (by kernel_rfl) (by kernel_rfl) ?_; intro vK101 nK10 htK10; replace K10 := Lib.hid nK10; replace M := Lib.hid ((M.out).touch htK10 OMK10.out); replace K4 := Lib.hid ((K4.out).touch htK10 OK4K10.out); replace K5 := Lib.hid ((K5.out).touch htK10 OK5K10.out); replace HB := Lib.hid (btouch HB.out htK10 LK10.out); clear nK10 htK10; try simp only [Act.put, List.setIfInBounds_toArray, List.set_cons_zero, List.set_cons_succ]) | (refine big_alloc rfl 38 rfl (#[.int .i64 0, .int .i64 0, .bool false]) (by kernel_rfl) ?_; intro gK10 wK10 hlK10 nK10 hbK10; have K10 := Lib.hid nK10; have LK10 := Lib.hid (Nat.le_trans (HB.out).size hlK10); have OMK10 := Lib.hid ((M.out).off hlK10); have OK4K10 := Lib.hid ((K4.out).off hlK10); have OK5K10 := Lib.hid ((K5.out).off hlK10); replace M := Lib.hid ((M.out).keptB hbK10); replace K4 := Lib.hid ((K4.out).keptB hbK10); replace K5 := Lib.hid ((K5.out).keptB hbK10); replace HB := Lib.hid (bstep HB.out hbK10); clear hlK10 nK10 hbK10; try simp only [Act.put, List.setIfInBounds_toArray, List.set_cons_zero, List.set_cons_succ]))
      go_wp2_with (first | (refine big_whole rfl 38 _ rfl gK10 rfl K10.out Try.underlying38 rfl (by kernel_rfl) ?_; try simp only [Act.put, List.setIfInBounds_toArray, List.set_cons_zero, List.set_cons_succ]) | (refine big_whole rfl 38 _ rfl gK4 rfl K4.out Try.underlying38 rfl (by kernel_rfl) ?_; try simp only [Act.put, List.setIfInBounds_toArray, List.set_cons_zero, List.set_cons_succ]))
      refine (meet3_any r o _).mono ?_
      rintro e c5 ⟨rfl, hc5⟩
      replace M := Lib.hid ((M.out).keptB hc5)
      replace K4 := Lib.hid ((K4.out).keptB hc5)
      replace K5 := Lib.hid ((K5.out).keptB hc5)
      replace K10 := Lib.hid ((K10.out).keptB hc5)
      replace HB := Lib.hid (bstep HB.out hc5)
      clear hc5
      rw [Hb.out]
      go_upto_region 7 with (first | (refine big_fill rfl 38 _ _ rfl gK11 (#[.int .i64 b.lo, .int .i64 b.hi, .bool b.k]) rfl rfl K11.out (by kernel_rfl) (by kernel_rfl) (by kernel_rfl) ?_; intro vK111 nK11 htK11; replace K11 := Lib.hid nK11; replace M := Lib.hid ((M.out).touch htK11 OMK11.out); replace K4 := Lib.hid ((K4.out).touch htK11 OK4K11.out); replace K5 := Lib.hid ((K5.out).touch htK11 OK5K11.out); replace K10 := Lib.hid ((K10.out).touch htK11 OK10K11.out); replace HB := Lib.hid (btouch HB.out htK11 LK11.out); clear nK11 htK11; try simp only [Act.put, List.setIfInBounds_toArray, List.set_cons_zero, List.set_cons_succ]) | (refine big_alloc rfl 38 rfl (#[.int .i64 0, .int .i64 0, .bool false]) (by kernel_rfl) ?_; intro gK11 wK11 hlK11 nK11 hbK11; have K11 := Lib.hid nK11; have LK11 := Lib.hid (Nat.le_trans (HB.out).size hlK11); have OMK11 := Lib.hid ((M.out).off hlK11); have OK4K11 := Lib.hid ((K4.out).off hlK11); have OK5K11 := Lib.hid ((K5.out).off hlK11); have OK10K11 := Lib.hid ((K10.out).off hlK11); replace M := Lib.hid ((M.out).keptB hbK11); replace K4 := Lib.hid ((K4.out).keptB hbK11); replace K5 := Lib.hid ((K5.out).keptB hbK11); replace K10 := Lib.hid ((K10.out).keptB hbK11); replace HB := Lib.hid (bstep HB.out hbK11); clear hlK11 nK11 hbK11; try simp only [Act.put, List.setIfInBounds_toArray, List.set_cons_zero, List.set_cons_succ]))
      have z0 := (K10.out).reads (i := 2) (x := .bool r.k) rfl
      have z1 := (K11.out).reads (i := 2) (x := .bool b.k) rfl
      have hag := HAG.out
      rw [Bool.and_eq_true] at hag
      rw [hag.1] at z0
      rw [hag.2] at z1
      clear hag
      go_upto_region 10 with fail
      clear z0 z1
      refine wp_region_end (S := fun v => Below w.heap.size w v ∧ Holds v gM 63 (scA s) ∧ Holds v gK4 38 (#[.int .i64 o.lo, .int .i64 o.hi, .bool o.k]) ∧ Holds v gK5 3 #[.int .i64 (fromN s)] ∧ Holds v gK10 38 (#[.int .i64 r.lo, .int .i64 r.hi, .bool r.k]) ∧ Holds v gK11 38 (#[.int .i64 b.lo, .int .i64 b.hi, .bool b.k]) ∧ True) 12 (by kernel_rfl) ?_ (fun hHeld => ?_)
      · exact ⟨bdrew HB.out, (M.out).drew, (K4.out).drew, (K5.out).drew, (K10.out).drew, (K11.out).drew, trivial⟩
      clear HB M K4 K5 K10 K11
      refine wpAnyE_take (hfb := by kernel_rfl) (i := 0) (v := .pointer (some ⟨gM, 0, none⟩)) (at_list rfl) (by kernel_rfl) (by kernel_rfl) (by kernel_rfl) (fun _ _ _ h => h) (Or.inl ⟨by rfl, ?_⟩) hHeld ?_
      · intro v hSv
        clear hHeld
        go_simp
      try simp only [Act.put, List.setIfInBounds_toArray, List.set_cons_zero, List.set_cons_succ]
      refine wpAnyE_take (hfb := by kernel_rfl) (i := 1) (v := .agg (#[.int .i64 b.lo, .int .i64 b.hi, .bool b.k])) (at_list rfl) (by kernel_rfl) (by kernel_rfl) (by kernel_rfl) (fun _ _ _ h => h) (yields_whole (by rfl) 38 _ rfl gK11 rfl (fun v hv => hv.2.2.2.2.2.1) Try.underlying38 rfl (by kernel_rfl)) hHeld ?_
      try simp only [Act.put, List.setIfInBounds_toArray, List.set_cons_zero, List.set_cons_succ]
      refine wpAnyE_take (hfb := by kernel_rfl) (i := 2) (v := .int .i64 t) (at_list rfl) (by kernel_rfl) (by kernel_rfl) (by kernel_rfl) (fun _ _ _ h => h) (Or.inl ⟨by rfl, ?_⟩) hHeld ?_
      · intro v hSv
        clear hHeld
        go_simp
      try simp only [Act.put, List.setIfInBounds_toArray, List.set_cons_zero, List.set_cons_succ]
      refine wpAnyE_take (hfb := by kernel_rfl) (i := 3) (v := .pointer (some ⟨gM, 0, none⟩)) (at_list rfl) (by kernel_rfl) (by kernel_rfl) (by kernel_rfl) (fun _ _ _ h => h) (Or.inl ⟨by rfl, ?_⟩) hHeld ?_
      · intro v hSv
        clear hHeld
        go_simp
      try simp only [Act.put, List.setIfInBounds_toArray, List.set_cons_zero, List.set_cons_succ]
      refine wpAnyE_take (hfb := by kernel_rfl) (i := 4) (v := .pointer (some ⟨gM, 0, none⟩)) (at_list rfl) (by kernel_rfl) (by kernel_rfl) (by kernel_rfl) (fun _ _ _ h => h) (Or.inl ⟨by rfl, ?_⟩) hHeld ?_
      · intro v hSv
        clear hHeld
        go_simp
      try simp only [Act.put, List.setIfInBounds_toArray, List.set_cons_zero, List.set_cons_succ]
      refine wpAnyE_take (hfb := by kernel_rfl) (i := 5) (v := .pointer (some ⟨gM, 0, none⟩)) (at_list rfl) (by kernel_rfl) (by kernel_rfl) (by kernel_rfl) (fun _ _ _ h => h) (Or.inl ⟨by rfl, ?_⟩) hHeld ?_
      · intro v hSv
        clear hHeld
        go_simp
      try simp only [Act.put, List.setIfInBounds_toArray, List.set_cons_zero, List.set_cons_succ]
      refine wpAnyE_take (hfb := by kernel_rfl) (i := 6) (v := .pointer (some ⟨gM, 4, none⟩)) (at_list rfl) (by kernel_rfl) (by kernel_rfl) (by kernel_rfl) (fun _ _ _ h => h) (Or.inl ⟨by rfl, ?_⟩) hHeld ?_
      · intro v hSv
        clear hHeld
        go_simp
      try simp only [Act.put, List.setIfInBounds_toArray, List.set_cons_zero, List.set_cons_succ]
      refine wpAnyE_take (hfb := by kernel_rfl) (i := 7) (v := .int .i64 s.n) (at_list rfl) (by kernel_rfl) (by kernel_rfl) (by kernel_rfl) (fun _ _ _ h => h) (Or.inl ⟨by rfl, ?_⟩) hHeld ?_
      · intro v hSv
        clear hHeld
        have q := Holds.reads (hSv.2.1) (i := 4) (x := .int .i64 s.n) rfl
        clear hSv
        go_simp
      try simp only [Act.put, List.setIfInBounds_toArray, List.set_cons_zero, List.set_cons_succ]
      refine wpAnyE_take (hfb := by kernel_rfl) (i := 8) (v := .int .i64 (s.n + 1)) (at_list rfl) (by kernel_rfl) (by kernel_rfl) (by kernel_rfl) (fun _ _ _ h => h) (Or.inl ⟨by rfl, ?_⟩) hHeld ?_
      · intro v hSv
        clear hHeld
        clear hSv
        have := HN.out
        go_simp
        rw [IntKind.wrap_i64] <;> omega
      try simp only [Act.put, List.setIfInBounds_toArray, List.set_cons_zero, List.set_cons_succ]
      refine wpAnyE_take (hfb := by kernel_rfl) (i := 9) (v := .agg #[.int .i64 b.lo, .int .i64 b.hi, .bool b.k, .int .i64 t, .int .i64 (s.n + 1)]) (at_list rfl) (by kernel_rfl) (by kernel_rfl) (by kernel_rfl) (fun _ _ _ h => h) (yields_build14 (by rfl) 61 _ rfl (#[.int .i64 b.lo, .int .i64 b.hi, .bool b.k, .int .i64 t, .int .i64 (s.n + 1)]) (by kernel_rfl)) hHeld ?_
      try simp only [Act.put, List.setIfInBounds_toArray, List.set_cons_zero, List.set_cons_succ]
      refine wpAnyE_takeC (r := [11]) (hfb := by kernel_rfl) (hcl := by kernel_rfl) (i := 10) (v := .pointer (some ⟨gM, 0, none⟩)) (at_list rfl) (by kernel_rfl) (by kernel_rfl) (by kernel_rfl) (fun _ _ _ h => h) (Or.inl ⟨by rfl, ?_⟩) hHeld ?_
      · intro v hSv
        clear hHeld
        go_simp
      try simp only [Act.put, List.setIfInBounds_toArray, List.set_cons_zero, List.set_cons_succ]
      refine wpAnyE_take (hfb := by kernel_rfl) (i := 11) (v := .pointer (some ⟨gM, 0, none⟩)) (at_list rfl) (by kernel_rfl) (by kernel_rfl) (by kernel_rfl) (fun _ _ _ h => h) (Or.inl ⟨by rfl, ?_⟩) hHeld ?_
      · intro v hSv
        clear hHeld
        go_simp
      try simp only [Act.put, List.setIfInBounds_toArray, List.set_cons_zero, List.set_cons_succ]
      refine wpAnyE_last (by kernel_rfl) (at_list rfl) (by kernel_rfl) (fun K hK => ?_)
      have HB := Lib.hid hHeld.1
      have M := Lib.hid hHeld.2.1
      clear hHeld
      refine step_store (by rfl) 61 _ _ rfl gM 0 [.int .i64 b.lo, .int .i64 b.hi, .bool b.k, .int .i64 t, .int .i64 (s.n + 1)] rfl rfl M.out (by kernel_rfl) (by kernel_rfl) (of_decide_eq_true (by kernel_rfl)) (scA ⟨s.ppb, b, t, s.n + 1⟩) (by kernel_rfl) ?_
      intro vM nM htM
      replace M := Lib.hid nM
      have HO := Lib.hid (Only.touch (only_of (s := [gM]) HB.out) htM (fun _ => by simp))
      clear HB nM htM
      refine hK.out _ _ ?_
      clear hK K
      try simp only [Act.put]
      go_wp2
      go_ret
      rw [HX.out, HY.out]
      exact ⟨rfl, M.out, HO.out⟩

end Go.Proofs.Ytblbjljfcoeeeaa
