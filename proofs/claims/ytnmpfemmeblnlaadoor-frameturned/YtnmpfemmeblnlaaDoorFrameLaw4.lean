/- The walk over FrameTurned. -/
import Derived.Test.YtnmpfemmeblnlaaDoorFrameAlive
import Derived.Test.YtnmpfemmeblnlaaDoorBigAll
namespace Go.Proofs.YtnmpfemmeblnlaaDoor
set_option maxRecDepth 100000
open Go.RowKit
set_option linter.unusedVariables false

/-- in a region that draws: a struct is made -/
theorem yields_build {P : Program} {ops : Array Oper} {op : Oper} {a : Act} {S : World → Prop} (hw : Region.wanted op (yielded ops a.tmps) = true) (ty : TypeId) (parts : Array (Nat × Operand)) (ho : op.op = .build ty parts) (cs : Array Value) (hf : P.built ty (parts.map fun (i, x) => (i, a.eval x)).toList = some cs) : YieldsIf P ops S op (.agg cs) a :=
  .inl ⟨hw, fun w _ => by
    unfold execOp
    simp only [ho, Sem.run_bind, run_build w ty _ cs hf, Result.andThen_ok, Sem.run_pure]⟩
theorem bytes_take {w : World} {g N : Nat} {t : TypeId} {cs : Array Value} {zs : List Int} (h : Holds w g t cs) (ht : cs.toList.take N = zs.map (Value.int .u8)) (hz : zs.length = N) : BytesAt w ⟨g, 0, none⟩ zs := by
  intro i hi
  rw [Addr.add_lit, Nat.zero_add]
  refine h.reads ?_
  have h1 : (cs.toList.take N)[i]? = (zs.map (Value.int .u8))[i]? := by rw [ht]
  rw [List.getElem?_take, if_pos (by omega), Array.getElem?_toList] at h1
  rw [h1]
  simp [List.getD, List.getElem?_eq_getElem hi]
theorem enc6_hold (m : Ms) (w : World) (hl : Lens w) (f0 : -9223372036854775808 ≤ m.h.f) (f1 : m.h.f ≤ 9223372036854775807) (hr : m.right = true) (zs : List Int) (hz : encM m = zs) (N : Nat) (hN : zs.length = N) :
    Calls Tryd.prog 11 #[.agg (msA m)] w fun e w' => ∃ g cap cur, w.heap.size ≤ g ∧ e = .returned (.tuple #[.slice (some ⟨g, 0, none⟩) N cap, .bool true]) ∧ Holds w' g 5 cur ∧ cur.toList.take N = zs.map (Value.int .u8) ∧ N ≤ cap ∧ cap ≤ maxLen ∧ cur.size = cap ∧ Below w.heap.size w w' := by
  subst hz hN
  refine (encM_yes m w hl f0 f1 hr).mono ?_
  rintro e w' ⟨g, cap, h1, h2, h3, h4⟩
  obtain ⟨c1, c2, cur, c3, c4, c5⟩ := own_cap h3
  exact ⟨g, cap, cur, h1, h2, c3, c5, c1, c2, c4, h4⟩
set_option maxHeartbeats 4000000 in
theorem turned6_no (m : Ms) (fm0 : -9223372036854775808 ≤ m.h.f) (fm1 : m.h.f ≤ 9223372036854775807) (cm0 : -9223372036854775808 ≤ m.h.c) (cm1 : m.h.c ≤ 9223372036854775807) (om1 : m.h.p.c.ok) (om2 : m.ak.c.ok) (om3 : m.gr.ok) (p q : Int) (w : World) (hl : Lens w) (hr : m.right = false) :
    Calls Tryd.prog 6 #[.agg (msA m), .int .i64 p, .int .i64 q] w fun e w' => e = .returned (.bool true) ∧ Below w.heap.size w w' := by
  have HB := Lib.hid (Below.refl w.heap.size w)
  have LN := Lib.hid hl
  have HMR := Lib.hid hr
  clear hl hr
  go_enter Tryd.func6, Tryd.ntmps6
  go_wp2_with (first | (refine big_whole rfl 35 _ rfl gK1 rfl K1.out Tryd.underlying35 rfl (by kernel_rfl) ?_) | (refine big_box rfl 35 _ rfl (msA m) rfl (by kernel_rfl) ?_; intro gK1 wK1 hlK1 nK1 hbK1; replace LN := Lib.hid ((LN.out).keptB hbK1); replace HB := Lib.hid (bstep HB.out hbK1); have K1 := Lib.hid nK1; clear hlK1 nK1 hbK1))
  refine (own6_any m _).mono ?_
  rintro e c1 ⟨rfl, hc1⟩
  replace LN := Lib.hid ((LN.out).keptB hc1)
  replace K1 := Lib.hid ((K1.out).keptB hc1)
  replace HB := Lib.hid (bstep HB.out hc1)
  clear hc1
  go_wp2_with fail
  refine (encM_no m _ LN.out fm0 fm1 HMR.out).mono ?_
  rintro e c2 ⟨rfl, hc2⟩
  replace LN := Lib.hid ((LN.out).keptB hc2)
  replace K1 := Lib.hid ((K1.out).keptB hc2)
  replace HB := Lib.hid (bstep HB.out hc2)
  clear hc2
  go_wp2_with fail
  refine (alive6_any _ LN.out).mono ?_
  rintro e c3 ⟨rfl, hc3⟩
  replace LN := Lib.hid ((LN.out).keptB hc3)
  replace K1 := Lib.hid ((K1.out).keptB hc3)
  replace HB := Lib.hid (bstep HB.out hc3)
  clear hc3
  go_wp2
  go_ret
  exact ⟨rfl, HB.out⟩
set_option maxHeartbeats 4000000 in
theorem turned6_d0 (m : Ms) (fm0 : -9223372036854775808 ≤ m.h.f) (fm1 : m.h.f ≤ 9223372036854775807) (cm0 : -9223372036854775808 ≤ m.h.c) (cm1 : m.h.c ≤ 9223372036854775807) (om1 : m.h.p.c.ok) (om2 : m.ak.c.ok) (om3 : m.gr.ok) (p q : Int) (w : World) (hl : Lens w) (hr : m.right = true) (hc : p < 0) :
    Calls Tryd.prog 6 #[.agg (msA m), .int .i64 p, .int .i64 q] w fun e w' => e = .returned (.bool true) ∧ Below w.heap.size w w' := by
  have HB := Lib.hid (Below.refl w.heap.size w)
  have LN := Lib.hid hl
  have HMR := Lib.hid hr
  clear hl hr
  obtain ⟨zs, hzs⟩ : ∃ zs, encM m = zs := ⟨_, rfl⟩
  obtain ⟨N, hN⟩ : ∃ N, zs.length = N := ⟨_, rfl⟩
  have HME := Lib.hid hzs
  have HMN := Lib.hid hN
  have d1 : decide (p < 0) = true := by simp; omega
  clear hzs hN hc
  go_enter Tryd.func6, Tryd.ntmps6
  go_wp2_with (first | (refine big_whole rfl 35 _ rfl gK1 rfl K1.out Tryd.underlying35 rfl (by kernel_rfl) ?_) | (refine big_box rfl 35 _ rfl (msA m) rfl (by kernel_rfl) ?_; intro gK1 wK1 hlK1 nK1 hbK1; replace LN := Lib.hid ((LN.out).keptB hbK1); replace HB := Lib.hid (bstep HB.out hbK1); have K1 := Lib.hid nK1; clear hlK1 nK1 hbK1))
  refine (own6_any m _).mono ?_
  rintro e c1 ⟨rfl, hc1⟩
  replace LN := Lib.hid ((LN.out).keptB hc1)
  replace K1 := Lib.hid ((K1.out).keptB hc1)
  replace HB := Lib.hid (bstep HB.out hc1)
  clear hc1
  go_wp2_with fail
  refine (enc6_yes m _ LN.out fm0 fm1 HMR.out zs HME.out N HMN.out).mono ?_
  rintro e c2 ⟨gX, capX, -, rfl, nBX, hc0, hc1, hc2⟩
  replace LN := Lib.hid ((LN.out).keptB hc2)
  replace K1 := Lib.hid ((K1.out).keptB hc2)
  replace HB := Lib.hid (bstep HB.out hc2)
  have BX := Lib.hid nBX
  clear nBX
  clear hc2
  have CX : Hid (N ≤ capX ∧ capX ≤ maxLen) := ⟨hc0, hc1⟩
  clear hc0 hc1
  go_wp2_with fail
  refine (alive6_any _ LN.out).mono ?_
  rintro e c3 ⟨rfl, hc3⟩
  replace LN := Lib.hid ((LN.out).keptB hc3)
  replace K1 := Lib.hid ((K1.out).keptB hc3)
  replace BX := Lib.hid ((BX.out).keptB hc3)
  replace HB := Lib.hid (bstep HB.out hc3)
  clear hc3
  go_wp2
  go_ret
  exact ⟨rfl, HB.out⟩
set_option maxHeartbeats 4000000 in
theorem turned6_d1 (m : Ms) (fm0 : -9223372036854775808 ≤ m.h.f) (fm1 : m.h.f ≤ 9223372036854775807) (cm0 : -9223372036854775808 ≤ m.h.c) (cm1 : m.h.c ≤ 9223372036854775807) (om1 : m.h.p.c.ok) (om2 : m.ak.c.ok) (om3 : m.gr.ok) (p q : Int) (w : World) (hl : Lens w) (hr : m.right = true) (hc : ¬ p < 0 ∧ ((encM m).length : Int) ≤ p) :
    Calls Tryd.prog 6 #[.agg (msA m), .int .i64 p, .int .i64 q] w fun e w' => e = .returned (.bool true) ∧ Below w.heap.size w w' := by
  have HB := Lib.hid (Below.refl w.heap.size w)
  have LN := Lib.hid hl
  have HMR := Lib.hid hr
  clear hl hr
  obtain ⟨zs, hzs⟩ : ∃ zs, encM m = zs := ⟨_, rfl⟩
  obtain ⟨N, hN⟩ : ∃ N, zs.length = N := ⟨_, rfl⟩
  have HME := Lib.hid hzs
  have HMN := Lib.hid hN
  rw [hzs, hN] at hc
  have d1 : decide (p < 0) = false := by simp; omega
  have d2 : decide ((N : Int) ≤ p) = true := by simp; omega
  clear hzs hN hc
  go_enter Tryd.func6, Tryd.ntmps6
  go_wp2_with (first | (refine big_whole rfl 35 _ rfl gK1 rfl K1.out Tryd.underlying35 rfl (by kernel_rfl) ?_) | (refine big_box rfl 35 _ rfl (msA m) rfl (by kernel_rfl) ?_; intro gK1 wK1 hlK1 nK1 hbK1; replace LN := Lib.hid ((LN.out).keptB hbK1); replace HB := Lib.hid (bstep HB.out hbK1); have K1 := Lib.hid nK1; clear hlK1 nK1 hbK1))
  refine (own6_any m _).mono ?_
  rintro e c1 ⟨rfl, hc1⟩
  replace LN := Lib.hid ((LN.out).keptB hc1)
  replace K1 := Lib.hid ((K1.out).keptB hc1)
  replace HB := Lib.hid (bstep HB.out hc1)
  clear hc1
  go_wp2_with fail
  refine (enc6_yes m _ LN.out fm0 fm1 HMR.out zs HME.out N HMN.out).mono ?_
  rintro e c2 ⟨gX, capX, -, rfl, nBX, hc0, hc1, hc2⟩
  replace LN := Lib.hid ((LN.out).keptB hc2)
  replace K1 := Lib.hid ((K1.out).keptB hc2)
  replace HB := Lib.hid (bstep HB.out hc2)
  have BX := Lib.hid nBX
  clear nBX
  clear hc2
  have CX : Hid (N ≤ capX ∧ capX ≤ maxLen) := ⟨hc0, hc1⟩
  clear hc0 hc1
  go_wp2_with fail
  refine (alive6_any _ LN.out).mono ?_
  rintro e c3 ⟨rfl, hc3⟩
  replace LN := Lib.hid ((LN.out).keptB hc3)
  replace K1 := Lib.hid ((K1.out).keptB hc3)
  replace BX := Lib.hid ((BX.out).keptB hc3)
  replace HB := Lib.hid (bstep HB.out hc3)
  clear hc3
  go_wp2
  go_ret
  exact ⟨rfl, HB.out⟩
set_option maxHeartbeats 4000000 in
theorem turned6_d2 (m : Ms) (fm0 : -9223372036854775808 ≤ m.h.f) (fm1 : m.h.f ≤ 9223372036854775807) (cm0 : -9223372036854775808 ≤ m.h.c) (cm1 : m.h.c ≤ 9223372036854775807) (om1 : m.h.p.c.ok) (om2 : m.ak.c.ok) (om3 : m.gr.ok) (p q : Int) (w : World) (hl : Lens w) (hr : m.right = true) (hc : (¬ p < 0 ∧ ¬ ((encM m).length : Int) ≤ p) ∧ q < 1) :
    Calls Tryd.prog 6 #[.agg (msA m), .int .i64 p, .int .i64 q] w fun e w' => e = .returned (.bool true) ∧ Below w.heap.size w w' := by
  have HB := Lib.hid (Below.refl w.heap.size w)
  have LN := Lib.hid hl
  have HMR := Lib.hid hr
  clear hl hr
  obtain ⟨zs, hzs⟩ : ∃ zs, encM m = zs := ⟨_, rfl⟩
  obtain ⟨N, hN⟩ : ∃ N, zs.length = N := ⟨_, rfl⟩
  have HME := Lib.hid hzs
  have HMN := Lib.hid hN
  rw [hzs, hN] at hc
  have d1 : decide (p < 0) = false := by simp; omega
  have d2 : decide ((N : Int) ≤ p) = false := by simp; omega
  have d3 : decide (q < 1) = true := by simp; omega
  clear hzs hN hc
  go_enter Tryd.func6, Tryd.ntmps6
  go_wp2_with (first | (refine big_whole rfl 35 _ rfl gK1 rfl K1.out Tryd.underlying35 rfl (by kernel_rfl) ?_) | (refine big_box rfl 35 _ rfl (msA m) rfl (by kernel_rfl) ?_; intro gK1 wK1 hlK1 nK1 hbK1; replace LN := Lib.hid ((LN.out).keptB hbK1); replace HB := Lib.hid (bstep HB.out hbK1); have K1 := Lib.hid nK1; clear hlK1 nK1 hbK1))
  refine (own6_any m _).mono ?_
  rintro e c1 ⟨rfl, hc1⟩
  replace LN := Lib.hid ((LN.out).keptB hc1)
  replace K1 := Lib.hid ((K1.out).keptB hc1)
  replace HB := Lib.hid (bstep HB.out hc1)
  clear hc1
  go_wp2_with fail
  refine (enc6_yes m _ LN.out fm0 fm1 HMR.out zs HME.out N HMN.out).mono ?_
  rintro e c2 ⟨gX, capX, -, rfl, nBX, hc0, hc1, hc2⟩
  replace LN := Lib.hid ((LN.out).keptB hc2)
  replace K1 := Lib.hid ((K1.out).keptB hc2)
  replace HB := Lib.hid (bstep HB.out hc2)
  have BX := Lib.hid nBX
  clear nBX
  clear hc2
  have CX : Hid (N ≤ capX ∧ capX ≤ maxLen) := ⟨hc0, hc1⟩
  clear hc0 hc1
  go_wp2_with fail
  refine (alive6_any _ LN.out).mono ?_
  rintro e c3 ⟨rfl, hc3⟩
  replace LN := Lib.hid ((LN.out).keptB hc3)
  replace K1 := Lib.hid ((K1.out).keptB hc3)
  replace BX := Lib.hid ((BX.out).keptB hc3)
  replace HB := Lib.hid (bstep HB.out hc3)
  clear hc3
  go_wp2
  go_ret
  exact ⟨rfl, HB.out⟩
set_option maxHeartbeats 4000000 in
theorem turned6_d3 (m : Ms) (fm0 : -9223372036854775808 ≤ m.h.f) (fm1 : m.h.f ≤ 9223372036854775807) (cm0 : -9223372036854775808 ≤ m.h.c) (cm1 : m.h.c ≤ 9223372036854775807) (om1 : m.h.p.c.ok) (om2 : m.ak.c.ok) (om3 : m.gr.ok) (p q : Int) (w : World) (hl : Lens w) (hr : m.right = true) (hc : (¬ p < 0 ∧ ¬ ((encM m).length : Int) ≤ p) ∧ ¬ q < 1 ∧ 255 < q) :
    Calls Tryd.prog 6 #[.agg (msA m), .int .i64 p, .int .i64 q] w fun e w' => e = .returned (.bool true) ∧ Below w.heap.size w w' := by
  have HB := Lib.hid (Below.refl w.heap.size w)
  have LN := Lib.hid hl
  have HMR := Lib.hid hr
  clear hl hr
  obtain ⟨zs, hzs⟩ : ∃ zs, encM m = zs := ⟨_, rfl⟩
  obtain ⟨N, hN⟩ : ∃ N, zs.length = N := ⟨_, rfl⟩
  have HME := Lib.hid hzs
  have HMN := Lib.hid hN
  rw [hzs, hN] at hc
  have d1 : decide (p < 0) = false := by simp; omega
  have d2 : decide ((N : Int) ≤ p) = false := by simp; omega
  have d3 : decide (q < 1) = false := by simp; omega
  have d4 : decide (255 < q) = true := by simp; omega
  clear hzs hN hc
  go_enter Tryd.func6, Tryd.ntmps6
  go_wp2_with (first | (refine big_whole rfl 35 _ rfl gK1 rfl K1.out Tryd.underlying35 rfl (by kernel_rfl) ?_) | (refine big_box rfl 35 _ rfl (msA m) rfl (by kernel_rfl) ?_; intro gK1 wK1 hlK1 nK1 hbK1; replace LN := Lib.hid ((LN.out).keptB hbK1); replace HB := Lib.hid (bstep HB.out hbK1); have K1 := Lib.hid nK1; clear hlK1 nK1 hbK1))
  refine (own6_any m _).mono ?_
  rintro e c1 ⟨rfl, hc1⟩
  replace LN := Lib.hid ((LN.out).keptB hc1)
  replace K1 := Lib.hid ((K1.out).keptB hc1)
  replace HB := Lib.hid (bstep HB.out hc1)
  clear hc1
  go_wp2_with fail
  refine (enc6_yes m _ LN.out fm0 fm1 HMR.out zs HME.out N HMN.out).mono ?_
  rintro e c2 ⟨gX, capX, -, rfl, nBX, hc0, hc1, hc2⟩
  replace LN := Lib.hid ((LN.out).keptB hc2)
  replace K1 := Lib.hid ((K1.out).keptB hc2)
  replace HB := Lib.hid (bstep HB.out hc2)
  have BX := Lib.hid nBX
  clear nBX
  clear hc2
  have CX : Hid (N ≤ capX ∧ capX ≤ maxLen) := ⟨hc0, hc1⟩
  clear hc0 hc1
  go_wp2_with fail
  refine (alive6_any _ LN.out).mono ?_
  rintro e c3 ⟨rfl, hc3⟩
  replace LN := Lib.hid ((LN.out).keptB hc3)
  replace K1 := Lib.hid ((K1.out).keptB hc3)
  replace BX := Lib.hid ((BX.out).keptB hc3)
  replace HB := Lib.hid (bstep HB.out hc3)
  clear hc3
  go_wp2
  go_ret
  exact ⟨rfl, HB.out⟩
set_option maxHeartbeats 4000000 in
theorem turned6_yes (m : Ms) (fm0 : -9223372036854775808 ≤ m.h.f) (fm1 : m.h.f ≤ 9223372036854775807) (cm0 : -9223372036854775808 ≤ m.h.c) (cm1 : m.h.c ≤ 9223372036854775807) (om1 : m.h.p.c.ok) (om2 : m.ak.c.ok) (om3 : m.gr.ok) (k : Nat) (q : Int) (w : World) (hl : Lens w) (hr : m.right = true) (hk : k < (encM m).length) (q0 : 1 ≤ q) (q1 : q ≤ 255) :
    Calls Tryd.prog 6 #[.agg (msA m), .int .i64 (k : Int), .int .i64 q] w fun e w' => e = .returned (.bool true) ∧ Below w.heap.size w w' := by
  have HB := Lib.hid (Below.refl w.heap.size w)
  have LN := Lib.hid hl
  have HLw := Lib.hid hl
  have HMR := Lib.hid hr
  obtain ⟨zs, hzs⟩ : ∃ zs, encM m = zs := ⟨_, rfl⟩
  obtain ⟨N, hN⟩ : ∃ N, zs.length = N := ⟨_, rfl⟩
  rw [hzs, hN] at hk
  have hln := (Hd.right_iff.1 (Ms.right_iff.1 hr).1).1
  have hN2 : (N : Int) = longN m.h.t := by rw [← hN, ← hzs]; exact encM_length hln
  have h44 := (longN_ne hln).2
  have hbz : ∀ z ∈ zs, isByte z := by rw [← hzs]; exact encM_byte hr om1 om2 om3
  have d1 : decide ((k : Int) < 0) = false := by simp
  have d2 : decide ((N : Int) ≤ (k : Int)) = false := by simp; omega
  have d3 : decide (q < 1) = false := by simp; omega
  have d4 : decide (255 < q) = false := by simp; omega
  obtain ⟨z, hz⟩ : ∃ z, zs.getD k 0 = z := ⟨_, rfl⟩
  have hzb : isByte z := by rw [← hz]; exact getD_byte hbz k
  obtain ⟨y, hy⟩ : ∃ y, bits .xor .u8 z q = y := ⟨_, rfl⟩
  have hxy := xor_byte z q hzb (by omega) (by omega)
  rw [hy] at hxy
  have hq8 : IntKind.u8.wrap q = q := by
    simp [IntKind.wrap, IntKind.bits, IntKind.signed]
    try omega
  have hlen : (zs.set k y).length = N := by rw [List.length_set, hN]
  have hbb := set_byte (k := k) hbz hxy.1
  obtain ⟨e0, he0⟩ : ∃ e, faultM (N : Int) (zs.set k y) = e := ⟨_, rfl⟩
  obtain ⟨G, hG⟩ : ∃ G, decM (N : Int) (zs.set k y) = G := ⟨_, rfl⟩
  have C6 : Hid (∀ v g c, N ≤ c → c ≤ maxLen → Lens v → BytesAt v ⟨g, 0, none⟩ (zs.set k y) → Calls Tryd.prog 17 #[.slice (some ⟨g, 0, none⟩) N c] v fun e w' => e = .returned (.tuple #[.agg (msA G), .int .i64 e0]) ∧ Below v.heap.size v w') := fun v g c h1 h2 hv hh => by
    have h := decM_any ⟨g, 0, none⟩ N c _ v hlen (by omega) h1 h2 hbb hh hv
    rw [he0, hG] at h
    exact h
  have HX : Hid ((e0 ≠ 0 ∧ G = zeroM) ∨ (e0 = 0 ∧ eqM G m = false)) := by
    by_cases hf : e0 = 0
    · right
      refine ⟨hf, ?_⟩
      rw [hf] at he0
      have e1 : G = mOf (zs.set k y) := by rw [← hG]; unfold decM; rw [if_pos he0]
      rw [← hlen] at he0
      refine eqM_not (fun h => ?_)
      have h2 := (enc_m hbb he0).2
      rw [← e1, h, hzs] at h2
      have h3 := congrArg (fun l => l.getD k 0) h2
      simp only [List.getD] at h3 hz
      rw [List.getElem?_set_self (by omega)] at h3
      rw [hz] at h3
      exact hxy.2 h3.symm
    · left
      refine ⟨hf, ?_⟩
      rw [← hG]; unfold decM; rw [if_neg (by rw [he0]; exact hf)]
  have HME := Lib.hid hzs
  have HMN := Lib.hid hN
  have HZ := Lib.hid hz
  have hkN : k < N := by omega
  clear hl hr hzs hN hln hN2 h44 hbz hz hzb hxy hlen hbb he0 hG hk
  go_enter Tryd.func6, Tryd.ntmps6
  go_wp2_with (first | (refine big_whole rfl 35 _ rfl gK1 rfl K1.out Tryd.underlying35 rfl (by kernel_rfl) ?_) | (refine big_box rfl 35 _ rfl (msA m) rfl (by kernel_rfl) ?_; intro gK1 wK1 hlK1 nK1 hbK1; replace LN := Lib.hid ((LN.out).keptB hbK1); replace HB := Lib.hid (bstep HB.out hbK1); have K1 := Lib.hid nK1; have LK := Lib.hid (show w.heap.size ≤ gK1 from hlK1); clear hlK1 nK1 hbK1))
  refine (own6_any m _).mono ?_
  rintro e c1 ⟨rfl, hc1⟩
  replace LN := Lib.hid ((LN.out).keptB hc1)
  replace K1 := Lib.hid ((K1.out).keptB hc1)
  replace HB := Lib.hid (bstep HB.out hc1)
  clear hc1
  go_wp2_with fail
  refine (enc6_hold m _ LN.out fm0 fm1 HMR.out zs HME.out N HMN.out).mono ?_
  rintro e c2 ⟨gX, cap, cur, hgX, rfl, hrow, htk, hc0, hc1, hc2, hb2⟩
  have NX := Lib.hid (show gX ≠ gK1 by have := (K1.out).inside; omega)
  have LX := Lib.hid (show w.heap.size ≤ gX from Nat.le_trans (HB.out).size hgX)
  replace LN := Lib.hid ((LN.out).keptB hb2)
  replace K1 := Lib.hid ((K1.out).keptB hb2)
  replace HB := Lib.hid (bstep HB.out hb2)
  have CX : Hid (N ≤ cap ∧ cap ≤ maxLen) := ⟨hc0, hc1⟩
  have hcell : c2.cell? ⟨gX, k, none⟩ = some (.int .u8 z) := by
    have := bytes_take hrow htk HMN.out k (by rw [HMN.out]; exact hkN)
    rw [Addr.add_lit, Nat.zero_add, HZ.out] at this
    exact this
  have hfroz := hrow.open_ k
  have KR := Lib.hid hrow
  have HTK := Lib.hid htk
  clear hgX hb2 hrow htk hc0 hc1 hc2
  go_wp2_with fail
  have KR2 := Lib.hid ((KR.out).put k (.int .u8 y))
  have HB2 := Lib.hid ((HB.out).setCell (p := ⟨gX, k, none⟩) LX.out (.int .u8 y))
  have K12 := Lib.hid ((K1.out).aside (p := ⟨gX, k, none⟩) NX.out (.int .u8 y))
  have LN2 := Lib.hid ((HLw.out).keep HB2.out)
  generalize c2.setCell ⟨gX, k, none⟩ (.int .u8 y) = w9 at *
  have BY : Hid (BytesAt w9 ⟨gX, 0, none⟩ (zs.set k y)) := bytes_take KR2.out (by
    rw [Array.toList_setIfInBounds, List.take_set, HTK.out, List.map_set]) (by rw [List.length_set, HMN.out])
  clear KR KR2 HB K1 LN hcell hfroz
  have HB := HB2
  have K1 := K12
  have LN := LN2
  clear HB2 K12 LN2
  refine ((C6.out) _ _ cap CX.out.1 CX.out.2 LN.out BY.out).mono ?_
  rintro e c3 ⟨rfl, hc3⟩
  replace LN := Lib.hid ((LN.out).keptB hc3)
  replace K1 := Lib.hid ((K1.out).keptB hc3)
  replace HB := Lib.hid (bstep HB.out hc3)
  clear hc3
  rcases HX.out with ⟨he, rfl⟩ | ⟨rfl, hne⟩
  · have de : (e0 == 0) = false := by simpa using he
    have de2 : (e0 != 0) = true := by simpa using he
    have de3 : decide (e0 = 0) = false := by simpa using he
    clear he
    go_upto_region 6 with (first | (refine big_fill rfl 42 _ _ rfl gKN (msA zeroM) rfl rfl KN.out (by kernel_rfl) (by kernel_rfl) (by kernel_rfl) ?_; intro vKN nKN tKN; have hbKN := btouch AKN.out tKN LKN.out; replace LN := Lib.hid ((LN.out).keptB hbKN); replace K1 := Lib.hid ((K1.out).keptB hbKN); replace HB := Lib.hid (bstep HB.out hbKN); replace KN := Lib.hid nKN; clear nKN tKN hbKN AKN LKN) | (refine big_alloc rfl 42 rfl (msA zeroM) (by kernel_rfl) ?_; intro gKN wKN hlKN nKN hbKN; have KN := Lib.hid nKN; have AKN := Lib.hid hbKN; have LKN := Lib.hid hlKN; clear hlKN nKN hbKN))
    refine wp_region_held_drew (S := fun v => Below w.heap.size w v ∧ Lens v ∧ Holds v gK1 35 (msA m) ∧ Holds v gKN 42 (msA zeroM) ∧ True) (by kernel_rfl) ?_ (fun hHeld => ?_)
    · exact ⟨bdrew HB.out, (LN.out).drew, (K1.out).drew, (KN.out).drew, trivial⟩
    clear HB LN K1 KN
    refine wpAnyH_ready (rs := [0]) (by kernel_rfl) (by simp) ?_
    refine AllReadyH.cons (at_list rfl) (fun K hK => ?_) AllReadyH.nil
    go_simp
    refine (alive6_any _ hHeld.2.1).mono ?_
    rintro e v4 ⟨rfl, hv4⟩
    go_wp2_with fail
    refine hK.out _ _ ?_ (fun hHeld2 => ?_)
    · exact ⟨bstep hHeld.1 hv4, hHeld.2.1.keptB hv4, hHeld.2.2.1.keptB hv4, hHeld.2.2.2.1.keptB hv4, trivial⟩
    clear hK K hHeld
    have hHeld := hHeld2
    clear hHeld2 hv4
    try simp only [Act.put, List.setIfInBounds_toArray, List.set_cons_zero, List.set_cons_succ]
    refine wpAnyH_take (i := 1) (v := .bool true) (at_list rfl) (by kernel_rfl) (by kernel_rfl) (by kernel_rfl) (fun _ _ _ h => h) (Or.inl ⟨by rfl, ?_⟩) hHeld ?_
    · intro v hSv
      clear hHeld
      go_simp
    try simp only [Act.put, List.setIfInBounds_toArray, List.set_cons_zero, List.set_cons_succ]
    refine wpAnyH_take (i := 2) (v := .int .i64 e0) (at_list rfl) (by kernel_rfl) (by kernel_rfl) (by kernel_rfl) (fun _ _ _ h => h) (Or.inl ⟨by rfl, ?_⟩) hHeld ?_
    · intro v hSv
      clear hHeld
      go_simp
    try simp only [Act.put, List.setIfInBounds_toArray, List.set_cons_zero, List.set_cons_succ]
    refine wpAnyH_take (i := 3) (v := .bool true) (at_list rfl) (by kernel_rfl) (by kernel_rfl) (by kernel_rfl) (fun _ _ _ h => h) (Or.inl ⟨by rfl, ?_⟩) hHeld ?_
    · intro v hSv
      clear hHeld
      go_simp
    try simp only [Act.put, List.setIfInBounds_toArray, List.set_cons_zero, List.set_cons_succ]
    refine wpAnyH_take (i := 4) (v := .bool true) (at_list rfl) (by kernel_rfl) (by kernel_rfl) (by kernel_rfl) (fun _ _ _ h => h) (Or.inl ⟨by rfl, ?_⟩) hHeld ?_
    · intro v hSv
      clear hHeld
      go_simp
    try simp only [Act.put, List.setIfInBounds_toArray, List.set_cons_zero, List.set_cons_succ]
    refine wpAnyH_take (i := 5) (v := .agg (msA zeroM)) (at_list rfl) (by kernel_rfl) (by kernel_rfl) (by kernel_rfl) (fun _ _ _ h => h) (yields_whole (by rfl) 42 _ rfl gKN rfl (fun v hv => hv.2.2.2.1) Tryd.underlying42 rfl (by kernel_rfl)) hHeld ?_
    try simp only [Act.put, List.setIfInBounds_toArray, List.set_cons_zero, List.set_cons_succ]
    refine wpAnyH_take (i := 6) (v := .agg (msA zeroM)) (at_list rfl) (by kernel_rfl) (by kernel_rfl) (by kernel_rfl) (fun _ _ _ h => h) (yields_build (by rfl) 42 _ rfl (msA zeroM) (by kernel_rfl)) hHeld ?_
    try simp only [Act.put, List.setIfInBounds_toArray, List.set_cons_zero, List.set_cons_succ]
    refine wpAnyH_take (i := 7) (v := .bool true) (at_list rfl) (by kernel_rfl) (by kernel_rfl) (by kernel_rfl) (fun _ _ _ h => h) (yields_cmp (by rfl) .eql 42 _ _ _ rfl (msA zeroM) (msA zeroM) rfl rfl (by kernel_rfl) true (fun v => (eql_msg zeroM zeroM v).trans (by rw [eqM_self]))) hHeld ?_
    try simp only [Act.put, List.setIfInBounds_toArray, List.set_cons_zero, List.set_cons_succ]
    refine wpAnyH_take (i := 8) (v := .bool true) (at_list rfl) (by kernel_rfl) (by kernel_rfl) (by kernel_rfl) (fun _ _ _ h => h) (Or.inl ⟨by rfl, ?_⟩) hHeld ?_
    · intro v hSv
      clear hHeld
      go_simp
    try simp only [Act.put, List.setIfInBounds_toArray, List.set_cons_zero, List.set_cons_succ]
    refine wpAnyH_take (i := 9) (v := .bool true) (at_list rfl) (by kernel_rfl) (by kernel_rfl) (by kernel_rfl) (fun _ _ _ h => h) (Or.inl ⟨by rfl, ?_⟩) hHeld ?_
    · intro v hSv
      clear hHeld
      go_simp
    try simp only [Act.put, List.setIfInBounds_toArray, List.set_cons_zero, List.set_cons_succ]
    refine wpAnyH_take (i := 10) (v := undef) (at_list rfl) (by kernel_rfl) (by kernel_rfl) (by kernel_rfl) (fun _ _ _ h => h) (Or.inr ⟨by rfl, rfl⟩) hHeld ?_
    try simp only [Act.put, List.setIfInBounds_toArray, List.set_cons_zero, List.set_cons_succ]
    refine wpAnyH_take (i := 11) (v := undef) (at_list rfl) (by kernel_rfl) (by kernel_rfl) (by kernel_rfl) (fun _ _ _ h => h) (Or.inr ⟨by rfl, rfl⟩) hHeld ?_
    try simp only [Act.put, List.setIfInBounds_toArray, List.set_cons_zero, List.set_cons_succ]
    refine wpAnyH_take (i := 12) (v := undef) (at_list rfl) (by kernel_rfl) (by kernel_rfl) (by kernel_rfl) (fun _ _ _ h => h) (Or.inr ⟨by rfl, rfl⟩) hHeld ?_
    try simp only [Act.put, List.setIfInBounds_toArray, List.set_cons_zero, List.set_cons_succ]
    refine wpAnyH_take (i := 13) (v := undef) (at_list rfl) (by kernel_rfl) (by kernel_rfl) (by kernel_rfl) (fun _ _ _ h => h) (Or.inr ⟨by rfl, rfl⟩) hHeld ?_
    try simp only [Act.put, List.setIfInBounds_toArray, List.set_cons_zero, List.set_cons_succ]
    refine wpAnyH_take (i := 14) (v := undef) (at_list rfl) (by kernel_rfl) (by kernel_rfl) (by kernel_rfl) (fun _ _ _ h => h) (Or.inr ⟨by rfl, rfl⟩) hHeld ?_
    try simp only [Act.put, List.setIfInBounds_toArray, List.set_cons_zero, List.set_cons_succ]
    refine wpAnyH_take (i := 15) (v := undef) (at_list rfl) (by kernel_rfl) (by kernel_rfl) (by kernel_rfl) (fun _ _ _ h => h) (Or.inr ⟨by rfl, rfl⟩) hHeld ?_
    try simp only [Act.put, List.setIfInBounds_toArray, List.set_cons_zero, List.set_cons_succ]
    refine wpAnyH_take (i := 16) (v := undef) (at_list rfl) (by kernel_rfl) (by kernel_rfl) (by kernel_rfl) (fun _ _ _ h => h) (Or.inr ⟨by rfl, rfl⟩) hHeld ?_
    try simp only [Act.put, List.setIfInBounds_toArray, List.set_cons_zero, List.set_cons_succ]
    refine wpAnyH_take (i := 17) (v := undef) (at_list rfl) (by kernel_rfl) (by kernel_rfl) (by kernel_rfl) (fun _ _ _ h => h) (Or.inr ⟨by rfl, rfl⟩) hHeld ?_
    try simp only [Act.put, List.setIfInBounds_toArray, List.set_cons_zero, List.set_cons_succ]
    refine wpAnyH_take (i := 18) (v := .bool true) (at_list rfl) (by kernel_rfl) (by kernel_rfl) (by kernel_rfl) (fun _ _ _ h => h) (Or.inl ⟨by rfl, ?_⟩) hHeld ?_
    · intro v hSv
      clear hHeld
      go_simp
    try simp only [Act.put, List.setIfInBounds_toArray, List.set_cons_zero, List.set_cons_succ]
    refine wpAnyH_take (i := 19) (v := .bool true) (at_list rfl) (by kernel_rfl) (by kernel_rfl) (by kernel_rfl) (fun _ _ _ h => h) (Or.inl ⟨by rfl, ?_⟩) hHeld ?_
    · intro v hSv
      clear hHeld
      go_simp
    try simp only [Act.put, List.setIfInBounds_toArray, List.set_cons_zero, List.set_cons_succ]
    refine wpAnyH_take (i := 20) (v := .bool true) (at_list rfl) (by kernel_rfl) (by kernel_rfl) (by kernel_rfl) (fun _ _ _ h => h) (Or.inl ⟨by rfl, ?_⟩) hHeld ?_
    · intro v hSv
      clear hHeld
      go_simp
    try simp only [Act.put, List.setIfInBounds_toArray, List.set_cons_zero, List.set_cons_succ]
    refine wpAnyH_done (by kernel_rfl) ?_ _
    have HB := Lib.hid hHeld.1
    have LN := Lib.hid hHeld.2.1
    have K1 := Lib.hid hHeld.2.2.1
    have KN := Lib.hid hHeld.2.2.2.1
    clear hHeld
    go_wp2
    go_ret
    exact ⟨rfl, HB.out⟩
  · have HNE := Lib.hid hne
    clear hne
    go_upto_region 6 with (first | (refine big_fill rfl 42 _ _ rfl gKN (msA G) rfl rfl KN.out (by kernel_rfl) (by kernel_rfl) (by kernel_rfl) ?_; intro vKN nKN tKN; have hbKN := btouch AKN.out tKN LKN.out; replace LN := Lib.hid ((LN.out).keptB hbKN); replace K1 := Lib.hid ((K1.out).keptB hbKN); replace HB := Lib.hid (bstep HB.out hbKN); replace KN := Lib.hid nKN; clear nKN tKN hbKN AKN LKN) | (refine big_alloc rfl 42 rfl (msA zeroM) (by kernel_rfl) ?_; intro gKN wKN hlKN nKN hbKN; have KN := Lib.hid nKN; have AKN := Lib.hid hbKN; have LKN := Lib.hid hlKN; clear hlKN nKN hbKN))
    refine wp_region_held_drew (S := fun v => Below w.heap.size w v ∧ Lens v ∧ Holds v gK1 35 (msA m) ∧ Holds v gKN 42 (msA G) ∧ True) (by kernel_rfl) ?_ (fun hHeld => ?_)
    · exact ⟨bdrew HB.out, (LN.out).drew, (K1.out).drew, (KN.out).drew, trivial⟩
    clear HB LN K1 KN
    refine wpAnyH_ready (rs := [0]) (by kernel_rfl) (by simp) ?_
    refine AllReadyH.cons (at_list rfl) (fun K hK => ?_) AllReadyH.nil
    go_simp
    refine (alive6_any _ hHeld.2.1).mono ?_
    rintro e v4 ⟨rfl, hv4⟩
    go_wp2_with fail
    refine hK.out _ _ ?_ (fun hHeld2 => ?_)
    · exact ⟨bstep hHeld.1 hv4, hHeld.2.1.keptB hv4, hHeld.2.2.1.keptB hv4, hHeld.2.2.2.1.keptB hv4, trivial⟩
    clear hK K hHeld
    have hHeld := hHeld2
    clear hHeld2 hv4
    try simp only [Act.put, List.setIfInBounds_toArray, List.set_cons_zero, List.set_cons_succ]
    refine wpAnyH_take (i := 1) (v := .bool true) (at_list rfl) (by kernel_rfl) (by kernel_rfl) (by kernel_rfl) (fun _ _ _ h => h) (Or.inl ⟨by rfl, ?_⟩) hHeld ?_
    · intro v hSv
      clear hHeld
      go_simp
    try simp only [Act.put, List.setIfInBounds_toArray, List.set_cons_zero, List.set_cons_succ]
    refine wpAnyH_take (i := 2) (v := .int .i64 0) (at_list rfl) (by kernel_rfl) (by kernel_rfl) (by kernel_rfl) (fun _ _ _ h => h) (Or.inl ⟨by rfl, ?_⟩) hHeld ?_
    · intro v hSv
      clear hHeld
      go_simp
    try simp only [Act.put, List.setIfInBounds_toArray, List.set_cons_zero, List.set_cons_succ]
    refine wpAnyH_take (i := 3) (v := .bool false) (at_list rfl) (by kernel_rfl) (by kernel_rfl) (by kernel_rfl) (fun _ _ _ h => h) (Or.inl ⟨by rfl, ?_⟩) hHeld ?_
    · intro v hSv
      clear hHeld
      go_simp
    try simp only [Act.put, List.setIfInBounds_toArray, List.set_cons_zero, List.set_cons_succ]
    refine wpAnyH_take (i := 4) (v := .bool false) (at_list rfl) (by kernel_rfl) (by kernel_rfl) (by kernel_rfl) (fun _ _ _ h => h) (Or.inl ⟨by rfl, ?_⟩) hHeld ?_
    · intro v hSv
      clear hHeld
      go_simp
    try simp only [Act.put, List.setIfInBounds_toArray, List.set_cons_zero, List.set_cons_succ]
    refine wpAnyH_take (i := 5) (v := undef) (at_list rfl) (by kernel_rfl) (by kernel_rfl) (by kernel_rfl) (fun _ _ _ h => h) (Or.inr ⟨by rfl, rfl⟩) hHeld ?_
    try simp only [Act.put, List.setIfInBounds_toArray, List.set_cons_zero, List.set_cons_succ]
    refine wpAnyH_take (i := 6) (v := undef) (at_list rfl) (by kernel_rfl) (by kernel_rfl) (by kernel_rfl) (fun _ _ _ h => h) (Or.inr ⟨by rfl, rfl⟩) hHeld ?_
    try simp only [Act.put, List.setIfInBounds_toArray, List.set_cons_zero, List.set_cons_succ]
    refine wpAnyH_take (i := 7) (v := undef) (at_list rfl) (by kernel_rfl) (by kernel_rfl) (by kernel_rfl) (fun _ _ _ h => h) (Or.inr ⟨by rfl, rfl⟩) hHeld ?_
    try simp only [Act.put, List.setIfInBounds_toArray, List.set_cons_zero, List.set_cons_succ]
    refine wpAnyH_take (i := 8) (v := .bool false) (at_list rfl) (by kernel_rfl) (by kernel_rfl) (by kernel_rfl) (fun _ _ _ h => h) (Or.inl ⟨by rfl, ?_⟩) hHeld ?_
    · intro v hSv
      clear hHeld
      go_simp
    try simp only [Act.put, List.setIfInBounds_toArray, List.set_cons_zero, List.set_cons_succ]
    refine wpAnyH_take (i := 9) (v := .bool false) (at_list rfl) (by kernel_rfl) (by kernel_rfl) (by kernel_rfl) (fun _ _ _ h => h) (Or.inl ⟨by rfl, ?_⟩) hHeld ?_
    · intro v hSv
      clear hHeld
      go_simp
    try simp only [Act.put, List.setIfInBounds_toArray, List.set_cons_zero, List.set_cons_succ]
    refine wpAnyH_take (i := 10) (v := .int .i64 0) (at_list rfl) (by kernel_rfl) (by kernel_rfl) (by kernel_rfl) (fun _ _ _ h => h) (Or.inl ⟨by rfl, ?_⟩) hHeld ?_
    · intro v hSv
      clear hHeld
      go_simp
    try simp only [Act.put, List.setIfInBounds_toArray, List.set_cons_zero, List.set_cons_succ]
    refine wpAnyH_take (i := 11) (v := .bool true) (at_list rfl) (by kernel_rfl) (by kernel_rfl) (by kernel_rfl) (fun _ _ _ h => h) (Or.inl ⟨by rfl, ?_⟩) hHeld ?_
    · intro v hSv
      clear hHeld
      go_simp
    try simp only [Act.put, List.setIfInBounds_toArray, List.set_cons_zero, List.set_cons_succ]
    refine wpAnyH_take (i := 12) (v := .bool true) (at_list rfl) (by kernel_rfl) (by kernel_rfl) (by kernel_rfl) (fun _ _ _ h => h) (Or.inl ⟨by rfl, ?_⟩) hHeld ?_
    · intro v hSv
      clear hHeld
      go_simp
    try simp only [Act.put, List.setIfInBounds_toArray, List.set_cons_zero, List.set_cons_succ]
    refine wpAnyH_take (i := 13) (v := .agg (msA G)) (at_list rfl) (by kernel_rfl) (by kernel_rfl) (by kernel_rfl) (fun _ _ _ h => h) (yields_whole (by rfl) 42 _ rfl gKN rfl (fun v hv => hv.2.2.2.1) Tryd.underlying42 rfl (by kernel_rfl)) hHeld ?_
    try simp only [Act.put, List.setIfInBounds_toArray, List.set_cons_zero, List.set_cons_succ]
    refine wpAnyH_take (i := 15) (v := .agg (msA m)) (at_list rfl) (by kernel_rfl) (by kernel_rfl) (by kernel_rfl) (fun _ _ _ h => h) (yields_whole (by rfl) 35 _ rfl gK1 rfl (fun v hv => hv.2.2.1) Tryd.underlying35 rfl (by kernel_rfl)) hHeld ?_
    try simp only [Act.put, List.setIfInBounds_toArray, List.set_cons_zero, List.set_cons_succ]
    refine wpAnyH_ready (rs := [14]) (by kernel_rfl) (by simp) ?_
    refine AllReadyH.cons (at_list rfl) (fun K hK => ?_) AllReadyH.nil
    go_simp
    refine (plain6_any G _).mono ?_
    rintro e v5 ⟨rfl, hv5⟩
    go_wp2_with fail
    refine hK.out _ _ ?_ (fun hHeld2 => ?_)
    · exact ⟨bstep hHeld.1 hv5, hHeld.2.1.keptB hv5, hHeld.2.2.1.keptB hv5, hHeld.2.2.2.1.keptB hv5, trivial⟩
    clear hK K hHeld
    have hHeld := hHeld2
    clear hHeld2 hv5
    try simp only [Act.put, List.setIfInBounds_toArray, List.set_cons_zero, List.set_cons_succ]
    refine wpAnyH_take (i := 16) (v := .bool true) (at_list rfl) (by kernel_rfl) (by kernel_rfl) (by kernel_rfl) (fun _ _ _ h => h) (yields_cmp (by rfl) .neq 35 _ _ _ rfl (msA G) (msA m) rfl rfl (by kernel_rfl) true (fun v => (neq_rmsg G m v).trans (by rw [HNE.out]; rfl))) hHeld ?_
    try simp only [Act.put, List.setIfInBounds_toArray, List.set_cons_zero, List.set_cons_succ]
    refine wpAnyH_take (i := 17) (v := .bool true) (at_list rfl) (by kernel_rfl) (by kernel_rfl) (by kernel_rfl) (fun _ _ _ h => h) (Or.inl ⟨by rfl, ?_⟩) hHeld ?_
    · intro v hSv
      clear hHeld
      go_simp
    try simp only [Act.put, List.setIfInBounds_toArray, List.set_cons_zero, List.set_cons_succ]
    refine wpAnyH_take (i := 18) (v := .bool true) (at_list rfl) (by kernel_rfl) (by kernel_rfl) (by kernel_rfl) (fun _ _ _ h => h) (Or.inl ⟨by rfl, ?_⟩) hHeld ?_
    · intro v hSv
      clear hHeld
      go_simp
    try simp only [Act.put, List.setIfInBounds_toArray, List.set_cons_zero, List.set_cons_succ]
    refine wpAnyH_take (i := 19) (v := .bool true) (at_list rfl) (by kernel_rfl) (by kernel_rfl) (by kernel_rfl) (fun _ _ _ h => h) (Or.inl ⟨by rfl, ?_⟩) hHeld ?_
    · intro v hSv
      clear hHeld
      go_simp
    try simp only [Act.put, List.setIfInBounds_toArray, List.set_cons_zero, List.set_cons_succ]
    refine wpAnyH_take (i := 20) (v := .bool true) (at_list rfl) (by kernel_rfl) (by kernel_rfl) (by kernel_rfl) (fun _ _ _ h => h) (Or.inl ⟨by rfl, ?_⟩) hHeld ?_
    · intro v hSv
      clear hHeld
      go_simp
    try simp only [Act.put, List.setIfInBounds_toArray, List.set_cons_zero, List.set_cons_succ]
    refine wpAnyH_done (by kernel_rfl) ?_ _
    have HB := Lib.hid hHeld.1
    have LN := Lib.hid hHeld.2.1
    have K1 := Lib.hid hHeld.2.2.1
    have KN := Lib.hid hHeld.2.2.2.1
    clear hHeld
    go_wp2
    go_ret
    exact ⟨rfl, HB.out⟩
theorem turned6_walk (m : Ms) (fm0 : -9223372036854775808 ≤ m.h.f) (fm1 : m.h.f ≤ 9223372036854775807) (cm0 : -9223372036854775808 ≤ m.h.c) (cm1 : m.h.c ≤ 9223372036854775807) (om1 : m.h.p.c.ok) (om2 : m.ak.c.ok) (om3 : m.gr.ok) (p q : Int) (w : World) (hl : Lens w) :
    Calls Tryd.prog 6 #[.agg (msA m), .int .i64 p, .int .i64 q] w fun e w' => e = .returned (.bool true) ∧ Below w.heap.size w w' := by
  cases hr : m.right
  · exact turned6_no m fm0 fm1 cm0 cm1 om1 om2 om3 p q w hl hr
  · by_cases c0 : p < 0
    · exact turned6_d0 m fm0 fm1 cm0 cm1 om1 om2 om3 p q w hl hr c0
    · by_cases c1 : ((encM m).length : Int) ≤ p
      · exact turned6_d1 m fm0 fm1 cm0 cm1 om1 om2 om3 p q w hl hr ⟨c0, c1⟩
      · by_cases c2 : q < 1
        · exact turned6_d2 m fm0 fm1 cm0 cm1 om1 om2 om3 p q w hl hr ⟨⟨c0, c1⟩, c2⟩
        · by_cases c3 : 255 < q
          · exact turned6_d3 m fm0 fm1 cm0 cm1 om1 om2 om3 p q w hl hr ⟨⟨c0, c1⟩, c2, c3⟩
          · obtain ⟨k, rfl⟩ := Int.eq_ofNat_of_zero_le (show 0 ≤ p by omega)
            exact turned6_yes m fm0 fm1 cm0 cm1 om1 om2 om3 k q w hl hr (by omega) (by omega) (by omega)

end Go.Proofs.YtnmpfemmeblnlaaDoor
