/- The walk over FrameCut. -/
import Derived.Test.YtnmpfemmeblnlaaDoorFrameAlive
namespace Go.Proofs.YtnmpfemmeblnlaaDoor
set_option maxRecDepth 100000
open Go.RowKit
set_option linter.unusedVariables false

theorem appendW {w : World} {ops : Array Oper} {rest : List Oper} {op : Oper} {a : Act} {Q : Exit → Act → World → Prop} (hw : Region.wanted op (yielded ops a.tmps) = true) (s x : Operand)
    (ho : op.op = .call { callee := .builtin .append, args := #[s, x], argTypes := #[36, 36] }) (base : Nat) {v : Value} {n : Nat} {xs : List Int} (hs : a.eval s = v) (hown : w.ownsRow base 5 1 v n (xs.map (Value.int .u8)))
    (ad : Addr) (m c : Nat) (ys : List Int) (hx : a.eval x = .slice (some ad) m c) (hy : BytesAt w ad ys) (hl : ys.length = m) (hm : 0 < m) (h63 : n + m ≤ 140737488355328) (hbase : base ≤ w.heap.size) (nm : Nat) (hnm : n + m = nm)
    (h : ∀ g cap w', w'.ownsRow base 5 1 (.slice (some ⟨g, 0, none⟩) nm cap) nm ((xs ++ ys).map (Value.int .u8)) → Below base w w' → wpList Tryd.prog ops Q rest (a.put op.dst (.slice (some ⟨g, 0, none⟩) nm cap)) w') :
    wpList Tryd.prog ops Q (op :: rest) a w := by
  obtain ⟨i0, hi0, hz0, hz1, hz2⟩ := info_parts info_byte
  subst hnm
  refine BigFrame.wpList_want hw fun K hK => wp_append_lies w s x _ ho base 5 i0 _ 1 1 Tryd.underlying36 hi0 hz0 hz1 hz2 rfl (by omega) v n _ hs hown ad m c (ys.map (Value.int .u8)) hx (by simp [hl]) (news_bytes hy) (fun u hu => by
    obtain ⟨z, _, rfl⟩ := List.mem_map.1 hu; rfl) hm (by unfold maxLen; omega) (by omega) hbase _ rfl ?_
  intro g cap w' hown' hgr hat hlt
  refine hK _ _ (h g cap w' (by rw [List.map_append]; exact hown') ?_)
  refine (Below.refl base w).grown hgr hbase ?_
  intro k hk
  exact (hown.lt k hk).1
theorem big_none {P : Program} {ops : Array Oper} {rest : List Oper} {op : Oper} {a : Act} {w : World} {Q : Exit → Act → World → Prop} (hw : Region.wanted op (yielded ops a.tmps) = true) (t e : TypeId) (ho : op.op = .buildSlice t 0 #[]) (hu : P.underlying t = some (.slice e)) (hi : (P.info? e).isSome = true) (he : e = 5)
    (h : ∀ g w1, w.heap.size ≤ g → Holds w1 g 5 (byteCells []) → Below w.heap.size w w1 → wpList P ops Q rest (a.put op.dst (.slice (some ⟨g, 0, none⟩) 0 0)) w1) : wpList P ops Q (op :: rest) a w :=
  BigFrame.wpList_want hw fun K hK => by
    obtain ⟨i, hq⟩ := Option.isSome_iff_exists.1 hi
    have hr : (Instr.buildSlice t 0 #[]).run P w = .ok (.slice (some ⟨w.heap.size, 0, none⟩) 0 0) (w.alloc (.cells #[] e)) := by
      simp [Instr.buildSlice, run_underlying hu, sizeOf, typeInfo, hq, Instr.fill, newRow]
      rw [Array.eq_empty_of_size_eq_zero (xs := Array.map (fun x => (default : Value)) (Array.range 0)) (by simp)]
    unfold Oper.wp execOp
    simp only [ho, Array.map_empty, Sem.run_bind, hr, Sem.run_pure, Result.andThen_ok]
    refine hK _ _ (h _ _ (Nat.le_refl _) ?_ (bnew w _))
    subst he
    exact Holds.fresh w 5 #[] rfl
theorem slice_k {N C : Nat} (a : Addr) (k : Nat) (hk : k ≤ N) (hC : N ≤ C) (h0 : 0 < C) (w : World) : (Instr.sliceAt 36 (.slice (some a) N C) none (some (.int .i64 (k : Int))) none).run Tryd.prog w = .ok (.slice (some a) k C) w := by
  rw [run_sliceAt_slice _ _ _ _ _ _ (by kernel_rfl), run_slice_h w _ _ _ _ (by kernel_rfl) .i64 (k : Int) (by omega) (by omega)]
  show Result.ok (sliced _ _ _ _ _) w = _
  unfold sliced
  rw [if_neg (by omega)]
  rfl
theorem take_bytes {w : World} {a : Addr} {zs : List Int} (h : BytesAt w a zs) (n : Nat) : BytesAt w a (zs.take n) := by
  intro i hi
  rw [List.length_take] at hi
  rw [h i (by omega)]
  simp only [List.getD]
  rw [List.getElem?_take, if_pos (by omega)]
/-- a message that is cut, or has more behind it: its length alone is amiss -/
theorem cut_fault {m : Ms} (hr : m.right = true) (c0 : -9223372036854775808 ≤ m.h.c) (c1 : m.h.c ≤ 9223372036854775807) (r : List Int) (L : Int) (hL : 34 ≤ L) (hne : L ≠ longN m.h.t) : faultM L (encL m.h ++ r) = 53 ∧ decM L (encL m.h ++ r) = zeroM := by
  have h := fault_enc m.h r L hL (Ms.right_iff.1 hr).1 c0 c1
  rw [if_neg hne] at h
  have e : faultM L (encL m.h ++ r) = 53 := by unfold faultM; rw [h]; rfl
  refine ⟨e, ?_⟩
  unfold decM
  rw [if_neg (by rw [e]; decide)]
theorem dec_cut {m : Ms} (hr : m.right = true) (c0 : -9223372036854775808 ≤ m.h.c) (c1 : m.h.c ≤ 9223372036854775807) (hby : ∀ z ∈ encM m, isByte z) (w : World) (hl : Lens w) (g C k : Nat) (h34 : 34 ≤ k) (hk : k < (encM m).length) (hC : (encM m).length ≤ C) (hM : C ≤ maxLen) (hb : BytesAt w ⟨g, 0, none⟩ (encM m)) :
    Calls Tryd.prog 17 #[.slice (some ⟨g, 0, none⟩) k C] w fun e w' => e = .returned (.tuple #[.agg (msA zeroM), .int .i64 53]) ∧ Below w.heap.size w w' := by
  have hln := (Hd.right_iff.1 (Ms.right_iff.1 hr).1).1
  have hlen := encM_length hln
  have e : (encM m).take k = encL m.h ++ ((beL 6 m.ts ++ beL 4 m.tn) ++ tailL m).take (k - 34) := by
    unfold encM
    rw [List.take_append, encL_length, List.take_of_length_le (by rw [encL_length]; omega)]
  have h := decM_any ⟨g, 0, none⟩ k C ((encM m).take k) w (by rw [List.length_take]; omega) h34 (by omega) hM (fun z hz => hby z (List.mem_of_mem_take hz)) (take_bytes hb k) hl
  have hf := cut_fault hr c0 c1 (((beL 6 m.ts ++ beL 4 m.tn) ++ tailL m).take (k - 34)) (k : Int) (by omega) (by omega)
  rw [← e] at hf
  rw [hf.1, hf.2] at h
  exact h
theorem dec_more {m : Ms} (hr : m.right = true) (c0 : -9223372036854775808 ≤ m.h.c) (c1 : m.h.c ≤ 9223372036854775807) (hby : ∀ z ∈ encM m, isByte z) (ys : List Int) (hys : ∀ z ∈ ys, isByte z) (w : World) (hl : Lens w) (g C n : Nat) (hn : (encM m).length + ys.length = n) (hy : 0 < ys.length) (hC : n ≤ C) (hM : C ≤ maxLen) (hb : BytesAt w ⟨g, 0, none⟩ (encM m ++ ys)) :
    Calls Tryd.prog 17 #[.slice (some ⟨g, 0, none⟩) n C] w fun e w' => e = .returned (.tuple #[.agg (msA zeroM), .int .i64 53]) ∧ Below w.heap.size w w' := by
  have hln := (Hd.right_iff.1 (Ms.right_iff.1 hr).1).1
  have hlen := encM_length hln
  have h44 := (longN_ne hln).2
  have e : encM m ++ ys = encL m.h ++ (((beL 6 m.ts ++ beL 4 m.tn) ++ tailL m) ++ ys) := by
    unfold encM
    rw [List.append_assoc]
  have h := decM_any ⟨g, 0, none⟩ n C (encM m ++ ys) w (by rw [List.length_append]; exact hn) (by omega) hC hM (app_byte hby hys) hb hl
  have hf := cut_fault hr c0 c1 (((beL 6 m.ts ++ beL 4 m.tn) ++ tailL m) ++ ys) (n : Int) (by omega) (by omega)
  rw [← e] at hf
  rw [hf.1, hf.2] at h
  exact h
set_option maxHeartbeats 4000000 in
theorem cut6_no (m : Ms) (fm0 : -9223372036854775808 ≤ m.h.f) (fm1 : m.h.f ≤ 9223372036854775807) (cm0 : -9223372036854775808 ≤ m.h.c) (cm1 : m.h.c ≤ 9223372036854775807) (om1 : m.h.p.c.ok) (om2 : m.ak.c.ok) (om3 : m.gr.ok) (p : Int) (A : Option Addr) (L C : Nat) (w : World) (hl : Lens w) (hr : m.right = false) :
    Calls Tryd.prog 7 #[.agg (msA m), .int .i64 p, .slice A L C] w fun e w' => e = .returned (.bool true) ∧ Below w.heap.size w w' := by
  have HB := Lib.hid (Below.refl w.heap.size w)
  have LN := Lib.hid hl
  have HMR := Lib.hid hr
  clear hl hr
  go_enter Tryd.func7, Tryd.ntmps7
  go_wp2_with (first | (refine big_whole rfl 35 _ rfl gK1 rfl K1.out Tryd.underlying35 rfl (by kernel_rfl) ?_) | (refine big_box rfl 35 _ rfl (msA m) rfl (by kernel_rfl) ?_; intro gK1 wK1 hlK1 nK1 hbK1; replace LN := Lib.hid ((LN.out).keptB hbK1); replace HB := Lib.hid (bstep HB.out hbK1); have K1 := Lib.hid nK1; clear hlK1 nK1 hbK1))
  refine (own6_any m _).mono ?_
  rintro e c1 ⟨rfl, hc1⟩
  replace LN := Lib.hid ((LN.out).keptB hc1)
  replace K1 := Lib.hid ((K1.out).keptB hc1)
  replace HB := Lib.hid (bstep HB.out hc1)
  clear hc1
  go_wp2_with fail
  refine (encM_no m _ LN.out fm0 fm1 HMR.out).mono ?_
  rintro e c2 ⟨rfl, hc2⟩
  replace LN := Lib.hid ((LN.out).keptB hc2)
  replace K1 := Lib.hid ((K1.out).keptB hc2)
  replace HB := Lib.hid (bstep HB.out hc2)
  clear hc2
  go_wp2_with fail
  refine (alive6_any _ LN.out).mono ?_
  rintro e c3 ⟨rfl, hc3⟩
  replace LN := Lib.hid ((LN.out).keptB hc3)
  replace K1 := Lib.hid ((K1.out).keptB hc3)
  replace HB := Lib.hid (bstep HB.out hc3)
  clear hc3
  go_wp2
  go_ret
  exact ⟨rfl, HB.out⟩
set_option maxHeartbeats 4000000 in
theorem cut6_d0 (m : Ms) (fm0 : -9223372036854775808 ≤ m.h.f) (fm1 : m.h.f ≤ 9223372036854775807) (cm0 : -9223372036854775808 ≤ m.h.c) (cm1 : m.h.c ≤ 9223372036854775807) (om1 : m.h.p.c.ok) (om2 : m.ak.c.ok) (om3 : m.gr.ok) (p : Int) (A : Option Addr) (L C : Nat) (w : World) (hl : Lens w) (hr : m.right = true) (hc : p < 0) :
    Calls Tryd.prog 7 #[.agg (msA m), .int .i64 p, .slice A L C] w fun e w' => e = .returned (.bool true) ∧ Below w.heap.size w w' := by
  have HB := Lib.hid (Below.refl w.heap.size w)
  have LN := Lib.hid hl
  have HMR := Lib.hid hr
  clear hl hr
  obtain ⟨zs, hzs⟩ : ∃ zs, encM m = zs := ⟨_, rfl⟩
  obtain ⟨N, hN⟩ : ∃ N, zs.length = N := ⟨_, rfl⟩
  have HME := Lib.hid hzs
  have HMN := Lib.hid hN
  have d1 : decide (p < 0) = true := by simp; omega
  clear hzs hN hc
  go_enter Tryd.func7, Tryd.ntmps7
  go_wp2_with (first | (refine big_whole rfl 35 _ rfl gK1 rfl K1.out Tryd.underlying35 rfl (by kernel_rfl) ?_) | (refine big_box rfl 35 _ rfl (msA m) rfl (by kernel_rfl) ?_; intro gK1 wK1 hlK1 nK1 hbK1; replace LN := Lib.hid ((LN.out).keptB hbK1); replace HB := Lib.hid (bstep HB.out hbK1); have K1 := Lib.hid nK1; clear hlK1 nK1 hbK1))
  refine (own6_any m _).mono ?_
  rintro e c1 ⟨rfl, hc1⟩
  replace LN := Lib.hid ((LN.out).keptB hc1)
  replace K1 := Lib.hid ((K1.out).keptB hc1)
  replace HB := Lib.hid (bstep HB.out hc1)
  clear hc1
  go_wp2_with fail
  refine (enc6_yes m _ LN.out fm0 fm1 HMR.out zs HME.out N HMN.out).mono ?_
  rintro e c2 ⟨gX, capX, -, rfl, nBX, hc0, hc1, hc2⟩
  replace LN := Lib.hid ((LN.out).keptB hc2)
  replace K1 := Lib.hid ((K1.out).keptB hc2)
  replace HB := Lib.hid (bstep HB.out hc2)
  have BX := Lib.hid nBX
  clear nBX
  clear hc2
  have CX : Hid (N ≤ capX ∧ capX ≤ maxLen) := ⟨hc0, hc1⟩
  clear hc0 hc1
  go_wp2_with fail
  refine (alive6_any _ LN.out).mono ?_
  rintro e c3 ⟨rfl, hc3⟩
  replace LN := Lib.hid ((LN.out).keptB hc3)
  replace K1 := Lib.hid ((K1.out).keptB hc3)
  replace BX := Lib.hid ((BX.out).keptB hc3)
  replace HB := Lib.hid (bstep HB.out hc3)
  clear hc3
  go_wp2
  go_ret
  exact ⟨rfl, HB.out⟩
set_option maxHeartbeats 4000000 in
theorem cut6_d1 (m : Ms) (fm0 : -9223372036854775808 ≤ m.h.f) (fm1 : m.h.f ≤ 9223372036854775807) (cm0 : -9223372036854775808 ≤ m.h.c) (cm1 : m.h.c ≤ 9223372036854775807) (om1 : m.h.p.c.ok) (om2 : m.ak.c.ok) (om3 : m.gr.ok) (p : Int) (A : Option Addr) (L C : Nat) (w : World) (hl : Lens w) (hr : m.right = true) (hc : ¬ p < 0 ∧ ((encM m).length : Int) ≤ p) :
    Calls Tryd.prog 7 #[.agg (msA m), .int .i64 p, .slice A L C] w fun e w' => e = .returned (.bool true) ∧ Below w.heap.size w w' := by
  have HB := Lib.hid (Below.refl w.heap.size w)
  have LN := Lib.hid hl
  have HMR := Lib.hid hr
  clear hl hr
  obtain ⟨zs, hzs⟩ : ∃ zs, encM m = zs := ⟨_, rfl⟩
  obtain ⟨N, hN⟩ : ∃ N, zs.length = N := ⟨_, rfl⟩
  have HME := Lib.hid hzs
  have HMN := Lib.hid hN
  rw [hzs, hN] at hc
  have d1 : decide (p < 0) = false := by simp; omega
  have d2 : decide ((N : Int) ≤ p) = true := by simp; omega
  clear hzs hN hc
  go_enter Tryd.func7, Tryd.ntmps7
  go_wp2_with (first | (refine big_whole rfl 35 _ rfl gK1 rfl K1.out Tryd.underlying35 rfl (by kernel_rfl) ?_) | (refine big_box rfl 35 _ rfl (msA m) rfl (by kernel_rfl) ?_; intro gK1 wK1 hlK1 nK1 hbK1; replace LN := Lib.hid ((LN.out).keptB hbK1); replace HB := Lib.hid (bstep HB.out hbK1); have K1 := Lib.hid nK1; clear hlK1 nK1 hbK1))
  refine (own6_any m _).mono ?_
  rintro e c1 ⟨rfl, hc1⟩
  replace LN := Lib.hid ((LN.out).keptB hc1)
  replace K1 := Lib.hid ((K1.out).keptB hc1)
  replace HB := Lib.hid (bstep HB.out hc1)
  clear hc1
  go_wp2_with fail
  refine (enc6_yes m _ LN.out fm0 fm1 HMR.out zs HME.out N HMN.out).mono ?_
  rintro e c2 ⟨gX, capX, -, rfl, nBX, hc0, hc1, hc2⟩
  replace LN := Lib.hid ((LN.out).keptB hc2)
  replace K1 := Lib.hid ((K1.out).keptB hc2)
  replace HB := Lib.hid (bstep HB.out hc2)
  have BX := Lib.hid nBX
  clear nBX
  clear hc2
  have CX : Hid (N ≤ capX ∧ capX ≤ maxLen) := ⟨hc0, hc1⟩
  clear hc0 hc1
  go_wp2_with fail
  refine (alive6_any _ LN.out).mono ?_
  rintro e c3 ⟨rfl, hc3⟩
  replace LN := Lib.hid ((LN.out).keptB hc3)
  replace K1 := Lib.hid ((K1.out).keptB hc3)
  replace BX := Lib.hid ((BX.out).keptB hc3)
  replace HB := Lib.hid (bstep HB.out hc3)
  clear hc3
  go_wp2
  go_ret
  exact ⟨rfl, HB.out⟩
set_option maxHeartbeats 4000000 in
theorem cut6_d2 (m : Ms) (fm0 : -9223372036854775808 ≤ m.h.f) (fm1 : m.h.f ≤ 9223372036854775807) (cm0 : -9223372036854775808 ≤ m.h.c) (cm1 : m.h.c ≤ 9223372036854775807) (om1 : m.h.p.c.ok) (om2 : m.ak.c.ok) (om3 : m.gr.ok) (p : Int) (A : Option Addr) (L C : Nat) (w : World) (hl : Lens w) (hr : m.right = true) (hc : (¬ p < 0 ∧ ¬ ((encM m).length : Int) ≤ p) ∧ (L : Int) < 1) :
    Calls Tryd.prog 7 #[.agg (msA m), .int .i64 p, .slice A L C] w fun e w' => e = .returned (.bool true) ∧ Below w.heap.size w w' := by
  have HB := Lib.hid (Below.refl w.heap.size w)
  have LN := Lib.hid hl
  have HMR := Lib.hid hr
  clear hl hr
  obtain ⟨zs, hzs⟩ : ∃ zs, encM m = zs := ⟨_, rfl⟩
  obtain ⟨N, hN⟩ : ∃ N, zs.length = N := ⟨_, rfl⟩
  have HME := Lib.hid hzs
  have HMN := Lib.hid hN
  rw [hzs, hN] at hc
  have d1 : decide (p < 0) = false := by simp; omega
  have d2 : decide ((N : Int) ≤ p) = false := by simp; omega
  have d3 : decide ((L : Int) < 1) = true := by simp; omega
  clear hzs hN hc
  go_enter Tryd.func7, Tryd.ntmps7
  go_wp2_with (first | (refine big_whole rfl 35 _ rfl gK1 rfl K1.out Tryd.underlying35 rfl (by kernel_rfl) ?_) | (refine big_box rfl 35 _ rfl (msA m) rfl (by kernel_rfl) ?_; intro gK1 wK1 hlK1 nK1 hbK1; replace LN := Lib.hid ((LN.out).keptB hbK1); replace HB := Lib.hid (bstep HB.out hbK1); have K1 := Lib.hid nK1; clear hlK1 nK1 hbK1))
  refine (own6_any m _).mono ?_
  rintro e c1 ⟨rfl, hc1⟩
  replace LN := Lib.hid ((LN.out).keptB hc1)
  replace K1 := Lib.hid ((K1.out).keptB hc1)
  replace HB := Lib.hid (bstep HB.out hc1)
  clear hc1
  go_wp2_with fail
  refine (enc6_yes m _ LN.out fm0 fm1 HMR.out zs HME.out N HMN.out).mono ?_
  rintro e c2 ⟨gX, capX, -, rfl, nBX, hc0, hc1, hc2⟩
  replace LN := Lib.hid ((LN.out).keptB hc2)
  replace K1 := Lib.hid ((K1.out).keptB hc2)
  replace HB := Lib.hid (bstep HB.out hc2)
  have BX := Lib.hid nBX
  clear nBX
  clear hc2
  have CX : Hid (N ≤ capX ∧ capX ≤ maxLen) := ⟨hc0, hc1⟩
  clear hc0 hc1
  go_wp2_with fail
  refine (alive6_any _ LN.out).mono ?_
  rintro e c3 ⟨rfl, hc3⟩
  replace LN := Lib.hid ((LN.out).keptB hc3)
  replace K1 := Lib.hid ((K1.out).keptB hc3)
  replace BX := Lib.hid ((BX.out).keptB hc3)
  replace HB := Lib.hid (bstep HB.out hc3)
  clear hc3
  go_wp2
  go_ret
  exact ⟨rfl, HB.out⟩
set_option maxHeartbeats 4000000 in
theorem cut6_s (m : Ms) (fm0 : -9223372036854775808 ≤ m.h.f) (fm1 : m.h.f ≤ 9223372036854775807) (cm0 : -9223372036854775808 ≤ m.h.c) (cm1 : m.h.c ≤ 9223372036854775807) (om1 : m.h.p.c.ok) (om2 : m.ak.c.ok) (om3 : m.gr.ok) (k : Nat) (a2 : Addr) (L C : Nat) (ys : List Int) (w : World) (hl : Lens w) (hr : m.right = true) (hk : k < (encM m).length) (hs : k < 34) (hL : 1 ≤ L) (hLb : L ≤ 140737488351232) (hy : BytesAt w a2 ys) (hyl : ys.length = L) (hyb : ∀ z ∈ ys, isByte z) :
    Calls Tryd.prog 7 #[.agg (msA m), .int .i64 (k : Int), .slice (some a2) L C] w fun e w' => e = .returned (.bool true) ∧ Below w.heap.size w w' := by
  have HB := Lib.hid (Below.refl w.heap.size w)
  have LN := Lib.hid hl
  have HMR := Lib.hid hr
  have HMB := Lib.hid (encM_byte hr om1 om2 om3)
  have HYB := Lib.hid hyb
  have CC : Hid (∀ v g c n, (encM m).length + ys.length = n → n ≤ c → c ≤ maxLen → Lens v → BytesAt v ⟨g, 0, none⟩ (encM m ++ ys) → Calls Tryd.prog 17 #[.slice (some ⟨g, 0, none⟩) n c] v fun e w' => e = .returned (.tuple #[.agg (msA zeroM), .int .i64 53]) ∧ Below v.heap.size v w') := fun v g c n h1 h2 h3 h4 h5 => dec_more hr cm0 cm1 HMB.out ys hyb v h4 g c n h1 (by omega) h2 h3 h5
  have hlen : (encM m).length ≤ 64 := by
    have := encM_length (Hd.right_iff.1 (Ms.right_iff.1 hr).1).1
    have := longN_bd m.h.t
    omega
  obtain ⟨zs, hzs⟩ : ∃ zs, encM m = zs := ⟨_, rfl⟩
  obtain ⟨N, hN⟩ : ∃ N, zs.length = N := ⟨_, rfl⟩
  have HME := Lib.hid hzs
  have HMN := Lib.hid hN
  rw [hzs] at CC hk hlen
  rw [hN] at hk hlen
  have BZ := Lib.hid hy
  have HYL := Lib.hid hyl
  have d1 : decide ((k : Int) < 0) = false := by simp
  have d2 : decide ((N : Int) ≤ (k : Int)) = false := by simp; omega
  have d3 : decide ((L : Int) < 1) = false := by simp; omega
  clear hl hr hzs hN hyb hy hyl
  go_enter Tryd.func7, Tryd.ntmps7
  go_wp2_with (first | (refine big_whole rfl 35 _ rfl gK1 rfl K1.out Tryd.underlying35 rfl (by kernel_rfl) ?_) | (refine big_box rfl 35 _ rfl (msA m) rfl (by kernel_rfl) ?_; intro gK1 wK1 hlK1 nK1 hbK1; replace LN := Lib.hid ((LN.out).keptB hbK1); replace BZ := Lib.hid ((BZ.out).keptB hbK1); replace HB := Lib.hid (bstep HB.out hbK1); have K1 := Lib.hid nK1; clear hlK1 nK1 hbK1))
  refine (own6_any m _).mono ?_
  rintro e c1 ⟨rfl, hc1⟩
  replace LN := Lib.hid ((LN.out).keptB hc1)
  replace BZ := Lib.hid ((BZ.out).keptB hc1)
  replace K1 := Lib.hid ((K1.out).keptB hc1)
  replace HB := Lib.hid (bstep HB.out hc1)
  clear hc1
  go_wp2_with fail
  refine (enc6_yes m _ LN.out fm0 fm1 HMR.out zs HME.out N HMN.out).mono ?_
  rintro e c2 ⟨gX, capX, -, rfl, nBX, hc0, hc1, hc2⟩
  replace LN := Lib.hid ((LN.out).keptB hc2)
  replace BZ := Lib.hid ((BZ.out).keptB hc2)
  replace K1 := Lib.hid ((K1.out).keptB hc2)
  replace HB := Lib.hid (bstep HB.out hc2)
  have BX := Lib.hid nBX
  clear nBX
  clear hc2
  have CX : Hid (N ≤ capX ∧ capX ≤ maxLen) := ⟨hc0, hc1⟩
  clear hc0 hc1
  have hcx := CX.out
  have hsl := slice_k ⟨gX, 0, none⟩ k (show k ≤ N by omega) hcx.1 (by omega)
  clear hcx
  go_wp2_with fail
  refine (decM_short (some ⟨gX, 0, none⟩) k capX _ hs).mono ?_
  rintro e c3 ⟨rfl, hc3⟩
  clear hsl
  replace LN := Lib.hid ((LN.out).keptB hc3)
  replace BZ := Lib.hid ((BZ.out).keptB hc3)
  replace K1 := Lib.hid ((K1.out).keptB hc3)
  replace BX := Lib.hid ((BX.out).keptB hc3)
  replace HB := Lib.hid (bstep HB.out hc3)
  clear hc3
  go_wp2_with (first | (at_builtin; refine appendW rfl _ _ rfl B rfl HO.out a2 L C ys rfl (BZ.out) (HYL.out) (by omega) (by omega) HSZ.out (N + L) (by omega) ?_; intro g2 cap2 w2 hown2 hb2; replace HO := Lib.hid hown2; replace K1 := Lib.hid ((K1.out).kept hb2 TK1.out); replace K9 := Lib.hid ((K9.out).kept hb2 TK9.out); replace LN := Lib.hid ((LN.out).kept hb2 TL.out); replace BX := Lib.hid ((BX.out).kept hb2 TX.out); replace BZ := Lib.hid ((BZ.out).kept hb2 TZ.out); replace HB := Lib.hid (bbelow HB.out hb2 HW.out); replace HSZ := Lib.hid (Nat.le_trans HSZ.out (hb2).size); clear hown2 hb2) | (at_builtin; refine appendW rfl _ _ rfl B rfl HO.out ⟨gX, 0, none⟩ N capX zs rfl (BX.out) (HMN.out) (by omega) (by omega) HSZ.out (N) (by omega) ?_; intro g1 cap1 w1 hown1 hb1; replace HO := Lib.hid hown1; replace K1 := Lib.hid ((K1.out).kept hb1 TK1.out); replace K9 := Lib.hid ((K9.out).kept hb1 TK9.out); replace LN := Lib.hid ((LN.out).kept hb1 TL.out); replace BX := Lib.hid ((BX.out).kept hb1 TX.out); replace BZ := Lib.hid ((BZ.out).kept hb1 TZ.out); replace HB := Lib.hid (bbelow HB.out hb1 HW.out); replace HSZ := Lib.hid (Nat.le_trans HSZ.out (hb1).size); clear hown1 hb1) | (refine big_none rfl _ _ rfl Tryd.underlying36 (by kernel_rfl) rfl ?_; intro gE wE hlE nE hbE; obtain ⟨B, hB⟩ := size_is (K1.out); have TK1 := Lib.hid (show gK1 < B from by rw [← hB]; exact (K1.out).inside); have TK9 := Lib.hid (show gK9 < B from by rw [← hB]; exact (K9.out).inside); have TL := Lib.hid (show 0 < B from by rw [← hB]; exact (LN.out).inside); have TX := Lib.hid (show gX < B from by rw [← hB]; exact (BX.out).inside (by have := HMN.out; omega)); have TZ := Lib.hid (show a2.block < B from by rw [← hB]; exact (BZ.out).inside (by have := HYL.out; omega)); have HW := Lib.hid (show w.heap.size ≤ B by rw [← hB]; exact (HB.out).size); have HO := Lib.hid (own_row nE (base := B) (zs := []) (by omega) (n := 0) rfl (by omega)); have HSZ := Lib.hid (show B ≤ wE.heap.size by rw [← hB]; exact hbE.size); replace LN := Lib.hid ((LN.out).keptB hbE); replace BZ := Lib.hid ((BZ.out).keptB hbE); replace K1 := Lib.hid ((K1.out).keptB hbE); replace BX := Lib.hid ((BX.out).keptB hbE); replace K9 := Lib.hid ((K9.out).keptB hbE); replace HB := Lib.hid (bstep HB.out hbE); clear hlE nE hbE hB) | (refine big_fill rfl 42 _ _ rfl gK9 (msA zeroM) rfl rfl K9.out (by kernel_rfl) (by kernel_rfl) (by kernel_rfl) ?_; intro vK9 nK9 tK9; have hbK9 := btouch AK9.out tK9 LK9.out; replace LN := Lib.hid ((LN.out).keptB hbK9); replace BZ := Lib.hid ((BZ.out).keptB hbK9); replace K1 := Lib.hid ((K1.out).keptB hbK9); replace BX := Lib.hid ((BX.out).keptB hbK9); replace HB := Lib.hid (bstep HB.out hbK9); replace K9 := Lib.hid nK9; clear nK9 tK9 hbK9 AK9 LK9) | (refine big_alloc rfl 42 rfl (msA zeroM) (by kernel_rfl) ?_; intro gK9 wK9 hlK9 nK9 hbK9; have K9 := Lib.hid nK9; have AK9 := Lib.hid hbK9; have LK9 := Lib.hid hlK9; clear hlK9 nK9 hbK9))
  have hcp := own_cap HO.out
  have BW : Hid (BytesAt _ ⟨g2, 0, none⟩ (zs ++ ys)) := own_bytes HO.out
  have CP : Hid (N + L ≤ cap2 ∧ cap2 ≤ maxLen) := ⟨hcp.1, hcp.2.1⟩
  clear hcp HO
  refine ((CC.out) _ g2 cap2 (N + L) (by rw [HMN.out, HYL.out]) CP.out.1 CP.out.2 LN.out BW.out).mono ?_
  rintro e c4 ⟨rfl, hc4⟩
  clear BW
  replace LN := Lib.hid ((LN.out).keptB hc4)
  replace BZ := Lib.hid ((BZ.out).keptB hc4)
  replace K1 := Lib.hid ((K1.out).keptB hc4)
  replace BX := Lib.hid ((BX.out).keptB hc4)
  replace K9 := Lib.hid ((K9.out).keptB hc4)
  replace HB := Lib.hid (bstep HB.out hc4)
  clear hc4
  go_wp2_with (first | (refine big_fill rfl 42 _ _ rfl gK11 (msA zeroM) rfl rfl K11.out (by kernel_rfl) (by kernel_rfl) (by kernel_rfl) ?_; intro vK11 nK11 tK11; have hbK11 := btouch AK11.out tK11 LK11.out; replace LN := Lib.hid ((LN.out).keptB hbK11); replace BZ := Lib.hid ((BZ.out).keptB hbK11); replace K1 := Lib.hid ((K1.out).keptB hbK11); replace BX := Lib.hid ((BX.out).keptB hbK11); replace K9 := Lib.hid ((K9.out).keptB hbK11); replace HB := Lib.hid (bstep HB.out hbK11); replace K11 := Lib.hid nK11; clear nK11 tK11 hbK11 AK11 LK11) | (refine big_alloc rfl 42 rfl (msA zeroM) (by kernel_rfl) ?_; intro gK11 wK11 hlK11 nK11 hbK11; have K11 := Lib.hid nK11; have AK11 := Lib.hid hbK11; have LK11 := Lib.hid hlK11; clear hlK11 nK11 hbK11))
  refine (alive6_any _ LN.out).mono ?_
  rintro e c5 ⟨rfl, hc5⟩
  replace LN := Lib.hid ((LN.out).keptB hc5)
  replace BZ := Lib.hid ((BZ.out).keptB hc5)
  replace K1 := Lib.hid ((K1.out).keptB hc5)
  replace BX := Lib.hid ((BX.out).keptB hc5)
  replace K9 := Lib.hid ((K9.out).keptB hc5)
  replace K11 := Lib.hid ((K11.out).keptB hc5)
  replace HB := Lib.hid (bstep HB.out hc5)
  clear hc5
  go_wp2_with (first | (refine big_cmp rfl .eql 42 _ _ _ rfl (msA zeroM) (msA zeroM) rfl rfl (by kernel_rfl) true (fun v => (eql_msg zeroM zeroM v).trans (by rw [eqM_self])) ?_) | (refine big_build rfl 42 _ rfl (msA zeroM) (by kernel_rfl) ?_) | (refine big_whole rfl 42 _ rfl gK11 rfl K11.out Tryd.underlying42 rfl (by kernel_rfl) ?_) | (refine big_whole rfl 42 _ rfl gK9 rfl K9.out Tryd.underlying42 rfl (by kernel_rfl) ?_))
  go_ret
  exact ⟨rfl, HB.out⟩
set_option maxHeartbeats 4000000 in
theorem cut6_l (m : Ms) (fm0 : -9223372036854775808 ≤ m.h.f) (fm1 : m.h.f ≤ 9223372036854775807) (cm0 : -9223372036854775808 ≤ m.h.c) (cm1 : m.h.c ≤ 9223372036854775807) (om1 : m.h.p.c.ok) (om2 : m.ak.c.ok) (om3 : m.gr.ok) (k : Nat) (a2 : Addr) (L C : Nat) (ys : List Int) (w : World) (hl : Lens w) (hr : m.right = true) (hk : k < (encM m).length) (hs : 34 ≤ k) (hL : 1 ≤ L) (hLb : L ≤ 140737488351232) (hy : BytesAt w a2 ys) (hyl : ys.length = L) (hyb : ∀ z ∈ ys, isByte z) :
    Calls Tryd.prog 7 #[.agg (msA m), .int .i64 (k : Int), .slice (some a2) L C] w fun e w' => e = .returned (.bool true) ∧ Below w.heap.size w w' := by
  have HB := Lib.hid (Below.refl w.heap.size w)
  have LN := Lib.hid hl
  have HMR := Lib.hid hr
  have HMB := Lib.hid (encM_byte hr om1 om2 om3)
  have HYB := Lib.hid hyb
  have CC : Hid (∀ v g c n, (encM m).length + ys.length = n → n ≤ c → c ≤ maxLen → Lens v → BytesAt v ⟨g, 0, none⟩ (encM m ++ ys) → Calls Tryd.prog 17 #[.slice (some ⟨g, 0, none⟩) n c] v fun e w' => e = .returned (.tuple #[.agg (msA zeroM), .int .i64 53]) ∧ Below v.heap.size v w') := fun v g c n h1 h2 h3 h4 h5 => dec_more hr cm0 cm1 HMB.out ys hyb v h4 g c n h1 (by omega) h2 h3 h5
  have CK : Hid (∀ v g c, (encM m).length ≤ c → c ≤ maxLen → Lens v → BytesAt v ⟨g, 0, none⟩ (encM m) → Calls Tryd.prog 17 #[.slice (some ⟨g, 0, none⟩) k c] v fun e w' => e = .returned (.tuple #[.agg (msA zeroM), .int .i64 53]) ∧ Below v.heap.size v w') := fun v g c h1 h2 h3 h4 => dec_cut hr cm0 cm1 HMB.out v h3 g c k hs hk h1 h2 h4
  have hlen : (encM m).length ≤ 64 := by
    have := encM_length (Hd.right_iff.1 (Ms.right_iff.1 hr).1).1
    have := longN_bd m.h.t
    omega
  obtain ⟨zs, hzs⟩ : ∃ zs, encM m = zs := ⟨_, rfl⟩
  obtain ⟨N, hN⟩ : ∃ N, zs.length = N := ⟨_, rfl⟩
  have HME := Lib.hid hzs
  have HMN := Lib.hid hN
  rw [hzs] at CC hk hlen CK
  rw [hN] at hk hlen CK
  have BZ := Lib.hid hy
  have HYL := Lib.hid hyl
  have d1 : decide ((k : Int) < 0) = false := by simp
  have d2 : decide ((N : Int) ≤ (k : Int)) = false := by simp; omega
  have d3 : decide ((L : Int) < 1) = false := by simp; omega
  clear hl hr hzs hN hyb hy hyl
  go_enter Tryd.func7, Tryd.ntmps7
  go_wp2_with (first | (refine big_whole rfl 35 _ rfl gK1 rfl K1.out Tryd.underlying35 rfl (by kernel_rfl) ?_) | (refine big_box rfl 35 _ rfl (msA m) rfl (by kernel_rfl) ?_; intro gK1 wK1 hlK1 nK1 hbK1; replace LN := Lib.hid ((LN.out).keptB hbK1); replace BZ := Lib.hid ((BZ.out).keptB hbK1); replace HB := Lib.hid (bstep HB.out hbK1); have K1 := Lib.hid nK1; clear hlK1 nK1 hbK1))
  refine (own6_any m _).mono ?_
  rintro e c1 ⟨rfl, hc1⟩
  replace LN := Lib.hid ((LN.out).keptB hc1)
  replace BZ := Lib.hid ((BZ.out).keptB hc1)
  replace K1 := Lib.hid ((K1.out).keptB hc1)
  replace HB := Lib.hid (bstep HB.out hc1)
  clear hc1
  go_wp2_with fail
  refine (enc6_yes m _ LN.out fm0 fm1 HMR.out zs HME.out N HMN.out).mono ?_
  rintro e c2 ⟨gX, capX, -, rfl, nBX, hc0, hc1, hc2⟩
  replace LN := Lib.hid ((LN.out).keptB hc2)
  replace BZ := Lib.hid ((BZ.out).keptB hc2)
  replace K1 := Lib.hid ((K1.out).keptB hc2)
  replace HB := Lib.hid (bstep HB.out hc2)
  have BX := Lib.hid nBX
  clear nBX
  clear hc2
  have CX : Hid (N ≤ capX ∧ capX ≤ maxLen) := ⟨hc0, hc1⟩
  clear hc0 hc1
  have hcx := CX.out
  have hsl := slice_k ⟨gX, 0, none⟩ k (show k ≤ N by omega) hcx.1 (by omega)
  clear hcx
  go_wp2_with fail
  refine ((CK.out) _ gX capX CX.out.1 CX.out.2 LN.out BX.out).mono ?_
  rintro e c3 ⟨rfl, hc3⟩
  clear hsl
  replace LN := Lib.hid ((LN.out).keptB hc3)
  replace BZ := Lib.hid ((BZ.out).keptB hc3)
  replace K1 := Lib.hid ((K1.out).keptB hc3)
  replace BX := Lib.hid ((BX.out).keptB hc3)
  replace HB := Lib.hid (bstep HB.out hc3)
  clear hc3
  go_wp2_with (first | (at_builtin; refine appendW rfl _ _ rfl B rfl HO.out a2 L C ys rfl (BZ.out) (HYL.out) (by omega) (by omega) HSZ.out (N + L) (by omega) ?_; intro g2 cap2 w2 hown2 hb2; replace HO := Lib.hid hown2; replace K1 := Lib.hid ((K1.out).kept hb2 TK1.out); replace K9 := Lib.hid ((K9.out).kept hb2 TK9.out); replace LN := Lib.hid ((LN.out).kept hb2 TL.out); replace BX := Lib.hid ((BX.out).kept hb2 TX.out); replace BZ := Lib.hid ((BZ.out).kept hb2 TZ.out); replace HB := Lib.hid (bbelow HB.out hb2 HW.out); replace HSZ := Lib.hid (Nat.le_trans HSZ.out (hb2).size); clear hown2 hb2) | (at_builtin; refine appendW rfl _ _ rfl B rfl HO.out ⟨gX, 0, none⟩ N capX zs rfl (BX.out) (HMN.out) (by omega) (by omega) HSZ.out (N) (by omega) ?_; intro g1 cap1 w1 hown1 hb1; replace HO := Lib.hid hown1; replace K1 := Lib.hid ((K1.out).kept hb1 TK1.out); replace K9 := Lib.hid ((K9.out).kept hb1 TK9.out); replace LN := Lib.hid ((LN.out).kept hb1 TL.out); replace BX := Lib.hid ((BX.out).kept hb1 TX.out); replace BZ := Lib.hid ((BZ.out).kept hb1 TZ.out); replace HB := Lib.hid (bbelow HB.out hb1 HW.out); replace HSZ := Lib.hid (Nat.le_trans HSZ.out (hb1).size); clear hown1 hb1) | (refine big_none rfl _ _ rfl Tryd.underlying36 (by kernel_rfl) rfl ?_; intro gE wE hlE nE hbE; obtain ⟨B, hB⟩ := size_is (K1.out); have TK1 := Lib.hid (show gK1 < B from by rw [← hB]; exact (K1.out).inside); have TK9 := Lib.hid (show gK9 < B from by rw [← hB]; exact (K9.out).inside); have TL := Lib.hid (show 0 < B from by rw [← hB]; exact (LN.out).inside); have TX := Lib.hid (show gX < B from by rw [← hB]; exact (BX.out).inside (by have := HMN.out; omega)); have TZ := Lib.hid (show a2.block < B from by rw [← hB]; exact (BZ.out).inside (by have := HYL.out; omega)); have HW := Lib.hid (show w.heap.size ≤ B by rw [← hB]; exact (HB.out).size); have HO := Lib.hid (own_row nE (base := B) (zs := []) (by omega) (n := 0) rfl (by omega)); have HSZ := Lib.hid (show B ≤ wE.heap.size by rw [← hB]; exact hbE.size); replace LN := Lib.hid ((LN.out).keptB hbE); replace BZ := Lib.hid ((BZ.out).keptB hbE); replace K1 := Lib.hid ((K1.out).keptB hbE); replace BX := Lib.hid ((BX.out).keptB hbE); replace K9 := Lib.hid ((K9.out).keptB hbE); replace HB := Lib.hid (bstep HB.out hbE); clear hlE nE hbE hB) | (refine big_fill rfl 42 _ _ rfl gK9 (msA zeroM) rfl rfl K9.out (by kernel_rfl) (by kernel_rfl) (by kernel_rfl) ?_; intro vK9 nK9 tK9; have hbK9 := btouch AK9.out tK9 LK9.out; replace LN := Lib.hid ((LN.out).keptB hbK9); replace BZ := Lib.hid ((BZ.out).keptB hbK9); replace K1 := Lib.hid ((K1.out).keptB hbK9); replace BX := Lib.hid ((BX.out).keptB hbK9); replace HB := Lib.hid (bstep HB.out hbK9); replace K9 := Lib.hid nK9; clear nK9 tK9 hbK9 AK9 LK9) | (refine big_alloc rfl 42 rfl (msA zeroM) (by kernel_rfl) ?_; intro gK9 wK9 hlK9 nK9 hbK9; have K9 := Lib.hid nK9; have AK9 := Lib.hid hbK9; have LK9 := Lib.hid hlK9; clear hlK9 nK9 hbK9))
  have hcp := own_cap HO.out
  have BW : Hid (BytesAt _ ⟨g2, 0, none⟩ (zs ++ ys)) := own_bytes HO.out
  have CP : Hid (N + L ≤ cap2 ∧ cap2 ≤ maxLen) := ⟨hcp.1, hcp.2.1⟩
  clear hcp HO
  refine ((CC.out) _ g2 cap2 (N + L) (by rw [HMN.out, HYL.out]) CP.out.1 CP.out.2 LN.out BW.out).mono ?_
  rintro e c4 ⟨rfl, hc4⟩
  clear BW
  replace LN := Lib.hid ((LN.out).keptB hc4)
  replace BZ := Lib.hid ((BZ.out).keptB hc4)
  replace K1 := Lib.hid ((K1.out).keptB hc4)
  replace BX := Lib.hid ((BX.out).keptB hc4)
  replace K9 := Lib.hid ((K9.out).keptB hc4)
  replace HB := Lib.hid (bstep HB.out hc4)
  clear hc4
  go_wp2_with (first | (refine big_fill rfl 42 _ _ rfl gK11 (msA zeroM) rfl rfl K11.out (by kernel_rfl) (by kernel_rfl) (by kernel_rfl) ?_; intro vK11 nK11 tK11; have hbK11 := btouch AK11.out tK11 LK11.out; replace LN := Lib.hid ((LN.out).keptB hbK11); replace BZ := Lib.hid ((BZ.out).keptB hbK11); replace K1 := Lib.hid ((K1.out).keptB hbK11); replace BX := Lib.hid ((BX.out).keptB hbK11); replace K9 := Lib.hid ((K9.out).keptB hbK11); replace HB := Lib.hid (bstep HB.out hbK11); replace K11 := Lib.hid nK11; clear nK11 tK11 hbK11 AK11 LK11) | (refine big_alloc rfl 42 rfl (msA zeroM) (by kernel_rfl) ?_; intro gK11 wK11 hlK11 nK11 hbK11; have K11 := Lib.hid nK11; have AK11 := Lib.hid hbK11; have LK11 := Lib.hid hlK11; clear hlK11 nK11 hbK11))
  refine (alive6_any _ LN.out).mono ?_
  rintro e c5 ⟨rfl, hc5⟩
  replace LN := Lib.hid ((LN.out).keptB hc5)
  replace BZ := Lib.hid ((BZ.out).keptB hc5)
  replace K1 := Lib.hid ((K1.out).keptB hc5)
  replace BX := Lib.hid ((BX.out).keptB hc5)
  replace K9 := Lib.hid ((K9.out).keptB hc5)
  replace K11 := Lib.hid ((K11.out).keptB hc5)
  replace HB := Lib.hid (bstep HB.out hc5)
  clear hc5
  go_wp2_with (first | (refine big_cmp rfl .eql 42 _ _ _ rfl (msA zeroM) (msA zeroM) rfl rfl (by kernel_rfl) true (fun v => (eql_msg zeroM zeroM v).trans (by rw [eqM_self])) ?_) | (refine big_build rfl 42 _ rfl (msA zeroM) (by kernel_rfl) ?_) | (refine big_whole rfl 42 _ rfl gK11 rfl K11.out Tryd.underlying42 rfl (by kernel_rfl) ?_) | (refine big_whole rfl 42 _ rfl gK9 rfl K9.out Tryd.underlying42 rfl (by kernel_rfl) ?_))
  go_ret
  exact ⟨rfl, HB.out⟩
theorem cut6_walk (m : Ms) (fm0 : -9223372036854775808 ≤ m.h.f) (fm1 : m.h.f ≤ 9223372036854775807) (cm0 : -9223372036854775808 ≤ m.h.c) (cm1 : m.h.c ≤ 9223372036854775807) (om1 : m.h.p.c.ok) (om2 : m.ak.c.ok) (om3 : m.gr.ok) (p : Int) (A : Option Addr) (L C : Nat) (zs : List Int) (w : World) (hs : sliceOk .u8 w A L C zs) (hLb : L ≤ 140737488351232) (hl : Lens w) :
    Calls Tryd.prog 7 #[.agg (msA m), .int .i64 p, .slice A L C] w fun e w' => e = .returned (.bool true) ∧ Below w.heap.size w w' := by
  cases hr : m.right
  · exact cut6_no m fm0 fm1 cm0 cm1 om1 om2 om3 p A L C w hl hr
  · by_cases c0 : p < 0
    · exact cut6_d0 m fm0 fm1 cm0 cm1 om1 om2 om3 p A L C w hl hr c0
    · by_cases c1 : ((encM m).length : Int) ≤ p
      · exact cut6_d1 m fm0 fm1 cm0 cm1 om1 om2 om3 p A L C w hl hr ⟨c0, c1⟩
      · by_cases c2 : (L : Int) < 1
        · exact cut6_d2 m fm0 fm1 cm0 cm1 om1 om2 om3 p A L C w hl hr ⟨⟨c0, c1⟩, c2⟩
        · obtain ⟨k, rfl⟩ := Int.eq_ofNat_of_zero_le (show 0 ≤ p by omega)
          rcases hs with ⟨_, h0, _⟩ | ⟨a, rfl, h1, h2, h3, h4, h5⟩
          · omega
          have hz : BytesAt w a (zs.take L) := take_bytes h4 L
          have hb : ∀ z ∈ zs.take L, isByte z := fun z hz => byte_wf (h5 z (List.mem_of_mem_take hz))
          have hl2 : (zs.take L).length = L := by rw [List.length_take]; omega
          by_cases h34 : k < 34
          · exact cut6_s m fm0 fm1 cm0 cm1 om1 om2 om3 k a L C (zs.take L) w hl hr (by omega) h34 (by omega) hLb hz hl2 hb
          · exact cut6_l m fm0 fm1 cm0 cm1 om1 om2 om3 k a L C (zs.take L) w hl hr (by omega) (by omega) (by omega) hLb hz hl2 hb

end Go.Proofs.YtnmpfemmeblnlaaDoor
