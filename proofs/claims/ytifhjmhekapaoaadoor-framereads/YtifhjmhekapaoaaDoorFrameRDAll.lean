/- Parts of this proof, one behind the other: FrameRDBase, FrameRDA, FrameRDB, FrameRDC, FrameRDD, FrameRefDec, FrameLaw2. -/
import Derived.Test.YtifhjmhekapaoaaDoorHeadRDAll
import Derived.Test.YtifhjmhekapaoaaDoorFrameEnc2
import Derived.Test.YtifhjmhekapaoaaDoorFrameDA

/- What the walk over the reference's Decode of layer 6 starts from. -/
namespace Go.Proofs.YtifhjmhekapaoaaDoor
set_option maxRecDepth 100000
open Go.RowKit
set_option linter.unusedVariables false

set_option maxHeartbeats 1000000 in
theorem value6_any (a : Addr) (L C : Nat) (k : Nat) (zs : List Int) (w : World) (hlen : zs.length = L) (hk : k + 1 < L) (hM : L ≤ maxLen) (hb : ∀ z ∈ zs, isByte z) (hc : BytesAt w a zs) :
    Calls Tryd.prog 51 #[.slice (some a) L C, .int .i64 k] w fun e w' => e = .returned (.int .i64 (zs.getD k 0 * 256 + zs.getD (k + 1) 0)) ∧ Below w.heap.size w w' := by
  unfold maxLen at hM
  have c0 := hc k (by omega)
  have c1 := hc (k + 1) (by omega)
  rw [Addr.add, if_neg (by omega)] at c1
  have b0 := getD_byte hb k
  have b1 := getD_byte hb (k + 1)
  obtain ⟨y, hy⟩ : ∃ y, zs.getD k 0 = y := ⟨_, rfl⟩
  obtain ⟨z, hz⟩ : ∃ y, zs.getD (k + 1) 0 = y := ⟨_, rfl⟩
  rw [hy] at c0 b0 ⊢
  rw [hz] at c1 b1 ⊢
  obtain ⟨b00, b01⟩ := b0
  obtain ⟨b10, b11⟩ := b1
  have hL1 : (k : Int) < (L : Int) := by omega
  have hL2 : (k : Int) + 1 < (L : Int) := by omega
  have hL3 : (L : Int) ≤ 9223372036854775807 := by omega
  clear hy hz hc hb hlen
  go_enter Tryd.func51, Tryd.ntmps51
  go_wp2
  go_region
  all_goals
    go_wp2
    go_ret
    exact ⟨rfl, bdrew (Below.refl _ _)⟩
/-- where bytes are read again -/
structure MDF (a : Addr) (L C : Nat) (zs : List Int) (G : Hd) (ts tn ec : Int) (Q : Pt) (x q3 st : Int) (z47 : Int) (z48 : Int) (z49 : Int) (z52 : Int) (z63 : Int) : Prop where
  l44 : 44 ≤ L
  lc : L ≤ C
  cm : C ≤ maxLen
  len : zs.length = L
  gc0 : -9223372036854775808 ≤ G.c
  gc1 : G.c ≤ 9223372036854775807
  c1 : ∀ v, BytesAt v a zs → Calls Tryd.prog 7 #[.slice (some a) L C] v fun e w' => e = .returned (.tuple #[.agg #[.int .i64 G.t, .int .i64 G.d, .int .i64 G.f, .int .i64 G.c, .int .u8 G.p.c.b0, .int .u8 G.p.c.b1, .int .u8 G.p.c.b2, .int .u8 G.p.c.b3, .int .u8 G.p.c.b4, .int .u8 G.p.c.b5, .int .u8 G.p.c.b6, .int .u8 G.p.c.b7, .int .i64 G.p.n, .int .i64 G.s, .int .i64 G.l], .int .i64 0]) ∧ Below v.heap.size v w'
  ct : ∀ v, BytesAt v a zs → Calls Tryd.prog 50 #[.slice (some ⟨a.block, a.off + 34, none⟩) 10 (C - 34)] v fun e w' => e = .returned (.tuple #[.agg #[.int .i64 ts, .int .i64 tn], .int .i64 ec]) ∧ Below v.heap.size v w'
  s34 : ∀ v, (Instr.sliceAt 22 (.slice (some a) L C) (some (.int .i64 34)) (some (.int .i64 44)) none).run Tryd.prog v = .ok (.slice (some ⟨a.block, a.off + 34, none⟩) 10 (C - 34)) v
/-- .. of a message of type 9 -/
structure MD9 (a : Addr) (L C : Nat) (zs : List Int) (G : Hd) (ts tn ec : Int) (Q : Pt) (x q3 st : Int) (z47 : Int) (z48 : Int) (z49 : Int) (z52 : Int) (z63 : Int) : Prop where
  ck : ∀ v, BytesAt v a zs → Calls Tryd.prog 26 #[.slice (some ⟨a.block, a.off + 44, none⟩) 10 (C - 44)] v fun e w' => e = .returned (.tuple #[.agg #[.int .u8 Q.c.b0, .int .u8 Q.c.b1, .int .u8 Q.c.b2, .int .u8 Q.c.b3, .int .u8 Q.c.b4, .int .u8 Q.c.b5, .int .u8 Q.c.b6, .int .u8 Q.c.b7, .int .i64 Q.n], .bool true]) ∧ Below v.heap.size v w'
  s44 : ∀ v, (Instr.sliceAt 22 (.slice (some a) L C) (some (.int .i64 44)) (some (.int .i64 54)) none).run Tryd.prog v = .ok (.slice (some ⟨a.block, a.off + 44, none⟩) 10 (C - 44)) v
/-- .. of an announcement -/
structure MD11 (a : Addr) (L C : Nat) (zs : List Int) (G : Hd) (ts tn ec : Int) (Q : Pt) (x q3 st : Int) (z47 : Int) (z48 : Int) (z49 : Int) (z52 : Int) (z63 : Int) : Prop where
  l64 : 64 ≤ L
  bx : 0 ≤ x ∧ x ≤ 65535
  cx : ∀ v, BytesAt v a zs → Calls Tryd.prog 51 #[.slice (some a) L C, .int .i64 44] v fun e w' => e = .returned (.int .i64 x) ∧ Below v.heap.size v w'
  cq : ∀ v, BytesAt v a zs → Calls Tryd.prog 51 #[.slice (some a) L C, .int .i64 50] v fun e w' => e = .returned (.int .i64 q3) ∧ Below v.heap.size v w'
  cs : ∀ v, BytesAt v a zs → Calls Tryd.prog 51 #[.slice (some a) L C, .int .i64 61] v fun e w' => e = .returned (.int .i64 st) ∧ Below v.heap.size v w'
  v47 : ∀ v, BytesAt v a zs → v.cell? ⟨a.block, a.off + 47, none⟩ = some (.int .u8 z47)
  b47 : 0 ≤ z47 ∧ z47 ≤ 255
  v48 : ∀ v, BytesAt v a zs → v.cell? ⟨a.block, a.off + 48, none⟩ = some (.int .u8 z48)
  b48 : 0 ≤ z48 ∧ z48 ≤ 255
  v49 : ∀ v, BytesAt v a zs → v.cell? ⟨a.block, a.off + 49, none⟩ = some (.int .u8 z49)
  b49 : 0 ≤ z49 ∧ z49 ≤ 255
  v52 : ∀ v, BytesAt v a zs → v.cell? ⟨a.block, a.off + 52, none⟩ = some (.int .u8 z52)
  b52 : 0 ≤ z52 ∧ z52 ≤ 255
  v63 : ∀ v, BytesAt v a zs → v.cell? ⟨a.block, a.off + 63, none⟩ = some (.int .u8 z63)
  b63 : 0 ≤ z63 ∧ z63 ≤ 255
  vg : ∀ v k, k < 8 → BytesAt v a zs → v.cell? ⟨a.block, a.off + (53 + k), none⟩ = some (.int .u8 (zs.getD (53 + k) 0))
section
variable {P : Program} {ops : Array Oper} {rest : List Oper} {op : Oper} {a : Act} {w : World} {Q : Exit → Act → World → Prop}
/-- the address of a byte -/
theorem big_indexB (hw : Region.wanted op (yielded ops a.tmps) = true) (t : TypeId) (x i : Operand) (ho : op.op = .indexAddr t x i) (ad : Addr) (L C : Nat) (k : Nat) (hx : a.eval x = .slice (some ad) L C) (hi : a.eval i = .int .i64 (k : Int)) (hk : k < L) (h0 : 0 < k) (hu : P.underlying t = some (.slice (P.elem t))) (hs : (P.info? (P.elem t)).map (·.size) = some 1)
    (h : wpList P ops Q rest (a.put op.dst (.pointer (some ⟨ad.block, ad.off + k, none⟩))) w) : wpList P ops Q (op :: rest) a w :=
  BigFrame.wpList_want hw fun K hK => wp_of_run (by
    unfold execOp
    have hk' : (0 : Int) ≤ (k : Int) ∧ (k : Int) < (L : Int) := by omega
    cases hq : P.info? (P.elem t) with
    | none => simp [hq] at hs
    | some e =>
      have he : e.size = 1 := by simpa [hq] using hs
      have hz : (sizeOf (P.elem t)).run P w = .ok 1 w := by simp [sizeOf, typeInfo, hq, he]
      have ha : ad.add (k * 1) = ⟨ad.block, ad.off + k, none⟩ := by rw [Nat.mul_one]; unfold Addr.add; rw [if_neg (by omega)]
      simp only [ho, hx, hi, Sem.run_bind, run_indexAt_slice (P := P) w t _ L C .i64 (k : Int) hu, if_pos hk', hz, Sem.run_pure, Result.andThen_ok, Int.toNat_natCast, ha]) (hK _ _ h)
/-- the address of an array's cell -/
theorem big_indexA (hw : Region.wanted op (yielded ops a.tmps) = true) (t : TypeId) (x i : Operand) (ho : op.op = .indexAddr t x i) (g o : Nat) (k : Nat) (hx : a.eval x = .pointer (some ⟨g, o, none⟩)) (hi : a.eval i = .int .i64 (k : Int)) (hu : P.underlying t = some (.array (P.arrayLen t) (P.elem t))) (hk : k < P.arrayLen t) (hs : (P.info? (P.elem t)).map (·.size) = some 1)
    (h : wpList P ops Q rest (a.put op.dst (.pointer (some ⟨g, o + k, none⟩))) w) : wpList P ops Q (op :: rest) a w :=
  BigFrame.wpList_want hw fun K hK => wp_of_run (by
    unfold execOp
    have hk' : (0 : Int) ≤ (k : Int) ∧ (k : Int) < (P.arrayLen t : Int) := by omega
    cases hq : P.info? (P.elem t) with
    | none => simp [hq] at hs
    | some e =>
      have he : e.size = 1 := by simpa [hq] using hs
      have hz : (sizeOf (P.elem t)).run P w = .ok 1 w := by simp [sizeOf, typeInfo, hq, he]
      simp only [ho, hx, hi, Sem.run_bind, run_indexAt_array (P := P) w t _ .i64 (k : Int) hu, if_pos hk', hz, Sem.run_pure, Result.andThen_ok, Int.toNat_natCast, Addr.add_mid, Nat.mul_one]) (hK _ _ h)
end
theorem bytes_inj_ {S R : ByteArray} (h : S.toList = R.toList) : S = R := by
  rw [ByteArray.toList_eq, ByteArray.toList_eq] at h
  cases S; cases R
  simp at h
  rw [h]
theorem big_convL {ops : Array Oper} {rest : List Oper} {op : Oper} {a : Act} {w : World} {Q : Exit → Act → World → Prop} (hw : Region.wanted op (yielded ops a.tmps) = true) (x : Operand) (ho : op.op = .convert 22 9 x) (ad : Addr) (n c : Nat) (xs : List Int) (hx : a.eval x = .slice (some ad) n c) (hb : BytesAt w ad xs) (hl : xs.length = n) (r : ByteArray) (hr : strOfNums xs = r)
    (h : wpList Tryd.prog ops Q rest (a.put op.dst (.string r)) w) : wpList Tryd.prog ops Q (op :: rest) a w := by
  subst hr
  exact big_conv hw x ho ad n c xs hx hb hl h
theorem gr_set (f : Nat → Int) (h : Hd) (ts tn o p1 p2 q1 q2 q3 st src : Int) (ak sn rc : Pt) {k : Nat} (hk : k < 8) : (msA (⟨h, ts, tn, ak, o, p1, p2, q1, q2, q3, part8 f k, st, sn, rc, src⟩ : Ms)).toList.set (32 + k) (.int .u8 (f k)) = (msA (⟨h, ts, tn, ak, o, p1, p2, q1, q2, q3, part8 f (k + 1), st, sn, rc, src⟩ : Ms)).toList := by
  match k, hk with
  | 0, _ => rfl
  | 1, _ => rfl
  | 2, _ => rfl
  | 3, _ => rfl
  | 4, _ => rfl
  | 5, _ => rfl
  | 6, _ => rfl
  | 7, _ => rfl
theorem renc6_N (m : Ms) (w : World) (hr : m.right = true) (o1 : m.h.p.c.ok) (o2 : m.ak.c.ok) (o3 : m.gr.ok) (ys : List Int) (hy : encM m = ys) (N : Nat) (hN : ys.length = N) :
    Calls Tryd.prog 11 #[.agg (msA m)] w fun e w' => ∃ g cap, e = .returned (.tuple #[.slice (some ⟨g, 0, none⟩) N cap, .bool true]) ∧ BytesAt w' ⟨g, 0, none⟩ ys ∧ Below w.heap.size w w' := by
  subst hy hN
  exact renc6_yes m w hr o1 o2 o3

end Go.Proofs.YtifhjmhekapaoaaDoor

/- A way of the walk over the reference's Decode of layer 6. -/
namespace Go.Proofs.YtifhjmhekapaoaaDoor
set_option maxRecDepth 100000
open Go.RowKit
set_option linter.unusedVariables false

set_option maxHeartbeats 4000000 in
theorem rd6_9 (a : Addr) (L C : Nat) (zs : List Int) (G : Hd) (ts tn ec : Int) (Q : Pt) (x q3 st : Int) (z47 : Int) (z48 : Int) (z49 : Int) (z52 : Int) (z63 : Int) (w : World) (E : Value) (F : MDF a L C zs G ts tn ec Q x q3 st z47 z48 z49 z52 z63) (hc : BytesAt w a zs) (hby : ∀ z ∈ zs, isByte z) (hok : (⟨G, ts, tn, Q, 0, 0, 0, 0, 0, 0, zeroC, 0, zeroP, zeroP, 0⟩ : Ms).h.p.c.ok ∧ (⟨G, ts, tn, Q, 0, 0, 0, 0, 0, 0, zeroC, 0, zeroP, zeroP, 0⟩ : Ms).ak.c.ok ∧ (⟨G, ts, tn, Q, 0, 0, 0, 0, 0, 0, zeroC, 0, zeroP, zeroP, 0⟩ : Ms).gr.ok) (h9 : G.t = 9) (f9 : MD9 a L C zs G ts tn ec Q x q3 st z47 z48 z49 z52 z63)
    (hE1 : (⟨G, ts, tn, Q, 0, 0, 0, 0, 0, 0, zeroC, 0, zeroP, zeroP, 0⟩ : Ms).right = false ∨ encM (⟨G, ts, tn, Q, 0, 0, 0, 0, 0, 0, zeroC, 0, zeroP, zeroP, 0⟩ : Ms) ≠ zs → E = .tuple #[.agg (msA zeroM), .int .i64 60]) (hE2 : (⟨G, ts, tn, Q, 0, 0, 0, 0, 0, 0, zeroC, 0, zeroP, zeroP, 0⟩ : Ms).right = true ∧ encM (⟨G, ts, tn, Q, 0, 0, 0, 0, 0, 0, zeroC, 0, zeroP, zeroP, 0⟩ : Ms) = zs → E = .tuple #[.agg (msA (⟨G, ts, tn, Q, 0, 0, 0, 0, 0, 0, zeroC, 0, zeroP, zeroP, 0⟩ : Ms)), .int .i64 0]) :
    Calls Tryd.prog 16 #[.slice (some a) L C] w fun e w' => e = .returned E ∧ Below w.heap.size w w' := by
  have HB := Lib.hid (Below.refl w.heap.size w)
  have HBY := Lib.hid hby
  have HOK := Lib.hid hok
  clear hby hok
  have BA := Lib.hid hc
  have FF := Lib.hid F
  have k1 := F.l44
  have k2 := F.lc
  have k3 := F.cm
  unfold maxLen at k3
  clear F hc
  have d9 : (G.t == 9) = true := by simp [h9]
  have d11 : (G.t == 11) = false := by simp; omega
  have F9 := Lib.hid f9
  clear h9 f9
  go_enter Tryd.func16, Tryd.ntmps16
  go_wp2_with ((refine big_alloc rfl 44 rfl (msA zeroM) (by kernel_rfl) ?_; intro gK2 wK2 hlK2 nK2 hbK2; have K2 := Lib.hid nK2; have LK2 := Lib.hid (Nat.le_trans (HB.out).size hlK2); have NAK2 := Lib.hid (show a.block ≠ gK2 by have := (BA.out).inside (by rw [(FF.out).len]; omega); omega); replace BA := Lib.hid ((BA.out).keptB hbK2); replace HB := Lib.hid (bstep HB.out hbK2); clear hlK2 nK2 hbK2))
  refine ((FF.out).c1 _ BA.out).mono ?_
  rintro e w1 ⟨rfl, h1⟩
  replace K2 := Lib.hid ((K2.out).keptB h1)
  replace BA := Lib.hid ((BA.out).keptB h1)
  replace HB := Lib.hid (bstep HB.out h1)
  clear h1
  go_upto_region 5 with (first | (refine big_fill rfl 44 _ _ rfl gK6 (msA (⟨G, 0, 0, zeroP, 0, 0, 0, 0, 0, 0, zeroC, 0, zeroP, zeroP, 0⟩ : Ms)) rfl rfl K6.out (by kernel_rfl) (by kernel_rfl) (by kernel_rfl) ?_; intro vK60 nK6 htK6; replace K6 := Lib.hid nK6; replace K2 := Lib.hid ((K2.out).touch htK6 NK2K6.out); replace K4 := Lib.hid ((K4.out).touch htK6 NK4K6.out); replace BA := Lib.hid ((BA.out).touch htK6 NAK6.out); replace HB := Lib.hid (btouch HB.out htK6 LK6.out); clear nK6 htK6) | (refine big_alloc rfl 44 rfl (msA zeroM) (by kernel_rfl) ?_; intro gK6 wK6 hlK6 nK6 hbK6; have K6 := Lib.hid nK6; have LK6 := Lib.hid (Nat.le_trans (HB.out).size hlK6); have NAK6 := Lib.hid (show a.block ≠ gK6 by have := (BA.out).inside (by rw [(FF.out).len]; omega); omega); have NK2K6 := Lib.hid (show gK2 ≠ gK6 by have := (K2.out).inside; omega); have NK4K6 := Lib.hid (show gK4 ≠ gK6 by have := (K4.out).inside; omega); replace K2 := Lib.hid ((K2.out).keptB hbK6); replace K4 := Lib.hid ((K4.out).keptB hbK6); replace BA := Lib.hid ((BA.out).keptB hbK6); replace HB := Lib.hid (bstep HB.out hbK6); clear hlK6 nK6 hbK6) | (refine big_build rfl 44 _ rfl (msA (⟨G, 0, 0, zeroP, 0, 0, 0, 0, 0, 0, zeroC, 0, zeroP, zeroP, 0⟩ : Ms)) (by kernel_rfl) ?_) | (refine big_whole rfl 32 _ rfl gK4 rfl K4.out Tryd.underlying32 rfl (by kernel_rfl) ?_) | (refine big_fill rfl 32 _ _ rfl gK4 (#[.int .i64 G.t, .int .i64 G.d, .int .i64 G.f, .int .i64 G.c, .int .u8 G.p.c.b0, .int .u8 G.p.c.b1, .int .u8 G.p.c.b2, .int .u8 G.p.c.b3, .int .u8 G.p.c.b4, .int .u8 G.p.c.b5, .int .u8 G.p.c.b6, .int .u8 G.p.c.b7, .int .i64 G.p.n, .int .i64 G.s, .int .i64 G.l]) rfl rfl K4.out (by kernel_rfl) (by kernel_rfl) (by kernel_rfl) ?_; intro vK40 nK4 htK4; replace K4 := Lib.hid nK4; replace K2 := Lib.hid ((K2.out).touch htK4 NK2K4.out); replace BA := Lib.hid ((BA.out).touch htK4 NAK4.out); replace HB := Lib.hid (btouch HB.out htK4 LK4.out); clear nK4 htK4) | (refine big_alloc rfl 32 rfl (#[.int .i64 0, .int .i64 0, .int .i64 0, .int .i64 0, .int .u8 0, .int .u8 0, .int .u8 0, .int .u8 0, .int .u8 0, .int .u8 0, .int .u8 0, .int .u8 0, .int .i64 0, .int .i64 0, .int .i64 0]) (by kernel_rfl) ?_; intro gK4 wK4 hlK4 nK4 hbK4; have K4 := Lib.hid nK4; have LK4 := Lib.hid (Nat.le_trans (HB.out).size hlK4); have NAK4 := Lib.hid (show a.block ≠ gK4 by have := (BA.out).inside (by rw [(FF.out).len]; omega); omega); have NK2K4 := Lib.hid (show gK2 ≠ gK4 by have := (K2.out).inside; omega); replace K2 := Lib.hid ((K2.out).keptB hbK4); replace BA := Lib.hid ((BA.out).keptB hbK4); replace HB := Lib.hid (bstep HB.out hbK4); clear hlK4 nK4 hbK4))
  have s34 := (FF.out).s34
  go_wp2_with fail
  clear s34
  refine ((FF.out).ct _ BA.out).mono ?_
  rintro e w2 ⟨rfl, h2⟩
  replace K2 := Lib.hid ((K2.out).keptB h2)
  replace K4 := Lib.hid ((K4.out).keptB h2)
  replace K6 := Lib.hid ((K6.out).keptB h2)
  replace BA := Lib.hid ((BA.out).keptB h2)
  replace HB := Lib.hid (bstep HB.out h2)
  clear h2
  go_upto_region 6 with (refine big_store rfl 38 _ _ rfl gK6 15 [.int .i64 ts, .int .i64 tn] rfl rfl K6.out (by kernel_rfl) (by kernel_rfl) (of_decide_eq_true (by kernel_rfl)) (msA (⟨G, ts, tn, zeroP, 0, 0, 0, 0, 0, 0, zeroC, 0, zeroP, zeroP, 0⟩ : Ms)) (by kernel_rfl) ?_; intro vK60 nK6 htK6; replace K6 := Lib.hid nK6; replace K2 := Lib.hid ((K2.out).touch htK6 NK2K6.out); replace K4 := Lib.hid ((K4.out).touch htK6 NK4K6.out); replace BA := Lib.hid ((BA.out).touch htK6 NAK6.out); replace HB := Lib.hid (btouch HB.out htK6 LK6.out); clear nK6 htK6)
  have y0 := (K4.out).reads (i := 0) (x := .int .i64 G.t) rfl
  go_upto_region 7 with fail
  clear y0
  have s44 := (F9.out).s44
  go_wp2_with fail
  clear s44
  refine ((F9.out).ck _ BA.out).mono ?_
  rintro e w3 ⟨rfl, h3⟩
  replace K2 := Lib.hid ((K2.out).keptB h3)
  replace K4 := Lib.hid ((K4.out).keptB h3)
  replace K6 := Lib.hid ((K6.out).keptB h3)
  replace BA := Lib.hid ((BA.out).keptB h3)
  replace HB := Lib.hid (bstep HB.out h3)
  clear h3
  go_upto_region 8 with (refine big_store rfl 26 _ _ rfl gK6 17 [.int .u8 Q.c.b0, .int .u8 Q.c.b1, .int .u8 Q.c.b2, .int .u8 Q.c.b3, .int .u8 Q.c.b4, .int .u8 Q.c.b5, .int .u8 Q.c.b6, .int .u8 Q.c.b7, .int .i64 Q.n] rfl rfl K6.out (by kernel_rfl) (by kernel_rfl) (of_decide_eq_true (by kernel_rfl)) (msA (⟨G, ts, tn, Q, 0, 0, 0, 0, 0, 0, zeroC, 0, zeroP, zeroP, 0⟩ : Ms)) (by kernel_rfl) ?_; intro vK61 nK6 htK6; replace K6 := Lib.hid nK6; replace K2 := Lib.hid ((K2.out).touch htK6 NK2K6.out); replace K4 := Lib.hid ((K4.out).touch htK6 NK4K6.out); replace BA := Lib.hid ((BA.out).touch htK6 NAK6.out); replace HB := Lib.hid (btouch HB.out htK6 LK6.out); clear nK6 htK6)
  have y0 := (K4.out).reads (i := 0) (x := .int .i64 G.t) rfl
  go_upto_region 18 with fail
  clear y0 K4
  cases hr : (⟨G, ts, tn, Q, 0, 0, 0, 0, 0, 0, zeroC, 0, zeroP, zeroP, 0⟩ : Ms).right
  · have HR := Lib.hid hr
    have HX := Lib.hid (congrArg Ending.returned (hE1 (.inl hr)))
    clear hr hE1 hE2
    go_wp2_with ((refine big_whole rfl 44 _ rfl gK6 rfl K6.out Tryd.underlying44 rfl (by kernel_rfl) ?_))
    refine (renc6_no (⟨G, ts, tn, Q, 0, 0, 0, 0, 0, 0, zeroC, 0, zeroP, zeroP, 0⟩ : Ms) _ HR.out).mono ?_
    rintro e w9 ⟨rfl, h9⟩
    replace K2 := Lib.hid ((K2.out).keptB h9)
    replace K6 := Lib.hid ((K6.out).keptB h9)
    replace BA := Lib.hid ((BA.out).keptB h9)
    replace HB := Lib.hid (bstep HB.out h9)
    clear h9
    go_wp2_with (first | (refine big_fill rfl 44 _ _ rfl gK2 (msA zeroM) rfl rfl K2.out (by kernel_rfl) (by kernel_rfl) (by kernel_rfl) ?_; intro vK29 nK2 htK2; replace K2 := Lib.hid nK2; replace K6 := Lib.hid ((K6.out).touch htK2 (Ne.symm NK2K6.out)); replace BA := Lib.hid ((BA.out).touch htK2 NAK2.out); replace HB := Lib.hid (btouch HB.out htK2 LK2.out); clear nK2 htK2) | (refine big_build rfl 44 _ rfl (msA zeroM) (by kernel_rfl) ?_))
    refine bodyPost_ret (results_two rfl _ _ gK2 _ (msA zeroM) (.int .i64 60) _ rfl rfl K2.out Tryd.underlying44 rfl (by kernel_rfl)) rfl ⟨?_, HB.out⟩
    exact HX.out.symm
  · by_cases hs : encM (⟨G, ts, tn, Q, 0, 0, 0, 0, 0, 0, zeroC, 0, zeroP, zeroP, 0⟩ : Ms) = zs
    · have HR := Lib.hid hr
      have HX := Lib.hid (congrArg Ending.returned (hE2 ⟨hr, hs⟩))
      obtain ⟨ys, hys⟩ : ∃ ys, encM (⟨G, ts, tn, Q, 0, 0, 0, 0, 0, 0, zeroC, 0, zeroP, zeroP, 0⟩ : Ms) = ys := ⟨_, rfl⟩
      obtain ⟨N, hN⟩ : ∃ N, ys.length = N := ⟨_, rfl⟩
      obtain ⟨S, hS⟩ : ∃ S, strOfNums ys = S := ⟨_, rfl⟩
      obtain ⟨R, hR⟩ : ∃ R, strOfNums zs = R := ⟨_, rfl⟩
      have hSR : S = R := by rw [← hS, ← hR, ← hys, hs]
      have HYS := Lib.hid hys
      have HN := Lib.hid hN
      have HS := Lib.hid hS
      have HR2 := Lib.hid hR
      clear hr hs hys hN hS hR hE1 hE2
      have HSR := Lib.hid hSR
      clear hSR
      go_wp2_with ((refine big_whole rfl 44 _ rfl gK6 rfl K6.out Tryd.underlying44 rfl (by kernel_rfl) ?_))
      refine (renc6_N (⟨G, ts, tn, Q, 0, 0, 0, 0, 0, 0, zeroC, 0, zeroP, zeroP, 0⟩ : Ms) _ HR.out (HOK.out).1 (HOK.out).2.1 (HOK.out).2.2 ys HYS.out N HN.out).mono ?_
      rintro e w9 ⟨gY, cY, rfl, nY, h9⟩
      replace K2 := Lib.hid ((K2.out).keptB h9)
      replace K6 := Lib.hid ((K6.out).keptB h9)
      replace BA := Lib.hid ((BA.out).keptB h9)
      replace HB := Lib.hid (bstep HB.out h9)
      clear h9
      have BY := Lib.hid nY
      clear nY
      have hq := HSR.out
      subst hq
      go_upto_region 21 with (first | (refine big_convL rfl _ rfl a L C zs rfl BA.out ((FF.out).len) _ HR2.out ?_) | (refine big_convL rfl _ rfl ⟨gY, 0, none⟩ N cY ys rfl BY.out (HN.out) _ HS.out ?_))
      go_wp2_with (first | (refine big_fill rfl 44 _ _ rfl gK2 (msA (⟨G, ts, tn, Q, 0, 0, 0, 0, 0, 0, zeroC, 0, zeroP, zeroP, 0⟩ : Ms)) rfl rfl K2.out (by kernel_rfl) (by kernel_rfl) (by kernel_rfl) ?_; intro vK28 nK2 htK2; replace K2 := Lib.hid nK2; replace K6 := Lib.hid ((K6.out).touch htK2 (Ne.symm NK2K6.out)); replace BA := Lib.hid ((BA.out).touch htK2 NAK2.out); replace HB := Lib.hid (btouch HB.out htK2 LK2.out); clear nK2 htK2) | (refine big_whole rfl 44 _ rfl gK6 rfl K6.out Tryd.underlying44 rfl (by kernel_rfl) ?_))
      refine bodyPost_ret (results_two rfl _ _ gK2 _ (msA (⟨G, ts, tn, Q, 0, 0, 0, 0, 0, 0, zeroC, 0, zeroP, zeroP, 0⟩ : Ms)) (.int .i64 0) _ rfl rfl K2.out Tryd.underlying44 rfl (by kernel_rfl)) rfl ⟨?_, HB.out⟩
      exact HX.out.symm
    · have HR := Lib.hid hr
      have HX := Lib.hid (congrArg Ending.returned (hE1 (.inr hs)))
      obtain ⟨ys, hys⟩ : ∃ ys, encM (⟨G, ts, tn, Q, 0, 0, 0, 0, 0, 0, zeroC, 0, zeroP, zeroP, 0⟩ : Ms) = ys := ⟨_, rfl⟩
      obtain ⟨N, hN⟩ : ∃ N, ys.length = N := ⟨_, rfl⟩
      obtain ⟨S, hS⟩ : ∃ S, strOfNums ys = S := ⟨_, rfl⟩
      obtain ⟨R, hR⟩ : ∃ R, strOfNums zs = R := ⟨_, rfl⟩
      have hne : ¬ S = R := fun h => hs (by rw [hys]; exact (str_eq (by rw [← hys]; exact encM_byte hr (HOK.out).1 (HOK.out).2.1 (HOK.out).2.2) (HBY.out)).1 (by rw [hS, hR]; exact h))
      have HNE : Hid (¬ S.toList = R.toList) := fun h => hne (bytes_inj_ h)
      have HYS := Lib.hid hys
      have HN := Lib.hid hN
      have HS := Lib.hid hS
      have HR2 := Lib.hid hR
      clear hr hs hys hN hS hR hE1 hE2 hne
      go_wp2_with ((refine big_whole rfl 44 _ rfl gK6 rfl K6.out Tryd.underlying44 rfl (by kernel_rfl) ?_))
      refine (renc6_N (⟨G, ts, tn, Q, 0, 0, 0, 0, 0, 0, zeroC, 0, zeroP, zeroP, 0⟩ : Ms) _ HR.out (HOK.out).1 (HOK.out).2.1 (HOK.out).2.2 ys HYS.out N HN.out).mono ?_
      rintro e w9 ⟨gY, cY, rfl, nY, h9⟩
      replace K2 := Lib.hid ((K2.out).keptB h9)
      replace K6 := Lib.hid ((K6.out).keptB h9)
      replace BA := Lib.hid ((BA.out).keptB h9)
      replace HB := Lib.hid (bstep HB.out h9)
      clear h9
      have BY := Lib.hid nY
      clear nY
      have hq := HNE.out
      have hq2 : (!S.toList == R.toList) = true := by simpa using hq
      go_upto_region 20 with (first | (refine big_convL rfl _ rfl a L C zs rfl BA.out ((FF.out).len) _ HR2.out ?_) | (refine big_convL rfl _ rfl ⟨gY, 0, none⟩ N cY ys rfl BY.out (HN.out) _ HS.out ?_))
      go_wp2_with (first | (refine big_fill rfl 44 _ _ rfl gK2 (msA zeroM) rfl rfl K2.out (by kernel_rfl) (by kernel_rfl) (by kernel_rfl) ?_; intro vK29 nK2 htK2; replace K2 := Lib.hid nK2; replace K6 := Lib.hid ((K6.out).touch htK2 (Ne.symm NK2K6.out)); replace BA := Lib.hid ((BA.out).touch htK2 NAK2.out); replace HB := Lib.hid (btouch HB.out htK2 LK2.out); clear nK2 htK2) | (refine big_build rfl 44 _ rfl (msA zeroM) (by kernel_rfl) ?_))
      refine bodyPost_ret (results_two rfl _ _ gK2 _ (msA zeroM) (.int .i64 60) _ rfl rfl K2.out Tryd.underlying44 rfl (by kernel_rfl)) rfl ⟨?_, HB.out⟩
      exact HX.out.symm

end Go.Proofs.YtifhjmhekapaoaaDoor

/- A way of the walk over the reference's Decode of layer 6. -/
namespace Go.Proofs.YtifhjmhekapaoaaDoor
set_option maxRecDepth 100000
open Go.RowKit
set_option linter.unusedVariables false

set_option maxHeartbeats 4000000 in
theorem rd6_0 (a : Addr) (L C : Nat) (zs : List Int) (G : Hd) (ts tn ec : Int) (Q : Pt) (x q3 st : Int) (z47 : Int) (z48 : Int) (z49 : Int) (z52 : Int) (z63 : Int) (w : World) (E : Value) (F : MDF a L C zs G ts tn ec Q x q3 st z47 z48 z49 z52 z63) (hc : BytesAt w a zs) (hby : ∀ z ∈ zs, isByte z) (hok : (⟨G, ts, tn, zeroP, 0, 0, 0, 0, 0, 0, zeroC, 0, zeroP, zeroP, 0⟩ : Ms).h.p.c.ok ∧ (⟨G, ts, tn, zeroP, 0, 0, 0, 0, 0, 0, zeroC, 0, zeroP, zeroP, 0⟩ : Ms).ak.c.ok ∧ (⟨G, ts, tn, zeroP, 0, 0, 0, 0, 0, 0, zeroC, 0, zeroP, zeroP, 0⟩ : Ms).gr.ok) (h9 : ¬ G.t = 9) (h11 : ¬ G.t = 11)
    (hE1 : (⟨G, ts, tn, zeroP, 0, 0, 0, 0, 0, 0, zeroC, 0, zeroP, zeroP, 0⟩ : Ms).right = false ∨ encM (⟨G, ts, tn, zeroP, 0, 0, 0, 0, 0, 0, zeroC, 0, zeroP, zeroP, 0⟩ : Ms) ≠ zs → E = .tuple #[.agg (msA zeroM), .int .i64 60]) (hE2 : (⟨G, ts, tn, zeroP, 0, 0, 0, 0, 0, 0, zeroC, 0, zeroP, zeroP, 0⟩ : Ms).right = true ∧ encM (⟨G, ts, tn, zeroP, 0, 0, 0, 0, 0, 0, zeroC, 0, zeroP, zeroP, 0⟩ : Ms) = zs → E = .tuple #[.agg (msA (⟨G, ts, tn, zeroP, 0, 0, 0, 0, 0, 0, zeroC, 0, zeroP, zeroP, 0⟩ : Ms)), .int .i64 0]) :
    Calls Tryd.prog 16 #[.slice (some a) L C] w fun e w' => e = .returned E ∧ Below w.heap.size w w' := by
  have HB := Lib.hid (Below.refl w.heap.size w)
  have HBY := Lib.hid hby
  have HOK := Lib.hid hok
  clear hby hok
  have BA := Lib.hid hc
  have FF := Lib.hid F
  have k1 := F.l44
  have k2 := F.lc
  have k3 := F.cm
  unfold maxLen at k3
  clear F hc
  have d9 : (G.t == 9) = false := by simp [h9]
  have d11 : (G.t == 11) = false := by simp [h11]
  clear h9 h11
  go_enter Tryd.func16, Tryd.ntmps16
  go_wp2_with ((refine big_alloc rfl 44 rfl (msA zeroM) (by kernel_rfl) ?_; intro gK2 wK2 hlK2 nK2 hbK2; have K2 := Lib.hid nK2; have LK2 := Lib.hid (Nat.le_trans (HB.out).size hlK2); have NAK2 := Lib.hid (show a.block ≠ gK2 by have := (BA.out).inside (by rw [(FF.out).len]; omega); omega); replace BA := Lib.hid ((BA.out).keptB hbK2); replace HB := Lib.hid (bstep HB.out hbK2); clear hlK2 nK2 hbK2))
  refine ((FF.out).c1 _ BA.out).mono ?_
  rintro e w1 ⟨rfl, h1⟩
  replace K2 := Lib.hid ((K2.out).keptB h1)
  replace BA := Lib.hid ((BA.out).keptB h1)
  replace HB := Lib.hid (bstep HB.out h1)
  clear h1
  go_upto_region 5 with (first | (refine big_fill rfl 44 _ _ rfl gK6 (msA (⟨G, 0, 0, zeroP, 0, 0, 0, 0, 0, 0, zeroC, 0, zeroP, zeroP, 0⟩ : Ms)) rfl rfl K6.out (by kernel_rfl) (by kernel_rfl) (by kernel_rfl) ?_; intro vK60 nK6 htK6; replace K6 := Lib.hid nK6; replace K2 := Lib.hid ((K2.out).touch htK6 NK2K6.out); replace K4 := Lib.hid ((K4.out).touch htK6 NK4K6.out); replace BA := Lib.hid ((BA.out).touch htK6 NAK6.out); replace HB := Lib.hid (btouch HB.out htK6 LK6.out); clear nK6 htK6) | (refine big_alloc rfl 44 rfl (msA zeroM) (by kernel_rfl) ?_; intro gK6 wK6 hlK6 nK6 hbK6; have K6 := Lib.hid nK6; have LK6 := Lib.hid (Nat.le_trans (HB.out).size hlK6); have NAK6 := Lib.hid (show a.block ≠ gK6 by have := (BA.out).inside (by rw [(FF.out).len]; omega); omega); have NK2K6 := Lib.hid (show gK2 ≠ gK6 by have := (K2.out).inside; omega); have NK4K6 := Lib.hid (show gK4 ≠ gK6 by have := (K4.out).inside; omega); replace K2 := Lib.hid ((K2.out).keptB hbK6); replace K4 := Lib.hid ((K4.out).keptB hbK6); replace BA := Lib.hid ((BA.out).keptB hbK6); replace HB := Lib.hid (bstep HB.out hbK6); clear hlK6 nK6 hbK6) | (refine big_build rfl 44 _ rfl (msA (⟨G, 0, 0, zeroP, 0, 0, 0, 0, 0, 0, zeroC, 0, zeroP, zeroP, 0⟩ : Ms)) (by kernel_rfl) ?_) | (refine big_whole rfl 32 _ rfl gK4 rfl K4.out Tryd.underlying32 rfl (by kernel_rfl) ?_) | (refine big_fill rfl 32 _ _ rfl gK4 (#[.int .i64 G.t, .int .i64 G.d, .int .i64 G.f, .int .i64 G.c, .int .u8 G.p.c.b0, .int .u8 G.p.c.b1, .int .u8 G.p.c.b2, .int .u8 G.p.c.b3, .int .u8 G.p.c.b4, .int .u8 G.p.c.b5, .int .u8 G.p.c.b6, .int .u8 G.p.c.b7, .int .i64 G.p.n, .int .i64 G.s, .int .i64 G.l]) rfl rfl K4.out (by kernel_rfl) (by kernel_rfl) (by kernel_rfl) ?_; intro vK40 nK4 htK4; replace K4 := Lib.hid nK4; replace K2 := Lib.hid ((K2.out).touch htK4 NK2K4.out); replace BA := Lib.hid ((BA.out).touch htK4 NAK4.out); replace HB := Lib.hid (btouch HB.out htK4 LK4.out); clear nK4 htK4) | (refine big_alloc rfl 32 rfl (#[.int .i64 0, .int .i64 0, .int .i64 0, .int .i64 0, .int .u8 0, .int .u8 0, .int .u8 0, .int .u8 0, .int .u8 0, .int .u8 0, .int .u8 0, .int .u8 0, .int .i64 0, .int .i64 0, .int .i64 0]) (by kernel_rfl) ?_; intro gK4 wK4 hlK4 nK4 hbK4; have K4 := Lib.hid nK4; have LK4 := Lib.hid (Nat.le_trans (HB.out).size hlK4); have NAK4 := Lib.hid (show a.block ≠ gK4 by have := (BA.out).inside (by rw [(FF.out).len]; omega); omega); have NK2K4 := Lib.hid (show gK2 ≠ gK4 by have := (K2.out).inside; omega); replace K2 := Lib.hid ((K2.out).keptB hbK4); replace BA := Lib.hid ((BA.out).keptB hbK4); replace HB := Lib.hid (bstep HB.out hbK4); clear hlK4 nK4 hbK4))
  have s34 := (FF.out).s34
  go_wp2_with fail
  clear s34
  refine ((FF.out).ct _ BA.out).mono ?_
  rintro e w2 ⟨rfl, h2⟩
  replace K2 := Lib.hid ((K2.out).keptB h2)
  replace K4 := Lib.hid ((K4.out).keptB h2)
  replace K6 := Lib.hid ((K6.out).keptB h2)
  replace BA := Lib.hid ((BA.out).keptB h2)
  replace HB := Lib.hid (bstep HB.out h2)
  clear h2
  go_upto_region 6 with (refine big_store rfl 38 _ _ rfl gK6 15 [.int .i64 ts, .int .i64 tn] rfl rfl K6.out (by kernel_rfl) (by kernel_rfl) (of_decide_eq_true (by kernel_rfl)) (msA (⟨G, ts, tn, zeroP, 0, 0, 0, 0, 0, 0, zeroC, 0, zeroP, zeroP, 0⟩ : Ms)) (by kernel_rfl) ?_; intro vK60 nK6 htK6; replace K6 := Lib.hid nK6; replace K2 := Lib.hid ((K2.out).touch htK6 NK2K6.out); replace K4 := Lib.hid ((K4.out).touch htK6 NK4K6.out); replace BA := Lib.hid ((BA.out).touch htK6 NAK6.out); replace HB := Lib.hid (btouch HB.out htK6 LK6.out); clear nK6 htK6)
  have y0 := (K4.out).reads (i := 0) (x := .int .i64 G.t) rfl
  go_upto_region 18 with fail
  clear y0 K4
  cases hr : (⟨G, ts, tn, zeroP, 0, 0, 0, 0, 0, 0, zeroC, 0, zeroP, zeroP, 0⟩ : Ms).right
  · have HR := Lib.hid hr
    have HX := Lib.hid (congrArg Ending.returned (hE1 (.inl hr)))
    clear hr hE1 hE2
    go_wp2_with ((refine big_whole rfl 44 _ rfl gK6 rfl K6.out Tryd.underlying44 rfl (by kernel_rfl) ?_))
    refine (renc6_no (⟨G, ts, tn, zeroP, 0, 0, 0, 0, 0, 0, zeroC, 0, zeroP, zeroP, 0⟩ : Ms) _ HR.out).mono ?_
    rintro e w9 ⟨rfl, h9⟩
    replace K2 := Lib.hid ((K2.out).keptB h9)
    replace K6 := Lib.hid ((K6.out).keptB h9)
    replace BA := Lib.hid ((BA.out).keptB h9)
    replace HB := Lib.hid (bstep HB.out h9)
    clear h9
    go_wp2_with (first | (refine big_fill rfl 44 _ _ rfl gK2 (msA zeroM) rfl rfl K2.out (by kernel_rfl) (by kernel_rfl) (by kernel_rfl) ?_; intro vK29 nK2 htK2; replace K2 := Lib.hid nK2; replace K6 := Lib.hid ((K6.out).touch htK2 (Ne.symm NK2K6.out)); replace BA := Lib.hid ((BA.out).touch htK2 NAK2.out); replace HB := Lib.hid (btouch HB.out htK2 LK2.out); clear nK2 htK2) | (refine big_build rfl 44 _ rfl (msA zeroM) (by kernel_rfl) ?_))
    refine bodyPost_ret (results_two rfl _ _ gK2 _ (msA zeroM) (.int .i64 60) _ rfl rfl K2.out Tryd.underlying44 rfl (by kernel_rfl)) rfl ⟨?_, HB.out⟩
    exact HX.out.symm
  · by_cases hs : encM (⟨G, ts, tn, zeroP, 0, 0, 0, 0, 0, 0, zeroC, 0, zeroP, zeroP, 0⟩ : Ms) = zs
    · have HR := Lib.hid hr
      have HX := Lib.hid (congrArg Ending.returned (hE2 ⟨hr, hs⟩))
      obtain ⟨ys, hys⟩ : ∃ ys, encM (⟨G, ts, tn, zeroP, 0, 0, 0, 0, 0, 0, zeroC, 0, zeroP, zeroP, 0⟩ : Ms) = ys := ⟨_, rfl⟩
      obtain ⟨N, hN⟩ : ∃ N, ys.length = N := ⟨_, rfl⟩
      obtain ⟨S, hS⟩ : ∃ S, strOfNums ys = S := ⟨_, rfl⟩
      obtain ⟨R, hR⟩ : ∃ R, strOfNums zs = R := ⟨_, rfl⟩
      have hSR : S = R := by rw [← hS, ← hR, ← hys, hs]
      have HYS := Lib.hid hys
      have HN := Lib.hid hN
      have HS := Lib.hid hS
      have HR2 := Lib.hid hR
      clear hr hs hys hN hS hR hE1 hE2
      have HSR := Lib.hid hSR
      clear hSR
      go_wp2_with ((refine big_whole rfl 44 _ rfl gK6 rfl K6.out Tryd.underlying44 rfl (by kernel_rfl) ?_))
      refine (renc6_N (⟨G, ts, tn, zeroP, 0, 0, 0, 0, 0, 0, zeroC, 0, zeroP, zeroP, 0⟩ : Ms) _ HR.out (HOK.out).1 (HOK.out).2.1 (HOK.out).2.2 ys HYS.out N HN.out).mono ?_
      rintro e w9 ⟨gY, cY, rfl, nY, h9⟩
      replace K2 := Lib.hid ((K2.out).keptB h9)
      replace K6 := Lib.hid ((K6.out).keptB h9)
      replace BA := Lib.hid ((BA.out).keptB h9)
      replace HB := Lib.hid (bstep HB.out h9)
      clear h9
      have BY := Lib.hid nY
      clear nY
      have hq := HSR.out
      subst hq
      go_upto_region 21 with (first | (refine big_convL rfl _ rfl a L C zs rfl BA.out ((FF.out).len) _ HR2.out ?_) | (refine big_convL rfl _ rfl ⟨gY, 0, none⟩ N cY ys rfl BY.out (HN.out) _ HS.out ?_))
      go_wp2_with (first | (refine big_fill rfl 44 _ _ rfl gK2 (msA (⟨G, ts, tn, zeroP, 0, 0, 0, 0, 0, 0, zeroC, 0, zeroP, zeroP, 0⟩ : Ms)) rfl rfl K2.out (by kernel_rfl) (by kernel_rfl) (by kernel_rfl) ?_; intro vK28 nK2 htK2; replace K2 := Lib.hid nK2; replace K6 := Lib.hid ((K6.out).touch htK2 (Ne.symm NK2K6.out)); replace BA := Lib.hid ((BA.out).touch htK2 NAK2.out); replace HB := Lib.hid (btouch HB.out htK2 LK2.out); clear nK2 htK2) | (refine big_whole rfl 44 _ rfl gK6 rfl K6.out Tryd.underlying44 rfl (by kernel_rfl) ?_))
      refine bodyPost_ret (results_two rfl _ _ gK2 _ (msA (⟨G, ts, tn, zeroP, 0, 0, 0, 0, 0, 0, zeroC, 0, zeroP, zeroP, 0⟩ : Ms)) (.int .i64 0) _ rfl rfl K2.out Tryd.underlying44 rfl (by kernel_rfl)) rfl ⟨?_, HB.out⟩
      exact HX.out.symm
    · have HR := Lib.hid hr
      have HX := Lib.hid (congrArg Ending.returned (hE1 (.inr hs)))
      obtain ⟨ys, hys⟩ : ∃ ys, encM (⟨G, ts, tn, zeroP, 0, 0, 0, 0, 0, 0, zeroC, 0, zeroP, zeroP, 0⟩ : Ms) = ys := ⟨_, rfl⟩
      obtain ⟨N, hN⟩ : ∃ N, ys.length = N := ⟨_, rfl⟩
      obtain ⟨S, hS⟩ : ∃ S, strOfNums ys = S := ⟨_, rfl⟩
      obtain ⟨R, hR⟩ : ∃ R, strOfNums zs = R := ⟨_, rfl⟩
      have hne : ¬ S = R := fun h => hs (by rw [hys]; exact (str_eq (by rw [← hys]; exact encM_byte hr (HOK.out).1 (HOK.out).2.1 (HOK.out).2.2) (HBY.out)).1 (by rw [hS, hR]; exact h))
      have HNE : Hid (¬ S.toList = R.toList) := fun h => hne (bytes_inj_ h)
      have HYS := Lib.hid hys
      have HN := Lib.hid hN
      have HS := Lib.hid hS
      have HR2 := Lib.hid hR
      clear hr hs hys hN hS hR hE1 hE2 hne
      go_wp2_with ((refine big_whole rfl 44 _ rfl gK6 rfl K6.out Tryd.underlying44 rfl (by kernel_rfl) ?_))
      refine (renc6_N (⟨G, ts, tn, zeroP, 0, 0, 0, 0, 0, 0, zeroC, 0, zeroP, zeroP, 0⟩ : Ms) _ HR.out (HOK.out).1 (HOK.out).2.1 (HOK.out).2.2 ys HYS.out N HN.out).mono ?_
      rintro e w9 ⟨gY, cY, rfl, nY, h9⟩
      replace K2 := Lib.hid ((K2.out).keptB h9)
      replace K6 := Lib.hid ((K6.out).keptB h9)
      replace BA := Lib.hid ((BA.out).keptB h9)
      replace HB := Lib.hid (bstep HB.out h9)
      clear h9
      have BY := Lib.hid nY
      clear nY
      have hq := HNE.out
      have hq2 : (!S.toList == R.toList) = true := by simpa using hq
      go_upto_region 20 with (first | (refine big_convL rfl _ rfl a L C zs rfl BA.out ((FF.out).len) _ HR2.out ?_) | (refine big_convL rfl _ rfl ⟨gY, 0, none⟩ N cY ys rfl BY.out (HN.out) _ HS.out ?_))
      go_wp2_with (first | (refine big_fill rfl 44 _ _ rfl gK2 (msA zeroM) rfl rfl K2.out (by kernel_rfl) (by kernel_rfl) (by kernel_rfl) ?_; intro vK29 nK2 htK2; replace K2 := Lib.hid nK2; replace K6 := Lib.hid ((K6.out).touch htK2 (Ne.symm NK2K6.out)); replace BA := Lib.hid ((BA.out).touch htK2 NAK2.out); replace HB := Lib.hid (btouch HB.out htK2 LK2.out); clear nK2 htK2) | (refine big_build rfl 44 _ rfl (msA zeroM) (by kernel_rfl) ?_))
      refine bodyPost_ret (results_two rfl _ _ gK2 _ (msA zeroM) (.int .i64 60) _ rfl rfl K2.out Tryd.underlying44 rfl (by kernel_rfl)) rfl ⟨?_, HB.out⟩
      exact HX.out.symm

end Go.Proofs.YtifhjmhekapaoaaDoor

/- A way of the walk over the reference's Decode of layer 6. -/
namespace Go.Proofs.YtifhjmhekapaoaaDoor
set_option maxRecDepth 100000
open Go.RowKit
set_option linter.unusedVariables false

set_option maxHeartbeats 4000000 in
theorem rd6_h (a : Addr) (L C : Nat) (zs : List Int) (G : Hd) (ts tn ec : Int) (Q : Pt) (x q3 st : Int) (z47 : Int) (z48 : Int) (z49 : Int) (z52 : Int) (z63 : Int) (w : World) (E : Value) (F : MDF a L C zs G ts tn ec Q x q3 st z47 z48 z49 z52 z63) (hc : BytesAt w a zs) (hby : ∀ z ∈ zs, isByte z) (hok : (⟨G, ts, tn, zeroP, (x - 65536), z47, z52, z48, z49, q3, (part8 (fun i => zs.getD (53 + i) 0) 8), st, G.p, zeroP, z63⟩ : Ms).h.p.c.ok ∧ (⟨G, ts, tn, zeroP, (x - 65536), z47, z52, z48, z49, q3, (part8 (fun i => zs.getD (53 + i) 0) 8), st, G.p, zeroP, z63⟩ : Ms).ak.c.ok ∧ (⟨G, ts, tn, zeroP, (x - 65536), z47, z52, z48, z49, q3, (part8 (fun i => zs.getD (53 + i) 0) 8), st, G.p, zeroP, z63⟩ : Ms).gr.ok) (h11 : G.t = 11) (hx : 32767 < x) (f11 : MD11 a L C zs G ts tn ec Q x q3 st z47 z48 z49 z52 z63)
    (hE1 : (⟨G, ts, tn, zeroP, (x - 65536), z47, z52, z48, z49, q3, (part8 (fun i => zs.getD (53 + i) 0) 8), st, G.p, zeroP, z63⟩ : Ms).right = false ∨ encM (⟨G, ts, tn, zeroP, (x - 65536), z47, z52, z48, z49, q3, (part8 (fun i => zs.getD (53 + i) 0) 8), st, G.p, zeroP, z63⟩ : Ms) ≠ zs → E = .tuple #[.agg (msA zeroM), .int .i64 60]) (hE2 : (⟨G, ts, tn, zeroP, (x - 65536), z47, z52, z48, z49, q3, (part8 (fun i => zs.getD (53 + i) 0) 8), st, G.p, zeroP, z63⟩ : Ms).right = true ∧ encM (⟨G, ts, tn, zeroP, (x - 65536), z47, z52, z48, z49, q3, (part8 (fun i => zs.getD (53 + i) 0) 8), st, G.p, zeroP, z63⟩ : Ms) = zs → E = .tuple #[.agg (msA (⟨G, ts, tn, zeroP, (x - 65536), z47, z52, z48, z49, q3, (part8 (fun i => zs.getD (53 + i) 0) 8), st, G.p, zeroP, z63⟩ : Ms)), .int .i64 0]) :
    Calls Tryd.prog 16 #[.slice (some a) L C] w fun e w' => e = .returned E ∧ Below w.heap.size w w' := by
  have HB := Lib.hid (Below.refl w.heap.size w)
  have HBY := Lib.hid hby
  have HOK := Lib.hid hok
  clear hby hok
  have BA := Lib.hid hc
  have FF := Lib.hid F
  have k1 := F.l44
  have k2 := F.lc
  have k3 := F.cm
  unfold maxLen at k3
  clear F hc
  have d9 : (G.t == 9) = false := by simp; omega
  have d11 : (G.t == 11) = true := by simp [h11]
  have dx : decide (32767 < x) = true := by simp; omega
  have FE := Lib.hid f11
  have k4 := f11.l64
  have k5 := f11.bx
  have kb47 := f11.b47
  have kb48 := f11.b48
  have kb49 := f11.b49
  have kb52 := f11.b52
  have kb63 := f11.b63
  clear h11 hx f11
  go_enter Tryd.func16, Tryd.ntmps16
  go_wp2_with ((refine big_alloc rfl 44 rfl (msA zeroM) (by kernel_rfl) ?_; intro gK2 wK2 hlK2 nK2 hbK2; have K2 := Lib.hid nK2; have LK2 := Lib.hid (Nat.le_trans (HB.out).size hlK2); have NAK2 := Lib.hid (show a.block ≠ gK2 by have := (BA.out).inside (by rw [(FF.out).len]; omega); omega); replace BA := Lib.hid ((BA.out).keptB hbK2); replace HB := Lib.hid (bstep HB.out hbK2); clear hlK2 nK2 hbK2))
  refine ((FF.out).c1 _ BA.out).mono ?_
  rintro e w1 ⟨rfl, h1⟩
  replace K2 := Lib.hid ((K2.out).keptB h1)
  replace BA := Lib.hid ((BA.out).keptB h1)
  replace HB := Lib.hid (bstep HB.out h1)
  clear h1
  go_upto_region 5 with (first | (refine big_fill rfl 44 _ _ rfl gK6 (msA (⟨G, 0, 0, zeroP, 0, 0, 0, 0, 0, 0, zeroC, 0, zeroP, zeroP, 0⟩ : Ms)) rfl rfl K6.out (by kernel_rfl) (by kernel_rfl) (by kernel_rfl) ?_; intro vK60 nK6 htK6; replace K6 := Lib.hid nK6; replace K2 := Lib.hid ((K2.out).touch htK6 NK2K6.out); replace K4 := Lib.hid ((K4.out).touch htK6 NK4K6.out); replace BA := Lib.hid ((BA.out).touch htK6 NAK6.out); replace HB := Lib.hid (btouch HB.out htK6 LK6.out); clear nK6 htK6) | (refine big_alloc rfl 44 rfl (msA zeroM) (by kernel_rfl) ?_; intro gK6 wK6 hlK6 nK6 hbK6; have K6 := Lib.hid nK6; have LK6 := Lib.hid (Nat.le_trans (HB.out).size hlK6); have NAK6 := Lib.hid (show a.block ≠ gK6 by have := (BA.out).inside (by rw [(FF.out).len]; omega); omega); have NK2K6 := Lib.hid (show gK2 ≠ gK6 by have := (K2.out).inside; omega); have NK4K6 := Lib.hid (show gK4 ≠ gK6 by have := (K4.out).inside; omega); replace K2 := Lib.hid ((K2.out).keptB hbK6); replace K4 := Lib.hid ((K4.out).keptB hbK6); replace BA := Lib.hid ((BA.out).keptB hbK6); replace HB := Lib.hid (bstep HB.out hbK6); clear hlK6 nK6 hbK6) | (refine big_build rfl 44 _ rfl (msA (⟨G, 0, 0, zeroP, 0, 0, 0, 0, 0, 0, zeroC, 0, zeroP, zeroP, 0⟩ : Ms)) (by kernel_rfl) ?_) | (refine big_whole rfl 32 _ rfl gK4 rfl K4.out Tryd.underlying32 rfl (by kernel_rfl) ?_) | (refine big_fill rfl 32 _ _ rfl gK4 (#[.int .i64 G.t, .int .i64 G.d, .int .i64 G.f, .int .i64 G.c, .int .u8 G.p.c.b0, .int .u8 G.p.c.b1, .int .u8 G.p.c.b2, .int .u8 G.p.c.b3, .int .u8 G.p.c.b4, .int .u8 G.p.c.b5, .int .u8 G.p.c.b6, .int .u8 G.p.c.b7, .int .i64 G.p.n, .int .i64 G.s, .int .i64 G.l]) rfl rfl K4.out (by kernel_rfl) (by kernel_rfl) (by kernel_rfl) ?_; intro vK40 nK4 htK4; replace K4 := Lib.hid nK4; replace K2 := Lib.hid ((K2.out).touch htK4 NK2K4.out); replace BA := Lib.hid ((BA.out).touch htK4 NAK4.out); replace HB := Lib.hid (btouch HB.out htK4 LK4.out); clear nK4 htK4) | (refine big_alloc rfl 32 rfl (#[.int .i64 0, .int .i64 0, .int .i64 0, .int .i64 0, .int .u8 0, .int .u8 0, .int .u8 0, .int .u8 0, .int .u8 0, .int .u8 0, .int .u8 0, .int .u8 0, .int .i64 0, .int .i64 0, .int .i64 0]) (by kernel_rfl) ?_; intro gK4 wK4 hlK4 nK4 hbK4; have K4 := Lib.hid nK4; have LK4 := Lib.hid (Nat.le_trans (HB.out).size hlK4); have NAK4 := Lib.hid (show a.block ≠ gK4 by have := (BA.out).inside (by rw [(FF.out).len]; omega); omega); have NK2K4 := Lib.hid (show gK2 ≠ gK4 by have := (K2.out).inside; omega); replace K2 := Lib.hid ((K2.out).keptB hbK4); replace BA := Lib.hid ((BA.out).keptB hbK4); replace HB := Lib.hid (bstep HB.out hbK4); clear hlK4 nK4 hbK4))
  have s34 := (FF.out).s34
  go_wp2_with fail
  clear s34
  refine ((FF.out).ct _ BA.out).mono ?_
  rintro e w2 ⟨rfl, h2⟩
  replace K2 := Lib.hid ((K2.out).keptB h2)
  replace K4 := Lib.hid ((K4.out).keptB h2)
  replace K6 := Lib.hid ((K6.out).keptB h2)
  replace BA := Lib.hid ((BA.out).keptB h2)
  replace HB := Lib.hid (bstep HB.out h2)
  clear h2
  go_upto_region 6 with (refine big_store rfl 38 _ _ rfl gK6 15 [.int .i64 ts, .int .i64 tn] rfl rfl K6.out (by kernel_rfl) (by kernel_rfl) (of_decide_eq_true (by kernel_rfl)) (msA (⟨G, ts, tn, zeroP, 0, 0, 0, 0, 0, 0, zeroC, 0, zeroP, zeroP, 0⟩ : Ms)) (by kernel_rfl) ?_; intro vK60 nK6 htK6; replace K6 := Lib.hid nK6; replace K2 := Lib.hid ((K2.out).touch htK6 NK2K6.out); replace K4 := Lib.hid ((K4.out).touch htK6 NK4K6.out); replace BA := Lib.hid ((BA.out).touch htK6 NAK6.out); replace HB := Lib.hid (btouch HB.out htK6 LK6.out); clear nK6 htK6)
  have y0 := (K4.out).reads (i := 0) (x := .int .i64 G.t) rfl
  go_upto_region 9 with fail
  clear y0
  go_wp2_with fail
  refine ((FE.out).cx _ BA.out).mono ?_
  rintro e w3 ⟨rfl, h3⟩
  replace K2 := Lib.hid ((K2.out).keptB h3)
  replace K4 := Lib.hid ((K4.out).keptB h3)
  replace K6 := Lib.hid ((K6.out).keptB h3)
  replace BA := Lib.hid ((BA.out).keptB h3)
  replace HB := Lib.hid (bstep HB.out h3)
  clear h3
  go_upto_region 10 with (refine big_set rfl 3 _ _ rfl gK6 26 (.int .i64 x) rfl rfl K6.out (by kernel_rfl) rfl rfl (of_decide_eq_true (by kernel_rfl)) (msA (⟨G, ts, tn, zeroP, x, 0, 0, 0, 0, 0, zeroC, 0, zeroP, zeroP, 0⟩ : Ms)) (by kernel_rfl) ?_; intro vK61 nK6 htK6; replace K6 := Lib.hid nK6; replace K2 := Lib.hid ((K2.out).touch htK6 NK2K6.out); replace K4 := Lib.hid ((K4.out).touch htK6 NK4K6.out); replace BA := Lib.hid ((BA.out).touch htK6 NAK6.out); replace HB := Lib.hid (btouch HB.out htK6 LK6.out); clear nK6 htK6)
  have y26 := (K6.out).reads (i := 26) (x := .int .i64 x) rfl
  go_upto_region 12 with (refine big_set rfl 3 _ _ rfl gK6 26 (.int .i64 (x - 65536)) rfl rfl K6.out (by kernel_rfl) rfl rfl (of_decide_eq_true (by kernel_rfl)) (msA (⟨G, ts, tn, zeroP, (x - 65536), 0, 0, 0, 0, 0, zeroC, 0, zeroP, zeroP, 0⟩ : Ms)) (by kernel_rfl) ?_; intro vK62 nK6 htK6; replace K6 := Lib.hid nK6; replace K2 := Lib.hid ((K2.out).touch htK6 NK2K6.out); replace K4 := Lib.hid ((K4.out).touch htK6 NK4K6.out); replace BA := Lib.hid ((BA.out).touch htK6 NAK6.out); replace HB := Lib.hid (btouch HB.out htK6 LK6.out); clear nK6 htK6)
  clear y26
  replace K2 := Lib.hid ((K2.out).drew)
  replace K6 := Lib.hid ((K6.out).drew)
  refine wp_region_noPanic ?_
  refine wp_region_held_drew (S := fun v => Below w.heap.size w v ∧ Holds v gK4 32 #[.int .i64 G.t, .int .i64 G.d, .int .i64 G.f, .int .i64 G.c, .int .u8 G.p.c.b0, .int .u8 G.p.c.b1, .int .u8 G.p.c.b2, .int .u8 G.p.c.b3, .int .u8 G.p.c.b4, .int .u8 G.p.c.b5, .int .u8 G.p.c.b6, .int .u8 G.p.c.b7, .int .i64 G.p.n, .int .i64 G.s, .int .i64 G.l] ∧ BytesAt v a zs) (by kernel_rfl) ?_ (fun hHeld => ?_)
  · exact ⟨bdrew HB.out, (K4.out).drew, (BA.out).drew⟩
  clear HB K4 BA
  refine wpAnyH_take (i := 0) (v := .slice (some a) L C) (at_list rfl) (by kernel_rfl) (by kernel_rfl) (by kernel_rfl) (fun _ _ _ h => h) (Or.inl ⟨by rfl, ?_⟩) hHeld ?_
  · intro v hSv
    clear hHeld
    go_simp
  try simp only [Act.put, List.setIfInBounds_toArray, List.set_cons_zero, List.set_cons_succ]
  refine wpAnyH_take (i := 1) (v := .pointer (some ⟨a.block, a.off + 47, none⟩)) (at_list rfl) (by kernel_rfl) (by kernel_rfl) (by kernel_rfl) (fun _ _ _ h => h) (Or.inl ⟨by rfl, ?_⟩) hHeld ?_
  · intro v hSv
    clear hHeld
    clear hSv
    go_simp
    intro h
    exfalso
    omega
  try simp only [Act.put, List.setIfInBounds_toArray, List.set_cons_zero, List.set_cons_succ]
  refine wpAnyH_take (i := 2) (v := .int .u8 z47) (at_list rfl) (by kernel_rfl) (by kernel_rfl) (by kernel_rfl) (fun _ _ _ h => h) (Or.inl ⟨by rfl, ?_⟩) hHeld ?_
  · intro v hSv
    clear hHeld
    have c47 := (FE.out).v47 v hSv.2.2
    clear hSv
    go_simp
  try simp only [Act.put, List.setIfInBounds_toArray, List.set_cons_zero, List.set_cons_succ]
  refine wpAnyH_take (i := 3) (v := .int .i64 z47) (at_list rfl) (by kernel_rfl) (by kernel_rfl) (by kernel_rfl) (fun _ _ _ h => h) (Or.inl ⟨by rfl, ?_⟩) hHeld ?_
  · intro v hSv
    clear hHeld
    clear hSv
    go_simp
    rw [IntKind.wrap_i64]
    omega
  try simp only [Act.put, List.setIfInBounds_toArray, List.set_cons_zero, List.set_cons_succ]
  refine wpAnyH_take (i := 4) (v := .slice (some a) L C) (at_list rfl) (by kernel_rfl) (by kernel_rfl) (by kernel_rfl) (fun _ _ _ h => h) (Or.inl ⟨by rfl, ?_⟩) hHeld ?_
  · intro v hSv
    clear hHeld
    go_simp
  try simp only [Act.put, List.setIfInBounds_toArray, List.set_cons_zero, List.set_cons_succ]
  refine wpAnyH_take (i := 5) (v := .pointer (some ⟨a.block, a.off + 52, none⟩)) (at_list rfl) (by kernel_rfl) (by kernel_rfl) (by kernel_rfl) (fun _ _ _ h => h) (Or.inl ⟨by rfl, ?_⟩) hHeld ?_
  · intro v hSv
    clear hHeld
    clear hSv
    go_simp
    intro h
    exfalso
    omega
  try simp only [Act.put, List.setIfInBounds_toArray, List.set_cons_zero, List.set_cons_succ]
  refine wpAnyH_take (i := 6) (v := .int .u8 z52) (at_list rfl) (by kernel_rfl) (by kernel_rfl) (by kernel_rfl) (fun _ _ _ h => h) (Or.inl ⟨by rfl, ?_⟩) hHeld ?_
  · intro v hSv
    clear hHeld
    have c52 := (FE.out).v52 v hSv.2.2
    clear hSv
    go_simp
  try simp only [Act.put, List.setIfInBounds_toArray, List.set_cons_zero, List.set_cons_succ]
  refine wpAnyH_take (i := 7) (v := .int .i64 z52) (at_list rfl) (by kernel_rfl) (by kernel_rfl) (by kernel_rfl) (fun _ _ _ h => h) (Or.inl ⟨by rfl, ?_⟩) hHeld ?_
  · intro v hSv
    clear hHeld
    clear hSv
    go_simp
    rw [IntKind.wrap_i64]
    omega
  try simp only [Act.put, List.setIfInBounds_toArray, List.set_cons_zero, List.set_cons_succ]
  refine wpAnyH_take (i := 8) (v := .slice (some a) L C) (at_list rfl) (by kernel_rfl) (by kernel_rfl) (by kernel_rfl) (fun _ _ _ h => h) (Or.inl ⟨by rfl, ?_⟩) hHeld ?_
  · intro v hSv
    clear hHeld
    go_simp
  try simp only [Act.put, List.setIfInBounds_toArray, List.set_cons_zero, List.set_cons_succ]
  refine wpAnyH_take (i := 9) (v := .pointer (some ⟨a.block, a.off + 48, none⟩)) (at_list rfl) (by kernel_rfl) (by kernel_rfl) (by kernel_rfl) (fun _ _ _ h => h) (Or.inl ⟨by rfl, ?_⟩) hHeld ?_
  · intro v hSv
    clear hHeld
    clear hSv
    go_simp
    intro h
    exfalso
    omega
  try simp only [Act.put, List.setIfInBounds_toArray, List.set_cons_zero, List.set_cons_succ]
  refine wpAnyH_take (i := 10) (v := .int .u8 z48) (at_list rfl) (by kernel_rfl) (by kernel_rfl) (by kernel_rfl) (fun _ _ _ h => h) (Or.inl ⟨by rfl, ?_⟩) hHeld ?_
  · intro v hSv
    clear hHeld
    have c48 := (FE.out).v48 v hSv.2.2
    clear hSv
    go_simp
  try simp only [Act.put, List.setIfInBounds_toArray, List.set_cons_zero, List.set_cons_succ]
  refine wpAnyH_take (i := 11) (v := .int .i64 z48) (at_list rfl) (by kernel_rfl) (by kernel_rfl) (by kernel_rfl) (fun _ _ _ h => h) (Or.inl ⟨by rfl, ?_⟩) hHeld ?_
  · intro v hSv
    clear hHeld
    clear hSv
    go_simp
    rw [IntKind.wrap_i64]
    omega
  try simp only [Act.put, List.setIfInBounds_toArray, List.set_cons_zero, List.set_cons_succ]
  refine wpAnyH_take (i := 12) (v := .slice (some a) L C) (at_list rfl) (by kernel_rfl) (by kernel_rfl) (by kernel_rfl) (fun _ _ _ h => h) (Or.inl ⟨by rfl, ?_⟩) hHeld ?_
  · intro v hSv
    clear hHeld
    go_simp
  try simp only [Act.put, List.setIfInBounds_toArray, List.set_cons_zero, List.set_cons_succ]
  refine wpAnyH_take (i := 13) (v := .pointer (some ⟨a.block, a.off + 49, none⟩)) (at_list rfl) (by kernel_rfl) (by kernel_rfl) (by kernel_rfl) (fun _ _ _ h => h) (Or.inl ⟨by rfl, ?_⟩) hHeld ?_
  · intro v hSv
    clear hHeld
    clear hSv
    go_simp
    intro h
    exfalso
    omega
  try simp only [Act.put, List.setIfInBounds_toArray, List.set_cons_zero, List.set_cons_succ]
  refine wpAnyH_take (i := 14) (v := .int .u8 z49) (at_list rfl) (by kernel_rfl) (by kernel_rfl) (by kernel_rfl) (fun _ _ _ h => h) (Or.inl ⟨by rfl, ?_⟩) hHeld ?_
  · intro v hSv
    clear hHeld
    have c49 := (FE.out).v49 v hSv.2.2
    clear hSv
    go_simp
  try simp only [Act.put, List.setIfInBounds_toArray, List.set_cons_zero, List.set_cons_succ]
  refine wpAnyH_take (i := 15) (v := .int .i64 z49) (at_list rfl) (by kernel_rfl) (by kernel_rfl) (by kernel_rfl) (fun _ _ _ h => h) (Or.inl ⟨by rfl, ?_⟩) hHeld ?_
  · intro v hSv
    clear hHeld
    clear hSv
    go_simp
    rw [IntKind.wrap_i64]
    omega
  try simp only [Act.put, List.setIfInBounds_toArray, List.set_cons_zero, List.set_cons_succ]
  refine wpAnyH_take (i := 16) (v := .slice (some a) L C) (at_list rfl) (by kernel_rfl) (by kernel_rfl) (by kernel_rfl) (fun _ _ _ h => h) (Or.inl ⟨by rfl, ?_⟩) hHeld ?_
  · intro v hSv
    clear hHeld
    go_simp
  try simp only [Act.put, List.setIfInBounds_toArray, List.set_cons_zero, List.set_cons_succ]
  refine wpAnyH_take (i := 19) (v := .slice (some a) L C) (at_list rfl) (by kernel_rfl) (by kernel_rfl) (by kernel_rfl) (fun _ _ _ h => h) (Or.inl ⟨by rfl, ?_⟩) hHeld ?_
  · intro v hSv
    clear hHeld
    go_simp
  try simp only [Act.put, List.setIfInBounds_toArray, List.set_cons_zero, List.set_cons_succ]
  refine wpAnyH_take (i := 21) (v := .pointer (some ⟨gK4, 4, none⟩)) (at_list rfl) (by kernel_rfl) (by kernel_rfl) (by kernel_rfl) (fun _ _ _ h => h) (Or.inl ⟨by rfl, ?_⟩) hHeld ?_
  · intro v hSv
    clear hHeld
    go_simp
  try simp only [Act.put, List.setIfInBounds_toArray, List.set_cons_zero, List.set_cons_succ]
  refine wpAnyH_take (i := 22) (v := .agg #[.int .u8 G.p.c.b0, .int .u8 G.p.c.b1, .int .u8 G.p.c.b2, .int .u8 G.p.c.b3, .int .u8 G.p.c.b4, .int .u8 G.p.c.b5, .int .u8 G.p.c.b6, .int .u8 G.p.c.b7, .int .i64 G.p.n]) (at_list rfl) (by kernel_rfl) (by kernel_rfl) (by kernel_rfl) (fun _ _ _ h => h) (yieldsIf_load_mid (by rfl) 26 _ rfl gK4 4 rfl [.int .u8 G.p.c.b0, .int .u8 G.p.c.b1, .int .u8 G.p.c.b2, .int .u8 G.p.c.b3, .int .u8 G.p.c.b4, .int .u8 G.p.c.b5, .int .u8 G.p.c.b6, .int .u8 G.p.c.b7, .int .i64 G.p.n] _ (fun v hv => Holds.range hv.2.1 rfl) Tryd.underlying26 rfl (by kernel_rfl)) hHeld ?_
  try simp only [Act.put, List.setIfInBounds_toArray, List.set_cons_zero, List.set_cons_succ]
  refine wpAnyH_ready (rs := [17]) (by kernel_rfl) (by simp) ?_
  refine AllReadyH.cons (at_list rfl) (fun K hK => ?_) AllReadyH.nil
  go_simp
  refine ((FE.out).cq _ hHeld.2.2).mono ?_
  rintro e y1 ⟨rfl, hy1⟩
  replace K2 := Lib.hid ((K2.out).keptB hy1)
  replace K6 := Lib.hid ((K6.out).keptB hy1)
  go_wp2_with fail
  refine hK.out _ _ ?_ (fun hHeld2 => ?_)
  · exact ⟨bstep hHeld.1 hy1, hHeld.2.1.keptB hy1, hHeld.2.2.keptB hy1⟩
  clear hK K hHeld
  have hHeld := hHeld2
  clear hHeld2 hy1
  try simp only [Act.put, List.setIfInBounds_toArray, List.set_cons_zero, List.set_cons_succ]
  refine wpAnyH_take (i := 18) (v := .agg (#[.int .i64 z48, .int .i64 z49, .int .i64 q3])) (at_list rfl) (by kernel_rfl) (by kernel_rfl) (by kernel_rfl) (fun _ _ _ h => h) (yields_buildH (by rfl) 40 _ rfl (#[.int .i64 z48, .int .i64 z49, .int .i64 q3]) (by kernel_rfl)) hHeld ?_
  try simp only [Act.put, List.setIfInBounds_toArray, List.set_cons_zero, List.set_cons_succ]
  refine wpAnyH_ready (rs := [20]) (by kernel_rfl) (by simp) ?_
  refine AllReadyH.cons (at_list rfl) (fun K hK => ?_) AllReadyH.nil
  go_simp
  refine ((FE.out).cs _ hHeld.2.2).mono ?_
  rintro e y2 ⟨rfl, hy2⟩
  replace K2 := Lib.hid ((K2.out).keptB hy2)
  replace K6 := Lib.hid ((K6.out).keptB hy2)
  go_wp2_with fail
  refine hK.out _ _ ?_ (fun hHeld2 => ?_)
  · exact ⟨bstep hHeld.1 hy2, hHeld.2.1.keptB hy2, hHeld.2.2.keptB hy2⟩
  clear hK K hHeld
  have hHeld := hHeld2
  clear hHeld2 hy2
  try simp only [Act.put, List.setIfInBounds_toArray, List.set_cons_zero, List.set_cons_succ]
  refine wpAnyH_take (i := 23) (v := .agg (setA (⟨G, ts, tn, zeroP, (x - 65536), z47, z52, z48, z49, q3, zeroC, st, G.p, zeroP, 0⟩ : Ms))) (at_list rfl) (by kernel_rfl) (by kernel_rfl) (by kernel_rfl) (fun _ _ _ h => h) (yields_buildH (by rfl) 42 _ rfl (setA (⟨G, ts, tn, zeroP, (x - 65536), z47, z52, z48, z49, q3, zeroC, st, G.p, zeroP, 0⟩ : Ms)) (by kernel_rfl)) hHeld ?_
  try simp only [Act.put, List.setIfInBounds_toArray, List.set_cons_zero, List.set_cons_succ]
  refine wpAnyH_take (i := 24) (v := .pointer (some ⟨gK6, 27, none⟩)) (at_list rfl) (by kernel_rfl) (by kernel_rfl) (by kernel_rfl) (fun _ _ _ h => h) (Or.inl ⟨by rfl, ?_⟩) hHeld ?_
  · intro v hSv
    clear hHeld
    go_simp
  try simp only [Act.put, List.setIfInBounds_toArray, List.set_cons_zero, List.set_cons_succ]
  refine wpAnyH_ready (rs := [25]) (by kernel_rfl) (by simp) ?_
  refine AllReadyH.cons (at_list rfl) (fun K hK => ?_) AllReadyH.nil
  refine step_store (by rfl) 42 _ _ rfl gK6 27 (setA (⟨G, ts, tn, zeroP, (x - 65536), z47, z52, z48, z49, q3, zeroC, st, G.p, zeroP, 0⟩ : Ms)).toList rfl rfl K6.out (by kernel_rfl) (by kernel_rfl) (of_decide_eq_true (by kernel_rfl)) (msA (⟨G, ts, tn, zeroP, (x - 65536), z47, z52, z48, z49, q3, zeroC, st, G.p, zeroP, 0⟩ : Ms)) (by kernel_rfl) ?_
  intro yz nK6 htK6
  replace K6 := Lib.hid nK6
  replace K2 := Lib.hid ((K2.out).touch htK6 NK2K6.out)
  refine hK.out _ _ ?_ (fun hHeld2 => ?_)
  · exact ⟨btouch hHeld.1 htK6 LK6.out, hHeld.2.1.touch htK6 NK4K6.out, hHeld.2.2.touch htK6 NAK6.out⟩
  clear hK K hHeld
  have hHeld := hHeld2
  clear hHeld2
  try simp only [Act.put]
  clear nK6 htK6
  refine wpAnyH_done (by kernel_rfl) ?_ _
  refine NoPanic.normal ?_
  have HB := Lib.hid hHeld.1
  have BA := Lib.hid hHeld.2.2
  clear hHeld
  go_wp2_with fail
  go_loopw [7] (fun i v => ∃ k : Nat, k ≤ 8 ∧ i = .int .i64 k ∧ Hid (Holds v gK2 44 (msA zeroM)) ∧ Hid (Holds v gK6 44 (msA (⟨G, ts, tn, zeroP, (x - 65536), z47, z52, z48, z49, q3, (part8 (fun i => zs.getD (53 + i) 0) k), st, G.p, zeroP, 0⟩ : Ms))) ∧ Hid (BytesAt v a zs) ∧ Hid (Below w.heap.size w v)) (fun i _ => 8 - (intOf i).toNat)
  case atStart => exact ⟨0, by omega, rfl, K2, K6, BA, HB⟩
  case round =>
    clear K2 K6 BA HB
    rename_i V_
    obtain ⟨k, hk, rfl, K2, K6, BA, HB⟩ := hrel
    by_cases hlt : k < 8
    · have hd : decide ((k : Int) < 8) = true := by simp; omega
      have cg := (FE.out).vg _ k hlt BA.out
      have HGS := Lib.hid (gr_set (fun i => zs.getD (53 + i) 0) G ts tn (x - 65536) z47 z52 z48 z49 q3 st 0 zeroP G.p zeroP hlt)
      have HLT := Lib.hid hlt
      go_wp2_with (first | (refine big_set rfl 5 _ _ rfl gK6 (32 + k) (.int .u8 (zs.getD (53 + k) 0)) rfl rfl K6.out (by kernel_rfl) rfl rfl (by have := HLT.out; show 32 + k < 60; omega) (msA (⟨G, ts, tn, zeroP, (x - 65536), z47, z52, z48, z49, q3, (part8 (fun i => zs.getD (53 + i) 0) (k + 1)), st, G.p, zeroP, 0⟩ : Ms)) HGS.out ?_; intro vK67 nK6 htK6; replace K6 := Lib.hid nK6; replace K2 := Lib.hid ((K2.out).touch htK6 NK2K6.out); replace BA := Lib.hid ((BA.out).touch htK6 NAK6.out); replace HB := Lib.hid (btouch HB.out htK6 LK6.out); clear nK6 htK6) | (refine big_indexA rfl 24 _ _ rfl gK6 32 k rfl rfl (by kernel_rfl) (HLT.out) (by kernel_rfl) ?_) | (refine big_indexB rfl 22 _ _ rfl a L C (53 + k) rfl rfl (by have := HLT.out; omega) (by omega) (by kernel_rfl) (by kernel_rfl) ?_))
      go_roundw
      case rel => exact ⟨k + 1, by omega, by go_num, K2, K6, BA, HB⟩
      case measure => simp [intOf]; omega
    · have hk8 : k = 8 := by omega
      subst hk8
      have c63 := (FE.out).v63 _ BA.out
      go_upto_region 18 with (refine big_set rfl 3 _ _ rfl gK6 59 (.int .i64 z63) rfl rfl K6.out (by kernel_rfl) rfl rfl (of_decide_eq_true (by kernel_rfl)) (msA (⟨G, ts, tn, zeroP, (x - 65536), z47, z52, z48, z49, q3, (part8 (fun i => zs.getD (53 + i) 0) 8), st, G.p, zeroP, z63⟩ : Ms)) (by kernel_rfl) ?_; intro vK68 nK6 htK6; replace K6 := Lib.hid nK6; replace K2 := Lib.hid ((K2.out).touch htK6 NK2K6.out); replace BA := Lib.hid ((BA.out).touch htK6 NAK6.out); replace HB := Lib.hid (btouch HB.out htK6 LK6.out); clear nK6 htK6)
      clear c63
      cases hr : (⟨G, ts, tn, zeroP, (x - 65536), z47, z52, z48, z49, q3, (part8 (fun i => zs.getD (53 + i) 0) 8), st, G.p, zeroP, z63⟩ : Ms).right
      · have HR := Lib.hid hr
        have HX := Lib.hid (congrArg Ending.returned (hE1 (.inl hr)))
        clear hr hE1 hE2
        go_wp2_with ((refine big_whole rfl 44 _ rfl gK6 rfl K6.out Tryd.underlying44 rfl (by kernel_rfl) ?_))
        refine (renc6_no (⟨G, ts, tn, zeroP, (x - 65536), z47, z52, z48, z49, q3, (part8 (fun i => zs.getD (53 + i) 0) 8), st, G.p, zeroP, z63⟩ : Ms) _ HR.out).mono ?_
        rintro e w9 ⟨rfl, h9⟩
        replace K2 := Lib.hid ((K2.out).keptB h9)
        replace K6 := Lib.hid ((K6.out).keptB h9)
        replace BA := Lib.hid ((BA.out).keptB h9)
        replace HB := Lib.hid (bstep HB.out h9)
        clear h9
        go_wp2_with (first | (refine big_fill rfl 44 _ _ rfl gK2 (msA zeroM) rfl rfl K2.out (by kernel_rfl) (by kernel_rfl) (by kernel_rfl) ?_; intro vK29 nK2 htK2; replace K2 := Lib.hid nK2; replace K6 := Lib.hid ((K6.out).touch htK2 (Ne.symm NK2K6.out)); replace BA := Lib.hid ((BA.out).touch htK2 NAK2.out); replace HB := Lib.hid (btouch HB.out htK2 LK2.out); clear nK2 htK2) | (refine big_build rfl 44 _ rfl (msA zeroM) (by kernel_rfl) ?_))
        refine bodyPost_ret (results_two rfl _ _ gK2 _ (msA zeroM) (.int .i64 60) _ rfl rfl K2.out Tryd.underlying44 rfl (by kernel_rfl)) rfl ⟨?_, HB.out⟩
        exact HX.out.symm
      · by_cases hs : encM (⟨G, ts, tn, zeroP, (x - 65536), z47, z52, z48, z49, q3, (part8 (fun i => zs.getD (53 + i) 0) 8), st, G.p, zeroP, z63⟩ : Ms) = zs
        · have HR := Lib.hid hr
          have HX := Lib.hid (congrArg Ending.returned (hE2 ⟨hr, hs⟩))
          obtain ⟨ys, hys⟩ : ∃ ys, encM (⟨G, ts, tn, zeroP, (x - 65536), z47, z52, z48, z49, q3, (part8 (fun i => zs.getD (53 + i) 0) 8), st, G.p, zeroP, z63⟩ : Ms) = ys := ⟨_, rfl⟩
          obtain ⟨N, hN⟩ : ∃ N, ys.length = N := ⟨_, rfl⟩
          obtain ⟨S, hS⟩ : ∃ S, strOfNums ys = S := ⟨_, rfl⟩
          obtain ⟨R, hR⟩ : ∃ R, strOfNums zs = R := ⟨_, rfl⟩
          have hSR : S = R := by rw [← hS, ← hR, ← hys, hs]
          have HYS := Lib.hid hys
          have HN := Lib.hid hN
          have HS := Lib.hid hS
          have HR2 := Lib.hid hR
          clear hr hs hys hN hS hR hE1 hE2
          have HSR := Lib.hid hSR
          clear hSR
          go_wp2_with ((refine big_whole rfl 44 _ rfl gK6 rfl K6.out Tryd.underlying44 rfl (by kernel_rfl) ?_))
          refine (renc6_N (⟨G, ts, tn, zeroP, (x - 65536), z47, z52, z48, z49, q3, (part8 (fun i => zs.getD (53 + i) 0) 8), st, G.p, zeroP, z63⟩ : Ms) _ HR.out (HOK.out).1 (HOK.out).2.1 (HOK.out).2.2 ys HYS.out N HN.out).mono ?_
          rintro e w9 ⟨gY, cY, rfl, nY, h9⟩
          replace K2 := Lib.hid ((K2.out).keptB h9)
          replace K6 := Lib.hid ((K6.out).keptB h9)
          replace BA := Lib.hid ((BA.out).keptB h9)
          replace HB := Lib.hid (bstep HB.out h9)
          clear h9
          have BY := Lib.hid nY
          clear nY
          have hq := HSR.out
          subst hq
          go_upto_region 21 with (first | (refine big_convL rfl _ rfl a L C zs rfl BA.out ((FF.out).len) _ HR2.out ?_) | (refine big_convL rfl _ rfl ⟨gY, 0, none⟩ N cY ys rfl BY.out (HN.out) _ HS.out ?_))
          go_wp2_with (first | (refine big_fill rfl 44 _ _ rfl gK2 (msA (⟨G, ts, tn, zeroP, (x - 65536), z47, z52, z48, z49, q3, (part8 (fun i => zs.getD (53 + i) 0) 8), st, G.p, zeroP, z63⟩ : Ms)) rfl rfl K2.out (by kernel_rfl) (by kernel_rfl) (by kernel_rfl) ?_; intro vK28 nK2 htK2; replace K2 := Lib.hid nK2; replace K6 := Lib.hid ((K6.out).touch htK2 (Ne.symm NK2K6.out)); replace BA := Lib.hid ((BA.out).touch htK2 NAK2.out); replace HB := Lib.hid (btouch HB.out htK2 LK2.out); clear nK2 htK2) | (refine big_whole rfl 44 _ rfl gK6 rfl K6.out Tryd.underlying44 rfl (by kernel_rfl) ?_))
          refine bodyPost_ret (results_two rfl _ _ gK2 _ (msA (⟨G, ts, tn, zeroP, (x - 65536), z47, z52, z48, z49, q3, (part8 (fun i => zs.getD (53 + i) 0) 8), st, G.p, zeroP, z63⟩ : Ms)) (.int .i64 0) _ rfl rfl K2.out Tryd.underlying44 rfl (by kernel_rfl)) rfl ⟨?_, HB.out⟩
          exact HX.out.symm
        · have HR := Lib.hid hr
          have HX := Lib.hid (congrArg Ending.returned (hE1 (.inr hs)))
          obtain ⟨ys, hys⟩ : ∃ ys, encM (⟨G, ts, tn, zeroP, (x - 65536), z47, z52, z48, z49, q3, (part8 (fun i => zs.getD (53 + i) 0) 8), st, G.p, zeroP, z63⟩ : Ms) = ys := ⟨_, rfl⟩
          obtain ⟨N, hN⟩ : ∃ N, ys.length = N := ⟨_, rfl⟩
          obtain ⟨S, hS⟩ : ∃ S, strOfNums ys = S := ⟨_, rfl⟩
          obtain ⟨R, hR⟩ : ∃ R, strOfNums zs = R := ⟨_, rfl⟩
          have hne : ¬ S = R := fun h => hs (by rw [hys]; exact (str_eq (by rw [← hys]; exact encM_byte hr (HOK.out).1 (HOK.out).2.1 (HOK.out).2.2) (HBY.out)).1 (by rw [hS, hR]; exact h))
          have HNE : Hid (¬ S.toList = R.toList) := fun h => hne (bytes_inj_ h)
          have HYS := Lib.hid hys
          have HN := Lib.hid hN
          have HS := Lib.hid hS
          have HR2 := Lib.hid hR
          clear hr hs hys hN hS hR hE1 hE2 hne
          go_wp2_with ((refine big_whole rfl 44 _ rfl gK6 rfl K6.out Tryd.underlying44 rfl (by kernel_rfl) ?_))
          refine (renc6_N (⟨G, ts, tn, zeroP, (x - 65536), z47, z52, z48, z49, q3, (part8 (fun i => zs.getD (53 + i) 0) 8), st, G.p, zeroP, z63⟩ : Ms) _ HR.out (HOK.out).1 (HOK.out).2.1 (HOK.out).2.2 ys HYS.out N HN.out).mono ?_
          rintro e w9 ⟨gY, cY, rfl, nY, h9⟩
          replace K2 := Lib.hid ((K2.out).keptB h9)
          replace K6 := Lib.hid ((K6.out).keptB h9)
          replace BA := Lib.hid ((BA.out).keptB h9)
          replace HB := Lib.hid (bstep HB.out h9)
          clear h9
          have BY := Lib.hid nY
          clear nY
          have hq := HNE.out
          have hq2 : (!S.toList == R.toList) = true := by simpa using hq
          go_upto_region 20 with (first | (refine big_convL rfl _ rfl a L C zs rfl BA.out ((FF.out).len) _ HR2.out ?_) | (refine big_convL rfl _ rfl ⟨gY, 0, none⟩ N cY ys rfl BY.out (HN.out) _ HS.out ?_))
          go_wp2_with (first | (refine big_fill rfl 44 _ _ rfl gK2 (msA zeroM) rfl rfl K2.out (by kernel_rfl) (by kernel_rfl) (by kernel_rfl) ?_; intro vK29 nK2 htK2; replace K2 := Lib.hid nK2; replace K6 := Lib.hid ((K6.out).touch htK2 (Ne.symm NK2K6.out)); replace BA := Lib.hid ((BA.out).touch htK2 NAK2.out); replace HB := Lib.hid (btouch HB.out htK2 LK2.out); clear nK2 htK2) | (refine big_build rfl 44 _ rfl (msA zeroM) (by kernel_rfl) ?_))
          refine bodyPost_ret (results_two rfl _ _ gK2 _ (msA zeroM) (.int .i64 60) _ rfl rfl K2.out Tryd.underlying44 rfl (by kernel_rfl)) rfl ⟨?_, HB.out⟩
          exact HX.out.symm

end Go.Proofs.YtifhjmhekapaoaaDoor

/- A way of the walk over the reference's Decode of layer 6. -/
namespace Go.Proofs.YtifhjmhekapaoaaDoor
set_option maxRecDepth 100000
open Go.RowKit
set_option linter.unusedVariables false

set_option maxHeartbeats 4000000 in
theorem rd6_l (a : Addr) (L C : Nat) (zs : List Int) (G : Hd) (ts tn ec : Int) (Q : Pt) (x q3 st : Int) (z47 : Int) (z48 : Int) (z49 : Int) (z52 : Int) (z63 : Int) (w : World) (E : Value) (F : MDF a L C zs G ts tn ec Q x q3 st z47 z48 z49 z52 z63) (hc : BytesAt w a zs) (hby : ∀ z ∈ zs, isByte z) (hok : (⟨G, ts, tn, zeroP, x, z47, z52, z48, z49, q3, (part8 (fun i => zs.getD (53 + i) 0) 8), st, G.p, zeroP, z63⟩ : Ms).h.p.c.ok ∧ (⟨G, ts, tn, zeroP, x, z47, z52, z48, z49, q3, (part8 (fun i => zs.getD (53 + i) 0) 8), st, G.p, zeroP, z63⟩ : Ms).ak.c.ok ∧ (⟨G, ts, tn, zeroP, x, z47, z52, z48, z49, q3, (part8 (fun i => zs.getD (53 + i) 0) 8), st, G.p, zeroP, z63⟩ : Ms).gr.ok) (h11 : G.t = 11) (hx : ¬ 32767 < x) (f11 : MD11 a L C zs G ts tn ec Q x q3 st z47 z48 z49 z52 z63)
    (hE1 : (⟨G, ts, tn, zeroP, x, z47, z52, z48, z49, q3, (part8 (fun i => zs.getD (53 + i) 0) 8), st, G.p, zeroP, z63⟩ : Ms).right = false ∨ encM (⟨G, ts, tn, zeroP, x, z47, z52, z48, z49, q3, (part8 (fun i => zs.getD (53 + i) 0) 8), st, G.p, zeroP, z63⟩ : Ms) ≠ zs → E = .tuple #[.agg (msA zeroM), .int .i64 60]) (hE2 : (⟨G, ts, tn, zeroP, x, z47, z52, z48, z49, q3, (part8 (fun i => zs.getD (53 + i) 0) 8), st, G.p, zeroP, z63⟩ : Ms).right = true ∧ encM (⟨G, ts, tn, zeroP, x, z47, z52, z48, z49, q3, (part8 (fun i => zs.getD (53 + i) 0) 8), st, G.p, zeroP, z63⟩ : Ms) = zs → E = .tuple #[.agg (msA (⟨G, ts, tn, zeroP, x, z47, z52, z48, z49, q3, (part8 (fun i => zs.getD (53 + i) 0) 8), st, G.p, zeroP, z63⟩ : Ms)), .int .i64 0]) :
    Calls Tryd.prog 16 #[.slice (some a) L C] w fun e w' => e = .returned E ∧ Below w.heap.size w w' := by
  have HB := Lib.hid (Below.refl w.heap.size w)
  have HBY := Lib.hid hby
  have HOK := Lib.hid hok
  clear hby hok
  have BA := Lib.hid hc
  have FF := Lib.hid F
  have k1 := F.l44
  have k2 := F.lc
  have k3 := F.cm
  unfold maxLen at k3
  clear F hc
  have d9 : (G.t == 9) = false := by simp; omega
  have d11 : (G.t == 11) = true := by simp [h11]
  have dx : decide (32767 < x) = false := by simp; omega
  have FE := Lib.hid f11
  have k4 := f11.l64
  have k5 := f11.bx
  have kb47 := f11.b47
  have kb48 := f11.b48
  have kb49 := f11.b49
  have kb52 := f11.b52
  have kb63 := f11.b63
  clear h11 hx f11
  go_enter Tryd.func16, Tryd.ntmps16
  go_wp2_with ((refine big_alloc rfl 44 rfl (msA zeroM) (by kernel_rfl) ?_; intro gK2 wK2 hlK2 nK2 hbK2; have K2 := Lib.hid nK2; have LK2 := Lib.hid (Nat.le_trans (HB.out).size hlK2); have NAK2 := Lib.hid (show a.block ≠ gK2 by have := (BA.out).inside (by rw [(FF.out).len]; omega); omega); replace BA := Lib.hid ((BA.out).keptB hbK2); replace HB := Lib.hid (bstep HB.out hbK2); clear hlK2 nK2 hbK2))
  refine ((FF.out).c1 _ BA.out).mono ?_
  rintro e w1 ⟨rfl, h1⟩
  replace K2 := Lib.hid ((K2.out).keptB h1)
  replace BA := Lib.hid ((BA.out).keptB h1)
  replace HB := Lib.hid (bstep HB.out h1)
  clear h1
  go_upto_region 5 with (first | (refine big_fill rfl 44 _ _ rfl gK6 (msA (⟨G, 0, 0, zeroP, 0, 0, 0, 0, 0, 0, zeroC, 0, zeroP, zeroP, 0⟩ : Ms)) rfl rfl K6.out (by kernel_rfl) (by kernel_rfl) (by kernel_rfl) ?_; intro vK60 nK6 htK6; replace K6 := Lib.hid nK6; replace K2 := Lib.hid ((K2.out).touch htK6 NK2K6.out); replace K4 := Lib.hid ((K4.out).touch htK6 NK4K6.out); replace BA := Lib.hid ((BA.out).touch htK6 NAK6.out); replace HB := Lib.hid (btouch HB.out htK6 LK6.out); clear nK6 htK6) | (refine big_alloc rfl 44 rfl (msA zeroM) (by kernel_rfl) ?_; intro gK6 wK6 hlK6 nK6 hbK6; have K6 := Lib.hid nK6; have LK6 := Lib.hid (Nat.le_trans (HB.out).size hlK6); have NAK6 := Lib.hid (show a.block ≠ gK6 by have := (BA.out).inside (by rw [(FF.out).len]; omega); omega); have NK2K6 := Lib.hid (show gK2 ≠ gK6 by have := (K2.out).inside; omega); have NK4K6 := Lib.hid (show gK4 ≠ gK6 by have := (K4.out).inside; omega); replace K2 := Lib.hid ((K2.out).keptB hbK6); replace K4 := Lib.hid ((K4.out).keptB hbK6); replace BA := Lib.hid ((BA.out).keptB hbK6); replace HB := Lib.hid (bstep HB.out hbK6); clear hlK6 nK6 hbK6) | (refine big_build rfl 44 _ rfl (msA (⟨G, 0, 0, zeroP, 0, 0, 0, 0, 0, 0, zeroC, 0, zeroP, zeroP, 0⟩ : Ms)) (by kernel_rfl) ?_) | (refine big_whole rfl 32 _ rfl gK4 rfl K4.out Tryd.underlying32 rfl (by kernel_rfl) ?_) | (refine big_fill rfl 32 _ _ rfl gK4 (#[.int .i64 G.t, .int .i64 G.d, .int .i64 G.f, .int .i64 G.c, .int .u8 G.p.c.b0, .int .u8 G.p.c.b1, .int .u8 G.p.c.b2, .int .u8 G.p.c.b3, .int .u8 G.p.c.b4, .int .u8 G.p.c.b5, .int .u8 G.p.c.b6, .int .u8 G.p.c.b7, .int .i64 G.p.n, .int .i64 G.s, .int .i64 G.l]) rfl rfl K4.out (by kernel_rfl) (by kernel_rfl) (by kernel_rfl) ?_; intro vK40 nK4 htK4; replace K4 := Lib.hid nK4; replace K2 := Lib.hid ((K2.out).touch htK4 NK2K4.out); replace BA := Lib.hid ((BA.out).touch htK4 NAK4.out); replace HB := Lib.hid (btouch HB.out htK4 LK4.out); clear nK4 htK4) | (refine big_alloc rfl 32 rfl (#[.int .i64 0, .int .i64 0, .int .i64 0, .int .i64 0, .int .u8 0, .int .u8 0, .int .u8 0, .int .u8 0, .int .u8 0, .int .u8 0, .int .u8 0, .int .u8 0, .int .i64 0, .int .i64 0, .int .i64 0]) (by kernel_rfl) ?_; intro gK4 wK4 hlK4 nK4 hbK4; have K4 := Lib.hid nK4; have LK4 := Lib.hid (Nat.le_trans (HB.out).size hlK4); have NAK4 := Lib.hid (show a.block ≠ gK4 by have := (BA.out).inside (by rw [(FF.out).len]; omega); omega); have NK2K4 := Lib.hid (show gK2 ≠ gK4 by have := (K2.out).inside; omega); replace K2 := Lib.hid ((K2.out).keptB hbK4); replace BA := Lib.hid ((BA.out).keptB hbK4); replace HB := Lib.hid (bstep HB.out hbK4); clear hlK4 nK4 hbK4))
  have s34 := (FF.out).s34
  go_wp2_with fail
  clear s34
  refine ((FF.out).ct _ BA.out).mono ?_
  rintro e w2 ⟨rfl, h2⟩
  replace K2 := Lib.hid ((K2.out).keptB h2)
  replace K4 := Lib.hid ((K4.out).keptB h2)
  replace K6 := Lib.hid ((K6.out).keptB h2)
  replace BA := Lib.hid ((BA.out).keptB h2)
  replace HB := Lib.hid (bstep HB.out h2)
  clear h2
  go_upto_region 6 with (refine big_store rfl 38 _ _ rfl gK6 15 [.int .i64 ts, .int .i64 tn] rfl rfl K6.out (by kernel_rfl) (by kernel_rfl) (of_decide_eq_true (by kernel_rfl)) (msA (⟨G, ts, tn, zeroP, 0, 0, 0, 0, 0, 0, zeroC, 0, zeroP, zeroP, 0⟩ : Ms)) (by kernel_rfl) ?_; intro vK60 nK6 htK6; replace K6 := Lib.hid nK6; replace K2 := Lib.hid ((K2.out).touch htK6 NK2K6.out); replace K4 := Lib.hid ((K4.out).touch htK6 NK4K6.out); replace BA := Lib.hid ((BA.out).touch htK6 NAK6.out); replace HB := Lib.hid (btouch HB.out htK6 LK6.out); clear nK6 htK6)
  have y0 := (K4.out).reads (i := 0) (x := .int .i64 G.t) rfl
  go_upto_region 9 with fail
  clear y0
  go_wp2_with fail
  refine ((FE.out).cx _ BA.out).mono ?_
  rintro e w3 ⟨rfl, h3⟩
  replace K2 := Lib.hid ((K2.out).keptB h3)
  replace K4 := Lib.hid ((K4.out).keptB h3)
  replace K6 := Lib.hid ((K6.out).keptB h3)
  replace BA := Lib.hid ((BA.out).keptB h3)
  replace HB := Lib.hid (bstep HB.out h3)
  clear h3
  go_upto_region 10 with (refine big_set rfl 3 _ _ rfl gK6 26 (.int .i64 x) rfl rfl K6.out (by kernel_rfl) rfl rfl (of_decide_eq_true (by kernel_rfl)) (msA (⟨G, ts, tn, zeroP, x, 0, 0, 0, 0, 0, zeroC, 0, zeroP, zeroP, 0⟩ : Ms)) (by kernel_rfl) ?_; intro vK61 nK6 htK6; replace K6 := Lib.hid nK6; replace K2 := Lib.hid ((K2.out).touch htK6 NK2K6.out); replace K4 := Lib.hid ((K4.out).touch htK6 NK4K6.out); replace BA := Lib.hid ((BA.out).touch htK6 NAK6.out); replace HB := Lib.hid (btouch HB.out htK6 LK6.out); clear nK6 htK6)
  have y26 := (K6.out).reads (i := 26) (x := .int .i64 x) rfl
  go_upto_region 12 with fail
  clear y26
  replace K2 := Lib.hid ((K2.out).drew)
  replace K6 := Lib.hid ((K6.out).drew)
  refine wp_region_noPanic ?_
  refine wp_region_held_drew (S := fun v => Below w.heap.size w v ∧ Holds v gK4 32 #[.int .i64 G.t, .int .i64 G.d, .int .i64 G.f, .int .i64 G.c, .int .u8 G.p.c.b0, .int .u8 G.p.c.b1, .int .u8 G.p.c.b2, .int .u8 G.p.c.b3, .int .u8 G.p.c.b4, .int .u8 G.p.c.b5, .int .u8 G.p.c.b6, .int .u8 G.p.c.b7, .int .i64 G.p.n, .int .i64 G.s, .int .i64 G.l] ∧ BytesAt v a zs) (by kernel_rfl) ?_ (fun hHeld => ?_)
  · exact ⟨bdrew HB.out, (K4.out).drew, (BA.out).drew⟩
  clear HB K4 BA
  refine wpAnyH_take (i := 0) (v := .slice (some a) L C) (at_list rfl) (by kernel_rfl) (by kernel_rfl) (by kernel_rfl) (fun _ _ _ h => h) (Or.inl ⟨by rfl, ?_⟩) hHeld ?_
  · intro v hSv
    clear hHeld
    go_simp
  try simp only [Act.put, List.setIfInBounds_toArray, List.set_cons_zero, List.set_cons_succ]
  refine wpAnyH_take (i := 1) (v := .pointer (some ⟨a.block, a.off + 47, none⟩)) (at_list rfl) (by kernel_rfl) (by kernel_rfl) (by kernel_rfl) (fun _ _ _ h => h) (Or.inl ⟨by rfl, ?_⟩) hHeld ?_
  · intro v hSv
    clear hHeld
    clear hSv
    go_simp
    intro h
    exfalso
    omega
  try simp only [Act.put, List.setIfInBounds_toArray, List.set_cons_zero, List.set_cons_succ]
  refine wpAnyH_take (i := 2) (v := .int .u8 z47) (at_list rfl) (by kernel_rfl) (by kernel_rfl) (by kernel_rfl) (fun _ _ _ h => h) (Or.inl ⟨by rfl, ?_⟩) hHeld ?_
  · intro v hSv
    clear hHeld
    have c47 := (FE.out).v47 v hSv.2.2
    clear hSv
    go_simp
  try simp only [Act.put, List.setIfInBounds_toArray, List.set_cons_zero, List.set_cons_succ]
  refine wpAnyH_take (i := 3) (v := .int .i64 z47) (at_list rfl) (by kernel_rfl) (by kernel_rfl) (by kernel_rfl) (fun _ _ _ h => h) (Or.inl ⟨by rfl, ?_⟩) hHeld ?_
  · intro v hSv
    clear hHeld
    clear hSv
    go_simp
    rw [IntKind.wrap_i64]
    omega
  try simp only [Act.put, List.setIfInBounds_toArray, List.set_cons_zero, List.set_cons_succ]
  refine wpAnyH_take (i := 4) (v := .slice (some a) L C) (at_list rfl) (by kernel_rfl) (by kernel_rfl) (by kernel_rfl) (fun _ _ _ h => h) (Or.inl ⟨by rfl, ?_⟩) hHeld ?_
  · intro v hSv
    clear hHeld
    go_simp
  try simp only [Act.put, List.setIfInBounds_toArray, List.set_cons_zero, List.set_cons_succ]
  refine wpAnyH_take (i := 5) (v := .pointer (some ⟨a.block, a.off + 52, none⟩)) (at_list rfl) (by kernel_rfl) (by kernel_rfl) (by kernel_rfl) (fun _ _ _ h => h) (Or.inl ⟨by rfl, ?_⟩) hHeld ?_
  · intro v hSv
    clear hHeld
    clear hSv
    go_simp
    intro h
    exfalso
    omega
  try simp only [Act.put, List.setIfInBounds_toArray, List.set_cons_zero, List.set_cons_succ]
  refine wpAnyH_take (i := 6) (v := .int .u8 z52) (at_list rfl) (by kernel_rfl) (by kernel_rfl) (by kernel_rfl) (fun _ _ _ h => h) (Or.inl ⟨by rfl, ?_⟩) hHeld ?_
  · intro v hSv
    clear hHeld
    have c52 := (FE.out).v52 v hSv.2.2
    clear hSv
    go_simp
  try simp only [Act.put, List.setIfInBounds_toArray, List.set_cons_zero, List.set_cons_succ]
  refine wpAnyH_take (i := 7) (v := .int .i64 z52) (at_list rfl) (by kernel_rfl) (by kernel_rfl) (by kernel_rfl) (fun _ _ _ h => h) (Or.inl ⟨by rfl, ?_⟩) hHeld ?_
  · intro v hSv
    clear hHeld
    clear hSv
    go_simp
    rw [IntKind.wrap_i64]
    omega
  try simp only [Act.put, List.setIfInBounds_toArray, List.set_cons_zero, List.set_cons_succ]
  refine wpAnyH_take (i := 8) (v := .slice (some a) L C) (at_list rfl) (by kernel_rfl) (by kernel_rfl) (by kernel_rfl) (fun _ _ _ h => h) (Or.inl ⟨by rfl, ?_⟩) hHeld ?_
  · intro v hSv
    clear hHeld
    go_simp
  try simp only [Act.put, List.setIfInBounds_toArray, List.set_cons_zero, List.set_cons_succ]
  refine wpAnyH_take (i := 9) (v := .pointer (some ⟨a.block, a.off + 48, none⟩)) (at_list rfl) (by kernel_rfl) (by kernel_rfl) (by kernel_rfl) (fun _ _ _ h => h) (Or.inl ⟨by rfl, ?_⟩) hHeld ?_
  · intro v hSv
    clear hHeld
    clear hSv
    go_simp
    intro h
    exfalso
    omega
  try simp only [Act.put, List.setIfInBounds_toArray, List.set_cons_zero, List.set_cons_succ]
  refine wpAnyH_take (i := 10) (v := .int .u8 z48) (at_list rfl) (by kernel_rfl) (by kernel_rfl) (by kernel_rfl) (fun _ _ _ h => h) (Or.inl ⟨by rfl, ?_⟩) hHeld ?_
  · intro v hSv
    clear hHeld
    have c48 := (FE.out).v48 v hSv.2.2
    clear hSv
    go_simp
  try simp only [Act.put, List.setIfInBounds_toArray, List.set_cons_zero, List.set_cons_succ]
  refine wpAnyH_take (i := 11) (v := .int .i64 z48) (at_list rfl) (by kernel_rfl) (by kernel_rfl) (by kernel_rfl) (fun _ _ _ h => h) (Or.inl ⟨by rfl, ?_⟩) hHeld ?_
  · intro v hSv
    clear hHeld
    clear hSv
    go_simp
    rw [IntKind.wrap_i64]
    omega
  try simp only [Act.put, List.setIfInBounds_toArray, List.set_cons_zero, List.set_cons_succ]
  refine wpAnyH_take (i := 12) (v := .slice (some a) L C) (at_list rfl) (by kernel_rfl) (by kernel_rfl) (by kernel_rfl) (fun _ _ _ h => h) (Or.inl ⟨by rfl, ?_⟩) hHeld ?_
  · intro v hSv
    clear hHeld
    go_simp
  try simp only [Act.put, List.setIfInBounds_toArray, List.set_cons_zero, List.set_cons_succ]
  refine wpAnyH_take (i := 13) (v := .pointer (some ⟨a.block, a.off + 49, none⟩)) (at_list rfl) (by kernel_rfl) (by kernel_rfl) (by kernel_rfl) (fun _ _ _ h => h) (Or.inl ⟨by rfl, ?_⟩) hHeld ?_
  · intro v hSv
    clear hHeld
    clear hSv
    go_simp
    intro h
    exfalso
    omega
  try simp only [Act.put, List.setIfInBounds_toArray, List.set_cons_zero, List.set_cons_succ]
  refine wpAnyH_take (i := 14) (v := .int .u8 z49) (at_list rfl) (by kernel_rfl) (by kernel_rfl) (by kernel_rfl) (fun _ _ _ h => h) (Or.inl ⟨by rfl, ?_⟩) hHeld ?_
  · intro v hSv
    clear hHeld
    have c49 := (FE.out).v49 v hSv.2.2
    clear hSv
    go_simp
  try simp only [Act.put, List.setIfInBounds_toArray, List.set_cons_zero, List.set_cons_succ]
  refine wpAnyH_take (i := 15) (v := .int .i64 z49) (at_list rfl) (by kernel_rfl) (by kernel_rfl) (by kernel_rfl) (fun _ _ _ h => h) (Or.inl ⟨by rfl, ?_⟩) hHeld ?_
  · intro v hSv
    clear hHeld
    clear hSv
    go_simp
    rw [IntKind.wrap_i64]
    omega
  try simp only [Act.put, List.setIfInBounds_toArray, List.set_cons_zero, List.set_cons_succ]
  refine wpAnyH_take (i := 16) (v := .slice (some a) L C) (at_list rfl) (by kernel_rfl) (by kernel_rfl) (by kernel_rfl) (fun _ _ _ h => h) (Or.inl ⟨by rfl, ?_⟩) hHeld ?_
  · intro v hSv
    clear hHeld
    go_simp
  try simp only [Act.put, List.setIfInBounds_toArray, List.set_cons_zero, List.set_cons_succ]
  refine wpAnyH_take (i := 19) (v := .slice (some a) L C) (at_list rfl) (by kernel_rfl) (by kernel_rfl) (by kernel_rfl) (fun _ _ _ h => h) (Or.inl ⟨by rfl, ?_⟩) hHeld ?_
  · intro v hSv
    clear hHeld
    go_simp
  try simp only [Act.put, List.setIfInBounds_toArray, List.set_cons_zero, List.set_cons_succ]
  refine wpAnyH_take (i := 21) (v := .pointer (some ⟨gK4, 4, none⟩)) (at_list rfl) (by kernel_rfl) (by kernel_rfl) (by kernel_rfl) (fun _ _ _ h => h) (Or.inl ⟨by rfl, ?_⟩) hHeld ?_
  · intro v hSv
    clear hHeld
    go_simp
  try simp only [Act.put, List.setIfInBounds_toArray, List.set_cons_zero, List.set_cons_succ]
  refine wpAnyH_take (i := 22) (v := .agg #[.int .u8 G.p.c.b0, .int .u8 G.p.c.b1, .int .u8 G.p.c.b2, .int .u8 G.p.c.b3, .int .u8 G.p.c.b4, .int .u8 G.p.c.b5, .int .u8 G.p.c.b6, .int .u8 G.p.c.b7, .int .i64 G.p.n]) (at_list rfl) (by kernel_rfl) (by kernel_rfl) (by kernel_rfl) (fun _ _ _ h => h) (yieldsIf_load_mid (by rfl) 26 _ rfl gK4 4 rfl [.int .u8 G.p.c.b0, .int .u8 G.p.c.b1, .int .u8 G.p.c.b2, .int .u8 G.p.c.b3, .int .u8 G.p.c.b4, .int .u8 G.p.c.b5, .int .u8 G.p.c.b6, .int .u8 G.p.c.b7, .int .i64 G.p.n] _ (fun v hv => Holds.range hv.2.1 rfl) Tryd.underlying26 rfl (by kernel_rfl)) hHeld ?_
  try simp only [Act.put, List.setIfInBounds_toArray, List.set_cons_zero, List.set_cons_succ]
  refine wpAnyH_ready (rs := [17]) (by kernel_rfl) (by simp) ?_
  refine AllReadyH.cons (at_list rfl) (fun K hK => ?_) AllReadyH.nil
  go_simp
  refine ((FE.out).cq _ hHeld.2.2).mono ?_
  rintro e y1 ⟨rfl, hy1⟩
  replace K2 := Lib.hid ((K2.out).keptB hy1)
  replace K6 := Lib.hid ((K6.out).keptB hy1)
  go_wp2_with fail
  refine hK.out _ _ ?_ (fun hHeld2 => ?_)
  · exact ⟨bstep hHeld.1 hy1, hHeld.2.1.keptB hy1, hHeld.2.2.keptB hy1⟩
  clear hK K hHeld
  have hHeld := hHeld2
  clear hHeld2 hy1
  try simp only [Act.put, List.setIfInBounds_toArray, List.set_cons_zero, List.set_cons_succ]
  refine wpAnyH_take (i := 18) (v := .agg (#[.int .i64 z48, .int .i64 z49, .int .i64 q3])) (at_list rfl) (by kernel_rfl) (by kernel_rfl) (by kernel_rfl) (fun _ _ _ h => h) (yields_buildH (by rfl) 40 _ rfl (#[.int .i64 z48, .int .i64 z49, .int .i64 q3]) (by kernel_rfl)) hHeld ?_
  try simp only [Act.put, List.setIfInBounds_toArray, List.set_cons_zero, List.set_cons_succ]
  refine wpAnyH_ready (rs := [20]) (by kernel_rfl) (by simp) ?_
  refine AllReadyH.cons (at_list rfl) (fun K hK => ?_) AllReadyH.nil
  go_simp
  refine ((FE.out).cs _ hHeld.2.2).mono ?_
  rintro e y2 ⟨rfl, hy2⟩
  replace K2 := Lib.hid ((K2.out).keptB hy2)
  replace K6 := Lib.hid ((K6.out).keptB hy2)
  go_wp2_with fail
  refine hK.out _ _ ?_ (fun hHeld2 => ?_)
  · exact ⟨bstep hHeld.1 hy2, hHeld.2.1.keptB hy2, hHeld.2.2.keptB hy2⟩
  clear hK K hHeld
  have hHeld := hHeld2
  clear hHeld2 hy2
  try simp only [Act.put, List.setIfInBounds_toArray, List.set_cons_zero, List.set_cons_succ]
  refine wpAnyH_take (i := 23) (v := .agg (setA (⟨G, ts, tn, zeroP, x, z47, z52, z48, z49, q3, zeroC, st, G.p, zeroP, 0⟩ : Ms))) (at_list rfl) (by kernel_rfl) (by kernel_rfl) (by kernel_rfl) (fun _ _ _ h => h) (yields_buildH (by rfl) 42 _ rfl (setA (⟨G, ts, tn, zeroP, x, z47, z52, z48, z49, q3, zeroC, st, G.p, zeroP, 0⟩ : Ms)) (by kernel_rfl)) hHeld ?_
  try simp only [Act.put, List.setIfInBounds_toArray, List.set_cons_zero, List.set_cons_succ]
  refine wpAnyH_take (i := 24) (v := .pointer (some ⟨gK6, 27, none⟩)) (at_list rfl) (by kernel_rfl) (by kernel_rfl) (by kernel_rfl) (fun _ _ _ h => h) (Or.inl ⟨by rfl, ?_⟩) hHeld ?_
  · intro v hSv
    clear hHeld
    go_simp
  try simp only [Act.put, List.setIfInBounds_toArray, List.set_cons_zero, List.set_cons_succ]
  refine wpAnyH_ready (rs := [25]) (by kernel_rfl) (by simp) ?_
  refine AllReadyH.cons (at_list rfl) (fun K hK => ?_) AllReadyH.nil
  refine step_store (by rfl) 42 _ _ rfl gK6 27 (setA (⟨G, ts, tn, zeroP, x, z47, z52, z48, z49, q3, zeroC, st, G.p, zeroP, 0⟩ : Ms)).toList rfl rfl K6.out (by kernel_rfl) (by kernel_rfl) (of_decide_eq_true (by kernel_rfl)) (msA (⟨G, ts, tn, zeroP, x, z47, z52, z48, z49, q3, zeroC, st, G.p, zeroP, 0⟩ : Ms)) (by kernel_rfl) ?_
  intro yz nK6 htK6
  replace K6 := Lib.hid nK6
  replace K2 := Lib.hid ((K2.out).touch htK6 NK2K6.out)
  refine hK.out _ _ ?_ (fun hHeld2 => ?_)
  · exact ⟨btouch hHeld.1 htK6 LK6.out, hHeld.2.1.touch htK6 NK4K6.out, hHeld.2.2.touch htK6 NAK6.out⟩
  clear hK K hHeld
  have hHeld := hHeld2
  clear hHeld2
  try simp only [Act.put]
  clear nK6 htK6
  refine wpAnyH_done (by kernel_rfl) ?_ _
  refine NoPanic.normal ?_
  have HB := Lib.hid hHeld.1
  have BA := Lib.hid hHeld.2.2
  clear hHeld
  go_wp2_with fail
  go_loopw [7] (fun i v => ∃ k : Nat, k ≤ 8 ∧ i = .int .i64 k ∧ Hid (Holds v gK2 44 (msA zeroM)) ∧ Hid (Holds v gK6 44 (msA (⟨G, ts, tn, zeroP, x, z47, z52, z48, z49, q3, (part8 (fun i => zs.getD (53 + i) 0) k), st, G.p, zeroP, 0⟩ : Ms))) ∧ Hid (BytesAt v a zs) ∧ Hid (Below w.heap.size w v)) (fun i _ => 8 - (intOf i).toNat)
  case atStart => exact ⟨0, by omega, rfl, K2, K6, BA, HB⟩
  case round =>
    clear K2 K6 BA HB
    rename_i V_
    obtain ⟨k, hk, rfl, K2, K6, BA, HB⟩ := hrel
    by_cases hlt : k < 8
    · have hd : decide ((k : Int) < 8) = true := by simp; omega
      have cg := (FE.out).vg _ k hlt BA.out
      have HGS := Lib.hid (gr_set (fun i => zs.getD (53 + i) 0) G ts tn x z47 z52 z48 z49 q3 st 0 zeroP G.p zeroP hlt)
      have HLT := Lib.hid hlt
      go_wp2_with (first | (refine big_set rfl 5 _ _ rfl gK6 (32 + k) (.int .u8 (zs.getD (53 + k) 0)) rfl rfl K6.out (by kernel_rfl) rfl rfl (by have := HLT.out; show 32 + k < 60; omega) (msA (⟨G, ts, tn, zeroP, x, z47, z52, z48, z49, q3, (part8 (fun i => zs.getD (53 + i) 0) (k + 1)), st, G.p, zeroP, 0⟩ : Ms)) HGS.out ?_; intro vK67 nK6 htK6; replace K6 := Lib.hid nK6; replace K2 := Lib.hid ((K2.out).touch htK6 NK2K6.out); replace BA := Lib.hid ((BA.out).touch htK6 NAK6.out); replace HB := Lib.hid (btouch HB.out htK6 LK6.out); clear nK6 htK6) | (refine big_indexA rfl 24 _ _ rfl gK6 32 k rfl rfl (by kernel_rfl) (HLT.out) (by kernel_rfl) ?_) | (refine big_indexB rfl 22 _ _ rfl a L C (53 + k) rfl rfl (by have := HLT.out; omega) (by omega) (by kernel_rfl) (by kernel_rfl) ?_))
      go_roundw
      case rel => exact ⟨k + 1, by omega, by go_num, K2, K6, BA, HB⟩
      case measure => simp [intOf]; omega
    · have hk8 : k = 8 := by omega
      subst hk8
      have c63 := (FE.out).v63 _ BA.out
      go_upto_region 18 with (refine big_set rfl 3 _ _ rfl gK6 59 (.int .i64 z63) rfl rfl K6.out (by kernel_rfl) rfl rfl (of_decide_eq_true (by kernel_rfl)) (msA (⟨G, ts, tn, zeroP, x, z47, z52, z48, z49, q3, (part8 (fun i => zs.getD (53 + i) 0) 8), st, G.p, zeroP, z63⟩ : Ms)) (by kernel_rfl) ?_; intro vK68 nK6 htK6; replace K6 := Lib.hid nK6; replace K2 := Lib.hid ((K2.out).touch htK6 NK2K6.out); replace BA := Lib.hid ((BA.out).touch htK6 NAK6.out); replace HB := Lib.hid (btouch HB.out htK6 LK6.out); clear nK6 htK6)
      clear c63
      cases hr : (⟨G, ts, tn, zeroP, x, z47, z52, z48, z49, q3, (part8 (fun i => zs.getD (53 + i) 0) 8), st, G.p, zeroP, z63⟩ : Ms).right
      · have HR := Lib.hid hr
        have HX := Lib.hid (congrArg Ending.returned (hE1 (.inl hr)))
        clear hr hE1 hE2
        go_wp2_with ((refine big_whole rfl 44 _ rfl gK6 rfl K6.out Tryd.underlying44 rfl (by kernel_rfl) ?_))
        refine (renc6_no (⟨G, ts, tn, zeroP, x, z47, z52, z48, z49, q3, (part8 (fun i => zs.getD (53 + i) 0) 8), st, G.p, zeroP, z63⟩ : Ms) _ HR.out).mono ?_
        rintro e w9 ⟨rfl, h9⟩
        replace K2 := Lib.hid ((K2.out).keptB h9)
        replace K6 := Lib.hid ((K6.out).keptB h9)
        replace BA := Lib.hid ((BA.out).keptB h9)
        replace HB := Lib.hid (bstep HB.out h9)
        clear h9
        go_wp2_with (first | (refine big_fill rfl 44 _ _ rfl gK2 (msA zeroM) rfl rfl K2.out (by kernel_rfl) (by kernel_rfl) (by kernel_rfl) ?_; intro vK29 nK2 htK2; replace K2 := Lib.hid nK2; replace K6 := Lib.hid ((K6.out).touch htK2 (Ne.symm NK2K6.out)); replace BA := Lib.hid ((BA.out).touch htK2 NAK2.out); replace HB := Lib.hid (btouch HB.out htK2 LK2.out); clear nK2 htK2) | (refine big_build rfl 44 _ rfl (msA zeroM) (by kernel_rfl) ?_))
        refine bodyPost_ret (results_two rfl _ _ gK2 _ (msA zeroM) (.int .i64 60) _ rfl rfl K2.out Tryd.underlying44 rfl (by kernel_rfl)) rfl ⟨?_, HB.out⟩
        exact HX.out.symm
      · by_cases hs : encM (⟨G, ts, tn, zeroP, x, z47, z52, z48, z49, q3, (part8 (fun i => zs.getD (53 + i) 0) 8), st, G.p, zeroP, z63⟩ : Ms) = zs
        · have HR := Lib.hid hr
          have HX := Lib.hid (congrArg Ending.returned (hE2 ⟨hr, hs⟩))
          obtain ⟨ys, hys⟩ : ∃ ys, encM (⟨G, ts, tn, zeroP, x, z47, z52, z48, z49, q3, (part8 (fun i => zs.getD (53 + i) 0) 8), st, G.p, zeroP, z63⟩ : Ms) = ys := ⟨_, rfl⟩
          obtain ⟨N, hN⟩ : ∃ N, ys.length = N := ⟨_, rfl⟩
          obtain ⟨S, hS⟩ : ∃ S, strOfNums ys = S := ⟨_, rfl⟩
          obtain ⟨R, hR⟩ : ∃ R, strOfNums zs = R := ⟨_, rfl⟩
          have hSR : S = R := by rw [← hS, ← hR, ← hys, hs]
          have HYS := Lib.hid hys
          have HN := Lib.hid hN
          have HS := Lib.hid hS
          have HR2 := Lib.hid hR
          clear hr hs hys hN hS hR hE1 hE2
          have HSR := Lib.hid hSR
          clear hSR
          go_wp2_with ((refine big_whole rfl 44 _ rfl gK6 rfl K6.out Tryd.underlying44 rfl (by kernel_rfl) ?_))
          refine (renc6_N (⟨G, ts, tn, zeroP, x, z47, z52, z48, z49, q3, (part8 (fun i => zs.getD (53 + i) 0) 8), st, G.p, zeroP, z63⟩ : Ms) _ HR.out (HOK.out).1 (HOK.out).2.1 (HOK.out).2.2 ys HYS.out N HN.out).mono ?_
          rintro e w9 ⟨gY, cY, rfl, nY, h9⟩
          replace K2 := Lib.hid ((K2.out).keptB h9)
          replace K6 := Lib.hid ((K6.out).keptB h9)
          replace BA := Lib.hid ((BA.out).keptB h9)
          replace HB := Lib.hid (bstep HB.out h9)
          clear h9
          have BY := Lib.hid nY
          clear nY
          have hq := HSR.out
          subst hq
          go_upto_region 21 with (first | (refine big_convL rfl _ rfl a L C zs rfl BA.out ((FF.out).len) _ HR2.out ?_) | (refine big_convL rfl _ rfl ⟨gY, 0, none⟩ N cY ys rfl BY.out (HN.out) _ HS.out ?_))
          go_wp2_with (first | (refine big_fill rfl 44 _ _ rfl gK2 (msA (⟨G, ts, tn, zeroP, x, z47, z52, z48, z49, q3, (part8 (fun i => zs.getD (53 + i) 0) 8), st, G.p, zeroP, z63⟩ : Ms)) rfl rfl K2.out (by kernel_rfl) (by kernel_rfl) (by kernel_rfl) ?_; intro vK28 nK2 htK2; replace K2 := Lib.hid nK2; replace K6 := Lib.hid ((K6.out).touch htK2 (Ne.symm NK2K6.out)); replace BA := Lib.hid ((BA.out).touch htK2 NAK2.out); replace HB := Lib.hid (btouch HB.out htK2 LK2.out); clear nK2 htK2) | (refine big_whole rfl 44 _ rfl gK6 rfl K6.out Tryd.underlying44 rfl (by kernel_rfl) ?_))
          refine bodyPost_ret (results_two rfl _ _ gK2 _ (msA (⟨G, ts, tn, zeroP, x, z47, z52, z48, z49, q3, (part8 (fun i => zs.getD (53 + i) 0) 8), st, G.p, zeroP, z63⟩ : Ms)) (.int .i64 0) _ rfl rfl K2.out Tryd.underlying44 rfl (by kernel_rfl)) rfl ⟨?_, HB.out⟩
          exact HX.out.symm
        · have HR := Lib.hid hr
          have HX := Lib.hid (congrArg Ending.returned (hE1 (.inr hs)))
          obtain ⟨ys, hys⟩ : ∃ ys, encM (⟨G, ts, tn, zeroP, x, z47, z52, z48, z49, q3, (part8 (fun i => zs.getD (53 + i) 0) 8), st, G.p, zeroP, z63⟩ : Ms) = ys := ⟨_, rfl⟩
          obtain ⟨N, hN⟩ : ∃ N, ys.length = N := ⟨_, rfl⟩
          obtain ⟨S, hS⟩ : ∃ S, strOfNums ys = S := ⟨_, rfl⟩
          obtain ⟨R, hR⟩ : ∃ R, strOfNums zs = R := ⟨_, rfl⟩
          have hne : ¬ S = R := fun h => hs (by rw [hys]; exact (str_eq (by rw [← hys]; exact encM_byte hr (HOK.out).1 (HOK.out).2.1 (HOK.out).2.2) (HBY.out)).1 (by rw [hS, hR]; exact h))
          have HNE : Hid (¬ S.toList = R.toList) := fun h => hne (bytes_inj_ h)
          have HYS := Lib.hid hys
          have HN := Lib.hid hN
          have HS := Lib.hid hS
          have HR2 := Lib.hid hR
          clear hr hs hys hN hS hR hE1 hE2 hne
          go_wp2_with ((refine big_whole rfl 44 _ rfl gK6 rfl K6.out Tryd.underlying44 rfl (by kernel_rfl) ?_))
          refine (renc6_N (⟨G, ts, tn, zeroP, x, z47, z52, z48, z49, q3, (part8 (fun i => zs.getD (53 + i) 0) 8), st, G.p, zeroP, z63⟩ : Ms) _ HR.out (HOK.out).1 (HOK.out).2.1 (HOK.out).2.2 ys HYS.out N HN.out).mono ?_
          rintro e w9 ⟨gY, cY, rfl, nY, h9⟩
          replace K2 := Lib.hid ((K2.out).keptB h9)
          replace K6 := Lib.hid ((K6.out).keptB h9)
          replace BA := Lib.hid ((BA.out).keptB h9)
          replace HB := Lib.hid (bstep HB.out h9)
          clear h9
          have BY := Lib.hid nY
          clear nY
          have hq := HNE.out
          have hq2 : (!S.toList == R.toList) = true := by simpa using hq
          go_upto_region 20 with (first | (refine big_convL rfl _ rfl a L C zs rfl BA.out ((FF.out).len) _ HR2.out ?_) | (refine big_convL rfl _ rfl ⟨gY, 0, none⟩ N cY ys rfl BY.out (HN.out) _ HS.out ?_))
          go_wp2_with (first | (refine big_fill rfl 44 _ _ rfl gK2 (msA zeroM) rfl rfl K2.out (by kernel_rfl) (by kernel_rfl) (by kernel_rfl) ?_; intro vK29 nK2 htK2; replace K2 := Lib.hid nK2; replace K6 := Lib.hid ((K6.out).touch htK2 (Ne.symm NK2K6.out)); replace BA := Lib.hid ((BA.out).touch htK2 NAK2.out); replace HB := Lib.hid (btouch HB.out htK2 LK2.out); clear nK2 htK2) | (refine big_build rfl 44 _ rfl (msA zeroM) (by kernel_rfl) ?_))
          refine bodyPost_ret (results_two rfl _ _ gK2 _ (msA zeroM) (.int .i64 60) _ rfl rfl K2.out Tryd.underlying44 rfl (by kernel_rfl)) rfl ⟨?_, HB.out⟩
          exact HX.out.symm

end Go.Proofs.YtifhjmhekapaoaaDoor

/- The walk over the reference's Decode of layer 6. -/
namespace Go.Proofs.YtifhjmhekapaoaaDoor
set_option maxRecDepth 100000
open Go.RowKit
set_option linter.unusedVariables false

set_option maxHeartbeats 4000000 in
theorem rdec6_bad (A : Option Addr) (L C : Nat) (w : World) (n : Int) (hn : n ≠ 0) (hC1 : ∀ v, Below w.heap.size w v → Calls Tryd.prog 7 #[.slice A L C] v fun e w' => e = .returned (.tuple #[.agg #[.int .i64 0, .int .i64 0, .int .i64 0, .int .i64 0, .int .u8 0, .int .u8 0, .int .u8 0, .int .u8 0, .int .u8 0, .int .u8 0, .int .u8 0, .int .u8 0, .int .i64 0, .int .i64 0, .int .i64 0], .int .i64 n]) ∧ Below v.heap.size v w') :
    Calls Tryd.prog 16 #[.slice A L C] w fun e w' => e = .returned (.tuple #[.agg (msA zeroM), .int .i64 n]) ∧ Below w.heap.size w w' := by
  have HB := Lib.hid (Below.refl w.heap.size w)
  have C1 := Lib.hid hC1
  have dn : (n != 0) = true := by simpa using hn
  clear hC1 hn
  go_enter Tryd.func16, Tryd.ntmps16
  go_wp2_with ((refine big_alloc rfl 44 rfl (msA zeroM) (by kernel_rfl) ?_; intro gK2 wK2 hlK2 nK2 hbK2; have K2 := Lib.hid nK2; have LK2 := Lib.hid (Nat.le_trans (HB.out).size hlK2); replace HB := Lib.hid (bstep HB.out hbK2); clear hlK2 nK2 hbK2))
  refine ((C1.out) _ HB.out).mono ?_
  rintro e w1 ⟨rfl, hw1⟩
  replace K2 := Lib.hid ((K2.out).keptB hw1)
  replace HB := Lib.hid (bstep HB.out hw1)
  clear hw1
  go_wp2_with (first | (refine big_fill rfl 44 _ _ rfl gK2 (msA zeroM) rfl rfl K2.out (by kernel_rfl) (by kernel_rfl) (by kernel_rfl) ?_; intro vK23 nK2 htK2; replace K2 := Lib.hid nK2; replace K4 := Lib.hid ((K4.out).touch htK2 (by have := NK2K4.out; omega)); replace HB := Lib.hid (btouch HB.out htK2 LK2.out); clear nK2 htK2) | (refine big_build rfl 44 _ rfl (msA zeroM) (by kernel_rfl) ?_) | (refine big_fill rfl 32 _ _ rfl gK4 (#[.int .i64 0, .int .i64 0, .int .i64 0, .int .i64 0, .int .u8 0, .int .u8 0, .int .u8 0, .int .u8 0, .int .u8 0, .int .u8 0, .int .u8 0, .int .u8 0, .int .i64 0, .int .i64 0, .int .i64 0]) rfl rfl K4.out (by kernel_rfl) (by kernel_rfl) (by kernel_rfl) ?_; intro vK40 nK4 htK4; replace K4 := Lib.hid nK4; replace K2 := Lib.hid ((K2.out).touch htK4 (by have := NK2K4.out; omega)); replace HB := Lib.hid (btouch HB.out htK4 LK4.out); clear nK4 htK4) | (refine big_alloc rfl 32 rfl (#[.int .i64 0, .int .i64 0, .int .i64 0, .int .i64 0, .int .u8 0, .int .u8 0, .int .u8 0, .int .u8 0, .int .u8 0, .int .u8 0, .int .u8 0, .int .u8 0, .int .i64 0, .int .i64 0, .int .i64 0]) (by kernel_rfl) ?_; intro gK4 wK4 hlK4 nK4 hbK4; have K4 := Lib.hid nK4; have LK4 := Lib.hid (Nat.le_trans (HB.out).size hlK4); have NK2K4 := Lib.hid (show gK2 ≠ gK4 by have := (K2.out).inside; omega); replace K2 := Lib.hid ((K2.out).keptB hbK4); replace HB := Lib.hid (bstep HB.out hbK4); clear hlK4 nK4 hbK4))
  refine bodyPost_ret (results_two rfl _ _ gK2 _ (msA zeroM) (.int .i64 (n)) _ rfl rfl K2.out Tryd.underlying44 rfl (by kernel_rfl)) rfl ⟨rfl, HB.out⟩
theorem getP_ok_ {x : List Int} (hb : ∀ z ∈ x, isByte z) : (getP x).c.ok := by
  have B : ∀ k, isByte (x.getD k 0) := fun k => getD_byte hb k
  intro z hz
  simp only [getP, Ck.l, List.mem_cons, List.not_mem_nil, or_false] at hz
  rcases hz with rfl | rfl | rfl | rfl | rfl | rfl | rfl | rfl <;> exact B _
theorem zeroC_ok_ : zeroC.ok := by
  intro z hz
  simp [zeroC, Ck.l] at hz
  subst hz
  exact ⟨by decide, by decide⟩
/-- what is read, written again, tells what is amiss -/
theorem again_no {L : Nat} {zs : List Int} {m : Ms} (hz : zs.length = L) (hb : ∀ z ∈ zs, isByte z) (hf : faultN L zs = 0) (hm : rightB (tsOf zs) (tnOf zs) = true → m = mOf zs) (h : m.right = false ∨ encM m ≠ zs) : (.tuple #[.agg (msA (decM L zs)), .int .i64 (faultM L zs)] : Value) = .tuple #[.agg (msA zeroM), .int .i64 60] := by
  have hno : bodyOk zs = false := by
    rw [← Bool.not_eq_true]
    intro hbo
    obtain ⟨h1, h2, h3⟩ := bodyOk_iff.1 hbo
    have hfm : faultM zs.length zs = 0 := by rw [hz]; exact faultM_zero.2 ⟨hf, hbo⟩
    have he := enc_m hb hfm
    rw [hm h1] at h
    rcases h with h | h
    · rw [he.1] at h; cases h
    · exact h he.2
  have e : faultM L zs = 60 := by unfold faultM; rw [if_neg (by simpa using hf), hno]; rfl
  have e2 : decM L zs = zeroM := by unfold decM; rw [e]; rfl
  rw [e, e2]
theorem again_yes {L : Nat} {zs : List Int} {m : Ms} (hf : faultN L zs = 0) (c0 : -9223372036854775808 ≤ m.h.c) (c1 : m.h.c ≤ 9223372036854775807) (h : m.right = true ∧ encM m = zs) : (.tuple #[.agg (msA (decM L zs)), .int .i64 (faultM L zs)] : Value) = .tuple #[.agg (msA m), .int .i64 0] := by
  obtain ⟨h1, h2, _⟩ := m_enc h.1 c0 c1
  rw [h.2] at h1 h2
  have e : faultM L zs = 0 := faultM_zero.2 ⟨hf, h2⟩
  have e2 : decM L zs = m := by unfold decM; rw [if_pos e, h1]
  rw [e, e2]
theorem rdec6_any (a : Addr) (L C : Nat) (zs : List Int) (w : World) (hlen : zs.length = L) (hL : 34 ≤ L) (hC : L ≤ C) (hM : C ≤ maxLen) (hb : ∀ z ∈ zs, isByte z) (hc : BytesAt w a zs) :
    Calls Tryd.prog 16 #[.slice (some a) L C] w fun e w' => e = .returned (.tuple #[.agg (msA (decM L zs)), .int .i64 (faultM L zs)]) ∧ Below w.heap.size w w' := by
  by_cases hf : faultN L zs = 0
  · have hf' : faultN zs.length zs = 0 := by rw [hlen]; exact hf
    obtain ⟨hl1, _, h44⟩ := fault_long hf'
    have hcb : -9223372036854775808 ≤ (hdOf zs).c ∧ (hdOf zs).c ≤ 9223372036854775807 := by
      show _ ≤ wrap64 _ ∧ wrap64 _ ≤ _
      unfold wrap64
      omega
    obtain ⟨B, hB⟩ : ∃ B, rightB (tsOf zs) (tnOf zs) = B := ⟨_, rfl⟩
    have F : MDF a L C zs (hdOf zs) (told B (tsOf zs)) (told B (tnOf zs)) (if B then 0 else 20) (getP ((zs.drop 44).take 10)) (zs.getD 44 0 * 256 + zs.getD 45 0) (zs.getD 50 0 * 256 + zs.getD 51 0) (zs.getD 61 0 * 256 + zs.getD 62 0) (zs.getD 47 0) (zs.getD 48 0) (zs.getD 49 0) (zs.getD 52 0) (zs.getD 63 0) :=
      { l44 := by omega
        lc := hC
        cm := hM
        len := hlen
        gc0 := hcb.1
        gc1 := hcb.2
        c1 := fun v hv => by
           have h := rdecode_any a L C zs v hlen hL hC hM hb hv
           have e : decH L zs = hdOf zs := by unfold decH; rw [if_pos hf]
           rw [e, hf] at h
           exact h
        ct := fun v hv => by
           have h10 : ((zs.drop 34).take 10).length = 10 := by rw [List.length_take, List.length_drop]; omega
           have h := rget_ten (a.add 34) (C - 34) ((zs.drop 34).take 10) v h10 (sub_byte hb 34 10) (by omega) (hv.sub 34 (fun i hi => by
             rw [h10] at hi
             rw [List.getElem?_take, if_pos hi, List.getElem?_drop]))
           have e1 : ((zs.drop 34).take 10).take 6 = (zs.drop 34).take 6 := by rw [List.take_take]; rfl
           have e2 : ((zs.drop 34).take 10).drop 6 = (zs.drop 40).take 4 := by rw [List.drop_take, List.drop_drop]
           rw [e1, e2] at h
           have hB' : rightB (beN ((zs.drop 34).take 6)) (beN ((zs.drop 40).take 4)) = B := hB
           rw [hB'] at h
           exact h
        s34 := fun v => slice_mid a L C 34 44 (by omega) (by omega) (by omega) v }
    have okp : (hdOf zs).p.c.ok := getP_ok_ (sub_byte hb 20 10)
    by_cases h9 : (hdOf zs).t = 9
    · have l54 : zs.length = 54 := by rw [h9] at hl1; have : longN 9 = 54 := rfl; omega
      refine rd6_9 a L C zs (hdOf zs) _ _ _ (getP ((zs.drop 44).take 10)) (zs.getD 44 0 * 256 + zs.getD 45 0) (zs.getD 50 0 * 256 + zs.getD 51 0) (zs.getD 61 0 * 256 + zs.getD 62 0) (zs.getD 47 0) (zs.getD 48 0) (zs.getD 49 0) (zs.getD 52 0) (zs.getD 63 0) w _ F hc hb ⟨okp, getP_ok_ (sub_byte hb 44 10), zeroC_ok_⟩ h9 ?_ (again_no hlen hb hf ?_) (again_yes hf hcb.1 hcb.2)
      · exact {
          ck := fun v hv => by
                  have h10 : ((zs.drop 44).take 10).length = 10 := by rw [List.length_take, List.length_drop]; omega
                  exact ridget_ten (a.add 44) (C - 44) ((zs.drop 44).take 10) v h10 (sub_byte hb 44 10) (hv.sub 44 (fun i hi => by
                    rw [h10] at hi
                    rw [List.getElem?_take, if_pos hi, List.getElem?_drop]))
          s44 := fun v => slice_mid a L C 44 54 (by omega) (by omega) (by omega) v }
      · intro hr
        obtain rfl : B = true := hB.symm.trans hr
        unfold mOf
        rw [if_pos h9]
        rfl
    · by_cases h11 : (hdOf zs).t = 11
      · have l64 : zs.length = 64 := by rw [h11] at hl1; have : longN 11 = 64 := rfl; omega
        have b44 := getD_byte hb 44
        have b45 := getD_byte hb 45
        unfold isByte at b44 b45
        have F11 : MD11 a L C zs (hdOf zs) (told B (tsOf zs)) (told B (tnOf zs)) (if B then 0 else 20) (getP ((zs.drop 44).take 10)) (zs.getD 44 0 * 256 + zs.getD 45 0) (zs.getD 50 0 * 256 + zs.getD 51 0) (zs.getD 61 0 * 256 + zs.getD 62 0) (zs.getD 47 0) (zs.getD 48 0) (zs.getD 49 0) (zs.getD 52 0) (zs.getD 63 0) :=
          { l64 := by omega
            bx := by omega
            cx := fun v hv => value6_any a L C 44 zs v hlen (by omega) (by omega) hb hv
            cq := fun v hv => value6_any a L C 50 zs v hlen (by omega) (by omega) hb hv
            cs := fun v hv => value6_any a L C 61 zs v hlen (by omega) (by omega) hb hv
            v47 := fun v hv => hv.at_ (by omega) (by omega)
            b47 := getD_byte hb 47
            v48 := fun v hv => hv.at_ (by omega) (by omega)
            b48 := getD_byte hb 48
            v49 := fun v hv => hv.at_ (by omega) (by omega)
            b49 := getD_byte hb 49
            v52 := fun v hv => hv.at_ (by omega) (by omega)
            b52 := getD_byte hb 52
            v63 := fun v hv => hv.at_ (by omega) (by omega)
            b63 := getD_byte hb 63
            vg := fun v k hk hv => hv.at_ (by omega) (by omega) }
        by_cases hx : 32767 < zs.getD 44 0 * 256 + zs.getD 45 0
        · refine rd6_h a L C zs (hdOf zs) _ _ _ (getP ((zs.drop 44).take 10)) (zs.getD 44 0 * 256 + zs.getD 45 0) (zs.getD 50 0 * 256 + zs.getD 51 0) (zs.getD 61 0 * 256 + zs.getD 62 0) (zs.getD 47 0) (zs.getD 48 0) (zs.getD 49 0) (zs.getD 52 0) (zs.getD 63 0) w _ F hc hb ⟨okp, zeroC_ok_, ckOf_ok hb 53⟩ h11 hx F11 (again_no hlen hb hf ?_) (again_yes hf hcb.1 hcb.2)
          intro hr
          obtain rfl : B = true := hB.symm.trans hr
          unfold mOf sg2
          rw [if_neg h9, if_pos h11, if_pos hx]
          rfl
        · refine rd6_l a L C zs (hdOf zs) _ _ _ (getP ((zs.drop 44).take 10)) (zs.getD 44 0 * 256 + zs.getD 45 0) (zs.getD 50 0 * 256 + zs.getD 51 0) (zs.getD 61 0 * 256 + zs.getD 62 0) (zs.getD 47 0) (zs.getD 48 0) (zs.getD 49 0) (zs.getD 52 0) (zs.getD 63 0) w _ F hc hb ⟨okp, zeroC_ok_, ckOf_ok hb 53⟩ h11 hx F11 (again_no hlen hb hf ?_) (again_yes hf hcb.1 hcb.2)
          intro hr
          obtain rfl : B = true := hB.symm.trans hr
          unfold mOf sg2
          rw [if_neg h9, if_pos h11, if_neg hx]
          rfl
      · refine rd6_0 a L C zs (hdOf zs) _ _ _ (getP ((zs.drop 44).take 10)) (zs.getD 44 0 * 256 + zs.getD 45 0) (zs.getD 50 0 * 256 + zs.getD 51 0) (zs.getD 61 0 * 256 + zs.getD 62 0) (zs.getD 47 0) (zs.getD 48 0) (zs.getD 49 0) (zs.getD 52 0) (zs.getD 63 0) w _ F hc hb ⟨okp, zeroC_ok_, zeroC_ok_⟩ h9 h11 (again_no hlen hb hf ?_) (again_yes hf hcb.1 hcb.2)
        intro hr
        obtain rfl : B = true := hB.symm.trans hr
        unfold mOf
        rw [if_neg h9, if_neg h11]
        rfl
  · have e : faultM L zs = faultN L zs := by unfold faultM; rw [if_pos hf]
    have e2 : decM L zs = zeroM := by unfold decM; rw [e, if_neg hf]
    rw [e, e2]
    refine rdec6_bad (some a) L C w _ hf fun v hv => ?_
    have h := rdecode_any a L C zs v hlen hL hC hM hb (fun i hi => keepc hv (hc i hi))
    have e3 : decH L zs = zeroH := by unfold decH; rw [if_neg hf]
    rw [e3] at h
    exact h
theorem rdec6_short (A : Option Addr) (L C : Nat) (w : World) (hL : L < 34) :
    Calls Tryd.prog 16 #[.slice A L C] w fun e w' => e = .returned (.tuple #[.agg (msA zeroM), .int .i64 50]) ∧ Below w.heap.size w w' :=
  rdec6_bad A L C w 50 (by omega) fun v _ => rdecode_short A L C v hL

end Go.Proofs.YtifhjmhekapaoaaDoor

/- The walk over FrameReads. -/
namespace Go.Proofs.YtifhjmhekapaoaaDoor
set_option maxRecDepth 100000
open Go.RowKit
set_option linter.unusedVariables false

theorem both6_slice (A : Option Addr) (L C : Nat) (zs : List Int) (w : World) (hs : sliceOk .u8 w A L C zs) :
    ∃ (n : Int) (G : Ms), (∀ v, Below w.heap.size w v → Lens v → Calls Tryd.prog 15 #[.slice A L C] v fun e w' => e = .returned (.tuple #[.agg (msA G), .int .i64 n]) ∧ Below v.heap.size v w') ∧
      (∀ v, Below w.heap.size w v → Calls Tryd.prog 16 #[.slice A L C] v fun e w' => e = .returned (.tuple #[.agg (msA G), .int .i64 n]) ∧ Below v.heap.size v w') := by
  by_cases hL : L < 34
  · exact ⟨50, zeroM, fun v _ _ => decM_short A L C v hL, fun v _ => rdec6_short A L C v hL⟩
  rcases hs with ⟨_, h0, _⟩ | ⟨a, rfl, h1, h2, h3, h4, h5⟩
  · omega
  have hz : BytesAt w a (zs.take L) := by
    intro i hi
    rw [List.length_take] at hi
    rw [h4 i (by omega)]
    simp only [List.getD, List.getElem?_take, if_pos (show i < L by omega)]
  have hb : ∀ z ∈ zs.take L, isByte z := fun z hz => byte_wf (h5 z (List.mem_of_mem_take hz))
  have hl : (zs.take L).length = L := by rw [List.length_take]; omega
  obtain ⟨ys, hys⟩ : ∃ ys, zs.take L = ys := ⟨_, rfl⟩
  rw [hys] at hz hb hl
  exact ⟨faultM L ys, decM L ys, fun v hv hlv => decM_any a L C ys v hl (by omega) h1 h2 hb (fun i hi => keepc hv (hz i hi)) hlv,
    fun v hv => rdec6_any a L C ys v hl (by omega) h1 h2 hb (fun i hi => keepc hv (hz i hi))⟩
set_option maxHeartbeats 4000000 in
theorem reads6_walk (A : Option Addr) (L C : Nat) (zs : List Int) (w : World) (hs : sliceOk .u8 w A L C zs) (hl : Lens w) :
    Calls Tryd.prog 5 #[.slice A L C] w fun e w' => e = .returned (.bool true) ∧ Below w.heap.size w w' := by
  have HB := Lib.hid (Below.refl w.heap.size w)
  have LN := Lib.hid hl
  obtain ⟨n, G, g1, g2⟩ := both6_slice A L C zs w hs
  have D1 := Lib.hid g1
  have D2 := Lib.hid g2
  clear hl g1 g2 hs
  go_enter Tryd.func5, Tryd.ntmps5
  go_wp2_with fail
  refine ((D1.out) _ HB.out LN.out).mono ?_
  rintro e c1 ⟨rfl, hc1⟩
  replace LN := Lib.hid ((LN.out).keptB hc1)
  replace HB := Lib.hid (bstep HB.out hc1)
  clear hc1
  go_wp2_with (first | (refine big_fill rfl 49 _ _ rfl gK1 (msA G) rfl rfl K1.out (by kernel_rfl) (by kernel_rfl) (by kernel_rfl) ?_; intro vK1 nK1 tK1; have hbK1 := btouch AK1.out tK1 LK1.out; replace LN := Lib.hid ((LN.out).keptB hbK1); replace HB := Lib.hid (bstep HB.out hbK1); replace K1 := Lib.hid nK1; clear nK1 tK1 hbK1 AK1 LK1) | (refine big_alloc rfl 49 rfl (msA zeroM) (by kernel_rfl) ?_; intro gK1 wK1 hlK1 nK1 hbK1; have K1 := Lib.hid nK1; have AK1 := Lib.hid hbK1; have LK1 := Lib.hid hlK1; clear hlK1 nK1 hbK1))
  refine ((D2.out) _ HB.out).mono ?_
  rintro e c2 ⟨rfl, hc2⟩
  replace LN := Lib.hid ((LN.out).keptB hc2)
  replace K1 := Lib.hid ((K1.out).keptB hc2)
  replace HB := Lib.hid (bstep HB.out hc2)
  clear hc2
  go_upto_region 3 with (first | (refine big_fill rfl 44 _ _ rfl gK2 (msA G) rfl rfl K2.out (by kernel_rfl) (by kernel_rfl) (by kernel_rfl) ?_; intro vK2 nK2 tK2; have hbK2 := btouch AK2.out tK2 LK2.out; replace LN := Lib.hid ((LN.out).keptB hbK2); replace K1 := Lib.hid ((K1.out).keptB hbK2); replace HB := Lib.hid (bstep HB.out hbK2); replace K2 := Lib.hid nK2; clear nK2 tK2 hbK2 AK2 LK2) | (refine big_alloc rfl 44 rfl (msA zeroM) (by kernel_rfl) ?_; intro gK2 wK2 hlK2 nK2 hbK2; have K2 := Lib.hid nK2; have AK2 := Lib.hid hbK2; have LK2 := Lib.hid hlK2; clear hlK2 nK2 hbK2))
  refine wp_region_held_drew (S := fun v => Below w.heap.size w v ∧ Lens v ∧ Holds v gK1 49 (msA G) ∧ Holds v gK2 44 (msA G) ∧ True) (by kernel_rfl) ?_ (fun hHeld => ?_)
  · exact ⟨bdrew HB.out, (LN.out).drew, (K1.out).drew, (K2.out).drew, trivial⟩
  clear HB LN K1 K2
  refine wpAnyH_ready (rs := [0]) (by kernel_rfl) (by simp) ?_
  refine AllReadyH.cons (at_list rfl) (fun K hK => ?_) AllReadyH.nil
  go_simp
  refine (alive6_any _ hHeld.2.1).mono ?_
  rintro e v3 ⟨rfl, hv3⟩
  go_wp2_with fail
  refine hK.out _ _ ?_ (fun hHeld2 => ?_)
  · exact ⟨bstep hHeld.1 hv3, hHeld.2.1.keptB hv3, hHeld.2.2.1.keptB hv3, hHeld.2.2.2.1.keptB hv3, trivial⟩
  clear hK K hHeld
  have hHeld := hHeld2
  clear hHeld2 hv3
  try simp only [Act.put, List.setIfInBounds_toArray, List.set_cons_zero, List.set_cons_succ]
  refine wpAnyH_take (i := 1) (v := .bool true) (at_list rfl) (by kernel_rfl) (by kernel_rfl) (by kernel_rfl) (fun _ _ _ h => h) (Or.inl ⟨by rfl, ?_⟩) hHeld ?_
  · intro v hSv
    clear hHeld
    go_simp
  try simp only [Act.put, List.setIfInBounds_toArray, List.set_cons_zero, List.set_cons_succ]
  refine wpAnyH_take (i := 2) (v := .agg (msA G)) (at_list rfl) (by kernel_rfl) (by kernel_rfl) (by kernel_rfl) (fun _ _ _ h => h) (yields_whole (by rfl) 49 _ rfl gK1 rfl (fun v hv => hv.2.2.1) Tryd.underlying49 rfl (by kernel_rfl)) hHeld ?_
  try simp only [Act.put, List.setIfInBounds_toArray, List.set_cons_zero, List.set_cons_succ]
  refine wpAnyH_take (i := 4) (v := .agg (msA G)) (at_list rfl) (by kernel_rfl) (by kernel_rfl) (by kernel_rfl) (fun _ _ _ h => h) (yields_whole (by rfl) 44 _ rfl gK2 rfl (fun v hv => hv.2.2.2.1) Tryd.underlying44 rfl (by kernel_rfl)) hHeld ?_
  try simp only [Act.put, List.setIfInBounds_toArray, List.set_cons_zero, List.set_cons_succ]
  refine wpAnyH_ready (rs := [3]) (by kernel_rfl) (by simp) ?_
  refine AllReadyH.cons (at_list rfl) (fun K hK => ?_) AllReadyH.nil
  go_simp
  refine (plain6_any G _).mono ?_
  rintro e v4 ⟨rfl, hv4⟩
  go_wp2_with fail
  refine hK.out _ _ ?_ (fun hHeld2 => ?_)
  · exact ⟨bstep hHeld.1 hv4, hHeld.2.1.keptB hv4, hHeld.2.2.1.keptB hv4, hHeld.2.2.2.1.keptB hv4, trivial⟩
  clear hK K hHeld
  have hHeld := hHeld2
  clear hHeld2 hv4
  try simp only [Act.put, List.setIfInBounds_toArray, List.set_cons_zero, List.set_cons_succ]
  refine wpAnyH_take (i := 5) (v := .bool true) (at_list rfl) (by kernel_rfl) (by kernel_rfl) (by kernel_rfl) (fun _ _ _ h => h) (yields_cmp (by rfl) .eql 44 _ _ _ rfl (msA G) (msA G) rfl rfl (by kernel_rfl) true (fun v => (eql_rmsg G G v).trans (by rw [eqM_self]))) hHeld ?_
  try simp only [Act.put, List.setIfInBounds_toArray, List.set_cons_zero, List.set_cons_succ]
  refine wpAnyH_take (i := 6) (v := .bool true) (at_list rfl) (by kernel_rfl) (by kernel_rfl) (by kernel_rfl) (fun _ _ _ h => h) (Or.inl ⟨by rfl, ?_⟩) hHeld ?_
  · intro v hSv
    clear hHeld
    go_simp
  try simp only [Act.put, List.setIfInBounds_toArray, List.set_cons_zero, List.set_cons_succ]
  refine wpAnyH_take (i := 7) (v := .bool true) (at_list rfl) (by kernel_rfl) (by kernel_rfl) (by kernel_rfl) (fun _ _ _ h => h) (Or.inl ⟨by rfl, ?_⟩) hHeld ?_
  · intro v hSv
    clear hHeld
    go_simp
  try simp only [Act.put, List.setIfInBounds_toArray, List.set_cons_zero, List.set_cons_succ]
  refine wpAnyH_take (i := 8) (v := .int .i64 n) (at_list rfl) (by kernel_rfl) (by kernel_rfl) (by kernel_rfl) (fun _ _ _ h => h) (Or.inl ⟨by rfl, ?_⟩) hHeld ?_
  · intro v hSv
    clear hHeld
    go_simp
  try simp only [Act.put, List.setIfInBounds_toArray, List.set_cons_zero, List.set_cons_succ]
  refine wpAnyH_take (i := 9) (v := .int .i64 n) (at_list rfl) (by kernel_rfl) (by kernel_rfl) (by kernel_rfl) (fun _ _ _ h => h) (Or.inl ⟨by rfl, ?_⟩) hHeld ?_
  · intro v hSv
    clear hHeld
    go_simp
  try simp only [Act.put, List.setIfInBounds_toArray, List.set_cons_zero, List.set_cons_succ]
  refine wpAnyH_take (i := 10) (v := .bool true) (at_list rfl) (by kernel_rfl) (by kernel_rfl) (by kernel_rfl) (fun _ _ _ h => h) (Or.inl ⟨by rfl, ?_⟩) hHeld ?_
  · intro v hSv
    clear hHeld
    go_simp
  try simp only [Act.put, List.setIfInBounds_toArray, List.set_cons_zero, List.set_cons_succ]
  refine wpAnyH_take (i := 11) (v := .bool true) (at_list rfl) (by kernel_rfl) (by kernel_rfl) (by kernel_rfl) (fun _ _ _ h => h) (Or.inl ⟨by rfl, ?_⟩) hHeld ?_
  · intro v hSv
    clear hHeld
    go_simp
  try simp only [Act.put, List.setIfInBounds_toArray, List.set_cons_zero, List.set_cons_succ]
  refine wpAnyH_take (i := 12) (v := .bool true) (at_list rfl) (by kernel_rfl) (by kernel_rfl) (by kernel_rfl) (fun _ _ _ h => h) (Or.inl ⟨by rfl, ?_⟩) hHeld ?_
  · intro v hSv
    clear hHeld
    go_simp
  try simp only [Act.put, List.setIfInBounds_toArray, List.set_cons_zero, List.set_cons_succ]
  refine wpAnyH_done (by kernel_rfl) ?_ _
  have HB := Lib.hid hHeld.1
  have LN := Lib.hid hHeld.2.1
  have K1 := Lib.hid hHeld.2.2.1
  have K2 := Lib.hid hHeld.2.2.2.1
  clear hHeld
  go_wp2
  go_ret
  exact ⟨rfl, HB.out⟩

end Go.Proofs.YtifhjmhekapaoaaDoor
