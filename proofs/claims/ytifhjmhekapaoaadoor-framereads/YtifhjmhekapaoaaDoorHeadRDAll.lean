/- Parts of this proof, one behind the other: HeadRDBase, HeadRDA, HeadRDB, HeadRefDecode. -/
import Derived.Test.YtifhjmhekapaoaaDoorHeadDecode
import Derived.Test.YtifhjmhekapaoaaDoorHeadRefRows
import Derived.Test.YtifhjmhekapaoaaDoorBigAll
import Derived.Test.YtifhjmhekapaoaaDoorByHand
import Derived.Deep.DeepCutAuto

/- What the walk over the reference's head Decode starts from. -/
namespace Go.Proofs.YtifhjmhekapaoaaDoor
set_option maxRecDepth 100000
open Go.RowKit
set_option linter.unusedVariables false

/-- the cells of a head -/
def hdA (G : Hd) : Array Value := #[.int .i64 G.t, .int .i64 G.d, .int .i64 G.f, .int .i64 G.c, .int .u8 G.p.c.b0, .int .u8 G.p.c.b1, .int .u8 G.p.c.b2, .int .u8 G.p.c.b3, .int .u8 G.p.c.b4, .int .u8 G.p.c.b5, .int .u8 G.p.c.b6, .int .u8 G.p.c.b7, .int .i64 G.p.n, .int .i64 G.s, .int .i64 G.l]
theorem fault_form {L : Int} {zs : List Int} {c : Int} (hc : c ≠ 0) (hf : formN L zs = c) : decR (faultN L zs) (decH L zs) = decR c zeroH := by
  have e : faultN L zs = c := by unfold faultN; rw [if_pos (by rw [hf]; exact hc), hf]
  unfold decH
  rw [e, if_neg hc]
theorem fault_rest {L : Int} {zs : List Int} (hf : formN L zs = 0) : decR (faultN L zs) (decH L zs) = decR (if flagB (hdOf zs).t (hdOf zs).f = false then 55 else if inB (hdOf zs).p.n 1 65534 = false then 56 else 0) (if flagB (hdOf zs).t (hdOf zs).f = true ∧ inB (hdOf zs).p.n 1 65534 = true then hdOf zs else zeroH) := by
  have e : faultN L zs = (if flagB (hdOf zs).t (hdOf zs).f = false then 55 else if inB (hdOf zs).p.n 1 65534 = false then 56 else 0) := by
    unfold faultN
    rw [hf, if_neg (by simp)]
  unfold decH
  rw [e]
  cases flagB (hdOf zs).t (hdOf zs).f <;> cases inB (hdOf zs).p.n 1 65534 <;> rfl
/-- what is known of the bytes that are read -/
structure RDF (a : Addr) (L C : Nat) (zs : List Int) (G : Hd) (m x : Int) (z0 z1 z4 z5 z16 z17 z18 z19 z32 z33 : Int) : Prop where
  l34 : 34 ≤ L
  lc : L ≤ C
  cm : C ≤ maxLen
  len : zs.length = L
  b0 : 0 ≤ z0 ∧ z0 ≤ 255
  b4 : 0 ≤ z4 ∧ z4 ≤ 255
  b33 : 0 ≤ z33 ∧ z33 ≤ 255
  gt : G.t = z0 % 16
  gd : G.d = z4
  gl : G.l = sg1 z33
  v0 : ∀ v, BytesAt v a zs → v.cell? a = some (.int .u8 z0)
  v1 : ∀ v, BytesAt v a zs → v.cell? ⟨a.block, a.off + 1, none⟩ = some (.int .u8 z1)
  v4 : ∀ v, BytesAt v a zs → v.cell? ⟨a.block, a.off + 4, none⟩ = some (.int .u8 z4)
  v5 : ∀ v, BytesAt v a zs → v.cell? ⟨a.block, a.off + 5, none⟩ = some (.int .u8 z5)
  v16 : ∀ v, BytesAt v a zs → v.cell? ⟨a.block, a.off + 16, none⟩ = some (.int .u8 z16)
  v17 : ∀ v, BytesAt v a zs → v.cell? ⟨a.block, a.off + 17, none⟩ = some (.int .u8 z17)
  v18 : ∀ v, BytesAt v a zs → v.cell? ⟨a.block, a.off + 18, none⟩ = some (.int .u8 z18)
  v19 : ∀ v, BytesAt v a zs → v.cell? ⟨a.block, a.off + 19, none⟩ = some (.int .u8 z19)
  v32 : ∀ v, BytesAt v a zs → v.cell? ⟨a.block, a.off + 32, none⟩ = some (.int .u8 z32)
  v33 : ∀ v, BytesAt v a zs → v.cell? ⟨a.block, a.off + 33, none⟩ = some (.int .u8 z33)
  cv : ∀ v, BytesAt v a zs → Calls Tryd.prog 24 #[.slice (some a) L C, .int .i64 6] v fun e w' => e = .returned (.int .i64 G.f) ∧ Below v.heap.size v w'
  cw : ∀ v, BytesAt v a zs → Calls Tryd.prog 24 #[.slice (some a) L C, .int .i64 30] v fun e w' => e = .returned (.int .i64 G.s) ∧ Below v.heap.size v w'
  cx : ∀ v, BytesAt v a zs → Calls Tryd.prog 24 #[.slice (some a) L C, .int .i64 2] v fun e w' => e = .returned (.int .i64 x) ∧ Below v.heap.size v w'
  cs : ∀ v, BytesAt v a zs → Calls Tryd.prog 25 #[.slice (some ⟨a.block, a.off + 8, none⟩) 8 (C - 8)] v fun e w' => e = .returned (.int .i64 G.c) ∧ Below v.heap.size v w'
  cg : ∀ v, BytesAt v a zs → Calls Tryd.prog 26 #[.slice (some ⟨a.block, a.off + 20, none⟩) 10 (C - 20)] v fun e w' => e = .returned (.tuple #[.agg #[.int .u8 G.p.c.b0, .int .u8 G.p.c.b1, .int .u8 G.p.c.b2, .int .u8 G.p.c.b3, .int .u8 G.p.c.b4, .int .u8 G.p.c.b5, .int .u8 G.p.c.b6, .int .u8 G.p.c.b7, .int .i64 G.p.n], .bool true]) ∧ Below v.heap.size v w'
  cl : ∀ v, Calls Tryd.prog 27 #[.int .i64 G.t] v fun e w' => e = .returned (.int .i64 m) ∧ v = w'
  s8 : ∀ v, (Instr.sliceAt 22 (.slice (some a) L C) (some (.int .i64 8)) (some (.int .i64 16)) none).run Tryd.prog v = .ok (.slice (some ⟨a.block, a.off + 8, none⟩) 8 (C - 8)) v
  s20 : ∀ v, (Instr.sliceAt 22 (.slice (some a) L C) (some (.int .i64 20)) (some (.int .i64 30)) none).run Tryd.prog v = .ok (.slice (some ⟨a.block, a.off + 20, none⟩) 10 (C - 20)) v
theorem slice_mid (a : Addr) (L C lo hi : Nat) (h1 : hi ≤ C) (h2 : lo < hi) (h3 : 0 < lo) (v : World) : (Instr.sliceAt 22 (.slice (some a) L C) (some (.int .i64 lo)) (some (.int .i64 hi)) none).run Tryd.prog v = .ok (.slice (some ⟨a.block, a.off + lo, none⟩) (hi - lo) (C - lo)) v := by
  rw [run_sliceAt_slice _ _ _ _ _ _ (by kernel_rfl), run_slice_lh v _ _ _ _ (by kernel_rfl) .i64 .i64 lo hi (by omega) (by omega) (by omega)]
  show Result.ok (sliced (some a) lo hi C 1) v = _
  unfold sliced
  rw [if_neg (by omega)]
  show Result.ok (Value.slice (some (a.add (lo * 1))) (hi - lo) (C - lo)) v = _
  rw [Nat.mul_one]
  unfold Addr.add
  rw [if_neg (by omega)]
theorem yields_buildH {P : Program} {ops : Array Oper} {op : Oper} {a : Act} {S : World → Prop} (hw : Region.wanted op (yielded ops a.tmps) = true) (ty : TypeId) (parts : Array (Nat × Operand)) (ho : op.op = .build ty parts) (cs : Array Value) (hf : P.built ty (parts.map fun (i, x) => (i, a.eval x)).toList = some cs) : YieldsIf P ops S op (.agg cs) a :=
  .inl ⟨hw, fun w _ => by
    unfold execOp
    simp only [ho, Sem.run_bind, run_build w ty _ cs hf, Result.andThen_ok, Sem.run_pure]⟩
/-- where the orders of reading meet -/
def RDCut (a : Addr) (L C : Nat) (zs : List Int) (G : Hd) (z0 z4 z33 : Int) (w : World) (gK2 : Nat) (s4 s14 s15 s16 s17 s18 s19 s20 s21 s22 s23 s24 s25 s26 s27 s28 s29 s30 s31 s32 s33 s34 : Value) (v : World) : Prop := ∃ g4, s4 = .pointer (some ⟨g4, 0, none⟩) ∧ s14 = .slice (some a) L C ∧ s15 = .pointer (some a) ∧ s16 = .int .u8 z0 ∧ s17 = .int .i64 z0 ∧ s18 = .int .i64 G.t ∧ s19 = .slice (some a) L C ∧ s20 = .pointer (some ⟨a.block, a.off + 4, none⟩) ∧ s21 = .int .u8 z4 ∧ s22 = .int .i64 G.d ∧ s23 = .slice (some a) L C ∧ s24 = .int .i64 G.f ∧ s25 = .slice (some a) L C ∧ s26 = .slice (some ⟨a.block, a.off + 8, none⟩) 8 (C - 8) ∧ s27 = .int .i64 G.c ∧ s28 = .slice (some a) L C ∧ s29 = .int .i64 G.s ∧ s30 = .slice (some a) L C ∧ s31 = .pointer (some ⟨a.block, a.off + 33, none⟩) ∧ s32 = .int .u8 z33 ∧ s33 = .int .i64 z33 ∧ s34 = .agg (hdA ⟨G.t, G.d, G.f, G.c, zeroP, G.s, z33⟩) ∧
  Below w.heap.size w v ∧ BytesAt v a zs ∧ Holds v gK2 32 (hdA zeroH) ∧ Holds v g4 32 (hdA ⟨G.t, G.d, G.f, G.c, zeroP, G.s, z33⟩) ∧ gK2 ≠ g4 ∧ w.heap.size ≤ g4 ∧ a.block ≠ g4
set_option maxHeartbeats 4000000 in
theorem rdecode_short (A : Option Addr) (L C : Nat) (w : World) (hL : L < 34) :
    Calls Tryd.prog 7 #[.slice A L C] w fun e w' => e = decR 50 zeroH ∧ Below w.heap.size w w' := by
  have HB := Lib.hid (Below.refl w.heap.size w)
  have h1 : decide ((L : Int) < 34) = true := by simp; omega
  go_enter Tryd.func7, Tryd.ntmps7
  go_wp2_with (first | (refine big_fill rfl 32 _ _ rfl gK2 (hdA zeroH) rfl rfl K2.out (by kernel_rfl) (by kernel_rfl) (by kernel_rfl) ?_; intro vK20 nK2 htK2; replace K2 := Lib.hid nK2; replace HB := Lib.hid (btouch HB.out htK2 LK2.out); clear nK2 htK2) | (refine big_build rfl 32 _ rfl (hdA zeroH) (by kernel_rfl) ?_) | (refine big_alloc rfl 32 rfl (hdA zeroH) (by kernel_rfl) ?_; intro gK2 wK2 hlK2 nK2 hbK2; have K2 := Lib.hid nK2; have LK2 := Lib.hid (Nat.le_trans (HB.out).size hlK2); replace HB := Lib.hid (bstep HB.out hbK2); clear hlK2 nK2 hbK2))
  refine bodyPost_ret (results_two rfl _ _ gK2 _ (hdA zeroH) (.int .i64 50) _ rfl rfl K2.out Tryd.underlying32 rfl (by kernel_rfl)) rfl ⟨?_, HB.out⟩
  rfl

end Go.Proofs.YtifhjmhekapaoaaDoor

/- The walk over the reference's head Decode, where its last byte is above 127, and where the version is another one. -/
namespace Go.Proofs.YtifhjmhekapaoaaDoor
set_option maxRecDepth 100000
open Go.RowKit
set_option linter.unusedVariables false

set_option maxHeartbeats 16000000 in
theorem rd_hi (a : Addr) (L C : Nat) (zs : List Int) (G : Hd) (m x : Int) (z0 z1 z4 z5 z16 z17 z18 z19 z32 z33 : Int) (w : World) (E : Value) (hE : E = if m = 0 then .tuple #[.agg (hdA zeroH), .int .i64 52] else if x ≠ m ∨ (L : Int) ≠ m then .tuple #[.agg (hdA zeroH), .int .i64 53] else if 15 < z0 ∨ z5 ≠ 0 ∨ z16 ≠ 0 ∨ z17 ≠ 0 ∨ z18 ≠ 0 ∨ z19 ≠ 0 ∨ z32 ≠ 0 then .tuple #[.agg (hdA zeroH), .int .i64 54] else if flagB G.t G.f = false then .tuple #[.agg (hdA zeroH), .int .i64 55] else if G.p.n = 0 ∨ G.p.n = 65535 then .tuple #[.agg (hdA zeroH), .int .i64 56] else .tuple #[.agg (hdA G), .int .i64 0]) (F : RDF a L C zs G m x z0 z1 z4 z5 z16 z17 z18 z19 z32 z33) (hc : BytesAt w a zs) (h2 : z1 = 2) (hh : 127 < z33) :
    Calls Tryd.prog 7 #[.slice (some a) L C] w fun e w' => e = .returned E ∧ Below w.heap.size w w' := by
  have HB := Lib.hid (Below.refl w.heap.size w)
  have HE := Lib.hid hE
  clear hE
  have d1 : (z1 != 2) = false := by simp [h2]
  clear h2
  have BA := Lib.hid hc
  have FF := Lib.hid F
  have k1 := F.l34
  have k2 := F.lc
  have k3 := F.cm
  have k4 := F.b0
  have k5 := F.b4
  have k6 := F.b33
  unfold maxLen at k3
  have hLs : decide ((L : Int) < 34) = false := decide_eq_false (by omega)
  clear F hc
  go_enter Tryd.func7, Tryd.ntmps7
  go_upto_region 5 with (refine big_alloc rfl 32 rfl (hdA zeroH) (by kernel_rfl) ?_; intro gK2 wK2 hlK2 nK2 hbK2; have K2 := Lib.hid nK2; have LK2 := Lib.hid (Nat.le_trans (HB.out).size hlK2); replace BA := Lib.hid ((BA.out).keptB hbK2); replace HB := Lib.hid (bstep HB.out hbK2); clear hlK2 nK2 hbK2; have e1 := (FF.out).v1 _ BA.out)
  clear e1
  go_cut [4, 14, 15, 16, 17, 18, 19, 20, 21, 22, 23, 24, 25, 26, 27, 28, 29, 30, 31, 32, 33, 34] (fun s4 s14 s15 s16 s17 s18 s19 s20 s21 s22 s23 s24 s25 s26 s27 s28 s29 s30 s31 s32 s33 s34 wx => RDCut a L C zs G z0 z4 z33 w gK2 s4 s14 s15 s16 s17 s18 s19 s20 s21 s22 s23 s24 s25 s26 s27 s28 s29 s30 s31 s32 s33 s34 wx)
  case first =>
    refine wp_region_noPanic ?_
    refine wp_region_held_drew (S := fun v => Below w.heap.size w v ∧ Holds v gK2 32 (hdA zeroH) ∧ BytesAt v a zs) (by kernel_rfl) ?_ (fun hHeld => ?_)
    · exact ⟨bdrew HB.out, (K2.out).drew, (BA.out).drew⟩
    clear HB K2 BA
    refine wpAnyH_take (i := 0) (v := .slice (some a) L C) (at_list rfl) (by kernel_rfl) (by kernel_rfl) (by kernel_rfl) (fun _ _ _ h => h) (Or.inl ⟨by rfl, ?_⟩) hHeld ?_
    · intro v hSv
      clear hHeld
      go_simp
    try simp only [Act.put, List.setIfInBounds_toArray, List.set_cons_zero, List.set_cons_succ]
    refine wpAnyH_take (i := 1) (v := .pointer (some a)) (at_list rfl) (by kernel_rfl) (by kernel_rfl) (by kernel_rfl) (fun _ _ _ h => h) (Or.inl ⟨by rfl, ?_⟩) hHeld ?_
    · intro v hSv
      clear hHeld
      clear hSv
      go_simp
      intro h
      exfalso
      omega
    try simp only [Act.put, List.setIfInBounds_toArray, List.set_cons_zero, List.set_cons_succ]
    refine wpAnyH_take (i := 2) (v := .int .u8 z0) (at_list rfl) (by kernel_rfl) (by kernel_rfl) (by kernel_rfl) (fun _ _ _ h => h) (Or.inl ⟨by rfl, ?_⟩) hHeld ?_
    · intro v hSv
      clear hHeld
      have c0 := (FF.out).v0 v hSv.2.2
      clear hSv
      go_simp
    try simp only [Act.put, List.setIfInBounds_toArray, List.set_cons_zero, List.set_cons_succ]
    refine wpAnyH_take (i := 3) (v := .int .i64 z0) (at_list rfl) (by kernel_rfl) (by kernel_rfl) (by kernel_rfl) (fun _ _ _ h => h) (Or.inl ⟨by rfl, ?_⟩) hHeld ?_
    · intro v hSv
      clear hHeld
      clear hSv
      go_simp
      rw [IntKind.wrap_i64]
      omega
    try simp only [Act.put, List.setIfInBounds_toArray, List.set_cons_zero, List.set_cons_succ]
    refine wpAnyH_take (i := 4) (v := .int .i64 G.t) (at_list rfl) (by kernel_rfl) (by kernel_rfl) (by kernel_rfl) (fun _ _ _ h => h) (Or.inl ⟨by rfl, ?_⟩) hHeld ?_
    · intro v hSv
      clear hHeld
      clear hSv
      have hgt := (FF.out).gt
      go_simp
      rw [Int.tmod_eq_emod_of_nonneg (by omega)]
    try simp only [Act.put, List.setIfInBounds_toArray, List.set_cons_zero, List.set_cons_succ]
    refine wpAnyH_take (i := 5) (v := .slice (some a) L C) (at_list rfl) (by kernel_rfl) (by kernel_rfl) (by kernel_rfl) (fun _ _ _ h => h) (Or.inl ⟨by rfl, ?_⟩) hHeld ?_
    · intro v hSv
      clear hHeld
      go_simp
    try simp only [Act.put, List.setIfInBounds_toArray, List.set_cons_zero, List.set_cons_succ]
    refine wpAnyH_take (i := 6) (v := .pointer (some ⟨a.block, a.off + 4, none⟩)) (at_list rfl) (by kernel_rfl) (by kernel_rfl) (by kernel_rfl) (fun _ _ _ h => h) (Or.inl ⟨by rfl, ?_⟩) hHeld ?_
    · intro v hSv
      clear hHeld
      clear hSv
      go_simp
      intro h
      exfalso
      omega
    try simp only [Act.put, List.setIfInBounds_toArray, List.set_cons_zero, List.set_cons_succ]
    refine wpAnyH_take (i := 7) (v := .int .u8 z4) (at_list rfl) (by kernel_rfl) (by kernel_rfl) (by kernel_rfl) (fun _ _ _ h => h) (Or.inl ⟨by rfl, ?_⟩) hHeld ?_
    · intro v hSv
      clear hHeld
      have c4 := (FF.out).v4 v hSv.2.2
      clear hSv
      go_simp
    try simp only [Act.put, List.setIfInBounds_toArray, List.set_cons_zero, List.set_cons_succ]
    refine wpAnyH_take (i := 8) (v := .int .i64 G.d) (at_list rfl) (by kernel_rfl) (by kernel_rfl) (by kernel_rfl) (fun _ _ _ h => h) (Or.inl ⟨by rfl, ?_⟩) hHeld ?_
    · intro v hSv
      clear hHeld
      clear hSv
      have hgd := (FF.out).gd
      go_simp
      rw [IntKind.wrap_i64]
      omega
    try simp only [Act.put, List.setIfInBounds_toArray, List.set_cons_zero, List.set_cons_succ]
    refine wpAnyH_take (i := 9) (v := .slice (some a) L C) (at_list rfl) (by kernel_rfl) (by kernel_rfl) (by kernel_rfl) (fun _ _ _ h => h) (Or.inl ⟨by rfl, ?_⟩) hHeld ?_
    · intro v hSv
      clear hHeld
      go_simp
    try simp only [Act.put, List.setIfInBounds_toArray, List.set_cons_zero, List.set_cons_succ]
    refine wpAnyH_take (i := 11) (v := .slice (some a) L C) (at_list rfl) (by kernel_rfl) (by kernel_rfl) (by kernel_rfl) (fun _ _ _ h => h) (Or.inl ⟨by rfl, ?_⟩) hHeld ?_
    · intro v hSv
      clear hHeld
      go_simp
    try simp only [Act.put, List.setIfInBounds_toArray, List.set_cons_zero, List.set_cons_succ]
    refine wpAnyH_take (i := 12) (v := .slice (some ⟨a.block, a.off + 8, none⟩) 8 (C - 8)) (at_list rfl) (by kernel_rfl) (by kernel_rfl) (by kernel_rfl) (fun _ _ _ h => h) (Or.inl ⟨by rfl, ?_⟩) hHeld ?_
    · intro v hSv
      clear hHeld
      clear hSv
      have hsl := (FF.out).s8 v
      go_simp
    try simp only [Act.put, List.setIfInBounds_toArray, List.set_cons_zero, List.set_cons_succ]
    refine wpAnyH_take (i := 14) (v := .slice (some a) L C) (at_list rfl) (by kernel_rfl) (by kernel_rfl) (by kernel_rfl) (fun _ _ _ h => h) (Or.inl ⟨by rfl, ?_⟩) hHeld ?_
    · intro v hSv
      clear hHeld
      go_simp
    try simp only [Act.put, List.setIfInBounds_toArray, List.set_cons_zero, List.set_cons_succ]
    refine wpAnyH_take (i := 16) (v := .slice (some a) L C) (at_list rfl) (by kernel_rfl) (by kernel_rfl) (by kernel_rfl) (fun _ _ _ h => h) (Or.inl ⟨by rfl, ?_⟩) hHeld ?_
    · intro v hSv
      clear hHeld
      go_simp
    try simp only [Act.put, List.setIfInBounds_toArray, List.set_cons_zero, List.set_cons_succ]
    refine wpAnyH_take (i := 17) (v := .pointer (some ⟨a.block, a.off + 33, none⟩)) (at_list rfl) (by kernel_rfl) (by kernel_rfl) (by kernel_rfl) (fun _ _ _ h => h) (Or.inl ⟨by rfl, ?_⟩) hHeld ?_
    · intro v hSv
      clear hHeld
      clear hSv
      go_simp
      intro h
      exfalso
      omega
    try simp only [Act.put, List.setIfInBounds_toArray, List.set_cons_zero, List.set_cons_succ]
    refine wpAnyH_take (i := 18) (v := .int .u8 z33) (at_list rfl) (by kernel_rfl) (by kernel_rfl) (by kernel_rfl) (fun _ _ _ h => h) (Or.inl ⟨by rfl, ?_⟩) hHeld ?_
    · intro v hSv
      clear hHeld
      have c33 := (FF.out).v33 v hSv.2.2
      clear hSv
      go_simp
    try simp only [Act.put, List.setIfInBounds_toArray, List.set_cons_zero, List.set_cons_succ]
    refine wpAnyH_take (i := 19) (v := .int .i64 z33) (at_list rfl) (by kernel_rfl) (by kernel_rfl) (by kernel_rfl) (fun _ _ _ h => h) (Or.inl ⟨by rfl, ?_⟩) hHeld ?_
    · intro v hSv
      clear hHeld
      clear hSv
      go_simp
      rw [IntKind.wrap_i64]
      omega
    try simp only [Act.put, List.setIfInBounds_toArray, List.set_cons_zero, List.set_cons_succ]
    refine wpAnyH_ready (rs := [10, 21]) (by kernel_rfl) (by simp) ?_
    refine AllReadyH.cons (at_list rfl) (fun K hK => ?_) (AllReadyH.cons (at_list rfl) (fun K hK => ?_) (AllReadyH.nil))
    · go_simp
      refine ((FF.out).cv _ hHeld.2.2).mono ?_
      rintro e y1 ⟨rfl, hy1⟩
      go_wp2_with fail
      refine hK.out _ _ ?_ (fun hHeld2 => ?_)
      · exact ⟨bstep hHeld.1 hy1, hHeld.2.1.keptB hy1, hHeld.2.2.keptB hy1⟩
      clear hK K hHeld
      have hHeld := hHeld2
      clear hHeld2 hy1
      try simp only [Act.put, List.setIfInBounds_toArray, List.set_cons_zero, List.set_cons_succ]
      refine wpAnyH_ready (rs := [13, 21]) (by kernel_rfl) (by simp) ?_
      refine AllReadyH.cons (at_list rfl) (fun K hK => ?_) (AllReadyH.cons (at_list rfl) (fun K hK => ?_) (AllReadyH.nil))
      · go_simp
        refine ((FF.out).cs _ hHeld.2.2).mono ?_
        rintro e y2 ⟨rfl, hy2⟩
        go_wp2_with fail
        refine hK.out _ _ ?_ (fun hHeld2 => ?_)
        · exact ⟨bstep hHeld.1 hy2, hHeld.2.1.keptB hy2, hHeld.2.2.keptB hy2⟩
        clear hK K hHeld
        have hHeld := hHeld2
        clear hHeld2 hy2
        try simp only [Act.put, List.setIfInBounds_toArray, List.set_cons_zero, List.set_cons_succ]
        refine wpAnyH_ready (rs := [15, 21]) (by kernel_rfl) (by simp) ?_
        refine AllReadyH.cons (at_list rfl) (fun K hK => ?_) (AllReadyH.cons (at_list rfl) (fun K hK => ?_) (AllReadyH.nil))
        · go_simp
          refine ((FF.out).cw _ hHeld.2.2).mono ?_
          rintro e y3 ⟨rfl, hy3⟩
          go_wp2_with fail
          refine hK.out _ _ ?_ (fun hHeld2 => ?_)
          · exact ⟨bstep hHeld.1 hy3, hHeld.2.1.keptB hy3, hHeld.2.2.keptB hy3⟩
          clear hK K hHeld
          have hHeld := hHeld2
          clear hHeld2 hy3
          try simp only [Act.put, List.setIfInBounds_toArray, List.set_cons_zero, List.set_cons_succ]
          refine wpAnyH_take (i := 20) (v := .agg (hdA ⟨G.t, G.d, G.f, G.c, zeroP, G.s, z33⟩)) (at_list rfl) (by kernel_rfl) (by kernel_rfl) (by kernel_rfl) (fun _ _ _ h => h) (yields_buildH (by rfl) 32 _ rfl (hdA ⟨G.t, G.d, G.f, G.c, zeroP, G.s, z33⟩) (by kernel_rfl)) hHeld ?_
          try simp only [Act.put, List.setIfInBounds_toArray, List.set_cons_zero, List.set_cons_succ]
          refine wpAnyH_ready (rs := [21]) (by kernel_rfl) (by simp) ?_
          refine AllReadyH.cons (at_list rfl) (fun K hK => ?_) (AllReadyH.nil)
          refine step_alloc (by rfl) 32 rfl (hdA zeroH) (by kernel_rfl) ?_
          intro g4 y4 hl4 n4 hy4
          have K4 := Lib.hid n4
          have L4 := Lib.hid (show w.heap.size ≤ g4 from Nat.le_trans hHeld.1.size hl4)
          have N24 := Lib.hid (show gK2 ≠ g4 by have := hHeld.2.1.inside; omega)
          have NA4 := Lib.hid (show a.block ≠ g4 by have := hHeld.2.2.inside (by rw [(FF.out).len]; omega); omega)
          refine hK.out _ _ ?_ (fun hHeld2 => ?_)
          · exact ⟨bstep hHeld.1 hy4, hHeld.2.1.keptB hy4, hHeld.2.2.keptB hy4⟩
          clear hK K hHeld
          have hHeld := hHeld2
          clear hHeld2
          try simp only [Act.put]
          try simp only [List.setIfInBounds_toArray, List.set_cons_zero, List.set_cons_succ]
          clear hl4 n4 hy4
          refine wpAnyH_ready (rs := [22]) (by kernel_rfl) (by simp) ?_
          refine AllReadyH.cons (at_list rfl) (fun K hK => ?_) (AllReadyH.nil)
          refine step_store (by rfl) 32 _ _ rfl g4 0 (hdA ⟨G.t, G.d, G.f, G.c, zeroP, G.s, z33⟩).toList rfl rfl K4.out (by kernel_rfl) (by kernel_rfl) (of_decide_eq_true (by kernel_rfl)) (hdA ⟨G.t, G.d, G.f, G.c, zeroP, G.s, z33⟩) (by kernel_rfl) ?_
          intro y5 n4 hy5
          replace K4 := Lib.hid n4
          refine hK.out _ _ ?_ (fun hHeld2 => ?_)
          · exact ⟨btouch hHeld.1 hy5 L4.out, hHeld.2.1.touch hy5 N24.out, hHeld.2.2.touch hy5 NA4.out⟩
          clear hK K hHeld
          have hHeld := hHeld2
          clear hHeld2
          try simp only [Act.put]
          clear n4 hy5
          refine wpAnyH_done (by kernel_rfl) ?_ _
          refine NoPanic.normal ?_
          go_wp2_with fail
          go_meet
          exact ⟨g4, rfl, rfl, rfl, rfl, rfl, rfl, rfl, rfl, rfl, rfl, rfl, rfl, rfl, rfl, rfl, rfl, rfl, rfl, rfl, rfl, rfl, rfl, hHeld.1, hHeld.2.2, hHeld.2.1, K4.out, N24.out, L4.out, NA4.out⟩
        · refine step_alloc (by rfl) 32 rfl (hdA zeroH) (by kernel_rfl) ?_
          intro g4 y6 hl4 n4 hy6
          have K4 := Lib.hid n4
          have L4 := Lib.hid (show w.heap.size ≤ g4 from Nat.le_trans hHeld.1.size hl4)
          have N24 := Lib.hid (show gK2 ≠ g4 by have := hHeld.2.1.inside; omega)
          have NA4 := Lib.hid (show a.block ≠ g4 by have := hHeld.2.2.inside (by rw [(FF.out).len]; omega); omega)
          refine hK.out _ _ ?_ (fun hHeld2 => ?_)
          · exact ⟨bstep hHeld.1 hy6, hHeld.2.1.keptB hy6, hHeld.2.2.keptB hy6⟩
          clear hK K hHeld
          have hHeld := hHeld2
          clear hHeld2
          try simp only [Act.put]
          try simp only [List.setIfInBounds_toArray, List.set_cons_zero, List.set_cons_succ]
          clear hl4 n4 hy6
          refine wpAnyH_ready (rs := [15]) (by kernel_rfl) (by simp) ?_
          refine AllReadyH.cons (at_list rfl) (fun K hK => ?_) (AllReadyH.nil)
          go_simp
          refine ((FF.out).cw _ hHeld.2.2).mono ?_
          rintro e y7 ⟨rfl, hy7⟩
          replace K4 := Lib.hid ((K4.out).keptB hy7)
          go_wp2_with fail
          refine hK.out _ _ ?_ (fun hHeld2 => ?_)
          · exact ⟨bstep hHeld.1 hy7, hHeld.2.1.keptB hy7, hHeld.2.2.keptB hy7⟩
          clear hK K hHeld
          have hHeld := hHeld2
          clear hHeld2 hy7
          try simp only [Act.put, List.setIfInBounds_toArray, List.set_cons_zero, List.set_cons_succ]
          refine wpAnyH_take (i := 20) (v := .agg (hdA ⟨G.t, G.d, G.f, G.c, zeroP, G.s, z33⟩)) (at_list rfl) (by kernel_rfl) (by kernel_rfl) (by kernel_rfl) (fun _ _ _ h => h) (yields_buildH (by rfl) 32 _ rfl (hdA ⟨G.t, G.d, G.f, G.c, zeroP, G.s, z33⟩) (by kernel_rfl)) hHeld ?_
          try simp only [Act.put, List.setIfInBounds_toArray, List.set_cons_zero, List.set_cons_succ]
          refine wpAnyH_ready (rs := [22]) (by kernel_rfl) (by simp) ?_
          refine AllReadyH.cons (at_list rfl) (fun K hK => ?_) (AllReadyH.nil)
          refine step_store (by rfl) 32 _ _ rfl g4 0 (hdA ⟨G.t, G.d, G.f, G.c, zeroP, G.s, z33⟩).toList rfl rfl K4.out (by kernel_rfl) (by kernel_rfl) (of_decide_eq_true (by kernel_rfl)) (hdA ⟨G.t, G.d, G.f, G.c, zeroP, G.s, z33⟩) (by kernel_rfl) ?_
          intro y8 n4 hy8
          replace K4 := Lib.hid n4
          refine hK.out _ _ ?_ (fun hHeld2 => ?_)
          · exact ⟨btouch hHeld.1 hy8 L4.out, hHeld.2.1.touch hy8 N24.out, hHeld.2.2.touch hy8 NA4.out⟩
          clear hK K hHeld
          have hHeld := hHeld2
          clear hHeld2
          try simp only [Act.put]
          clear n4 hy8
          refine wpAnyH_done (by kernel_rfl) ?_ _
          refine NoPanic.normal ?_
          go_wp2_with fail
          go_meet
          exact ⟨g4, rfl, rfl, rfl, rfl, rfl, rfl, rfl, rfl, rfl, rfl, rfl, rfl, rfl, rfl, rfl, rfl, rfl, rfl, rfl, rfl, rfl, rfl, hHeld.1, hHeld.2.2, hHeld.2.1, K4.out, N24.out, L4.out, NA4.out⟩
      · refine step_alloc (by rfl) 32 rfl (hdA zeroH) (by kernel_rfl) ?_
        intro g4 y9 hl4 n4 hy9
        have K4 := Lib.hid n4
        have L4 := Lib.hid (show w.heap.size ≤ g4 from Nat.le_trans hHeld.1.size hl4)
        have N24 := Lib.hid (show gK2 ≠ g4 by have := hHeld.2.1.inside; omega)
        have NA4 := Lib.hid (show a.block ≠ g4 by have := hHeld.2.2.inside (by rw [(FF.out).len]; omega); omega)
        refine hK.out _ _ ?_ (fun hHeld2 => ?_)
        · exact ⟨bstep hHeld.1 hy9, hHeld.2.1.keptB hy9, hHeld.2.2.keptB hy9⟩
        clear hK K hHeld
        have hHeld := hHeld2
        clear hHeld2
        try simp only [Act.put]
        try simp only [List.setIfInBounds_toArray, List.set_cons_zero, List.set_cons_succ]
        clear hl4 n4 hy9
        refine wpAnyH_ready (rs := [13]) (by kernel_rfl) (by simp) ?_
        refine AllReadyH.cons (at_list rfl) (fun K hK => ?_) (AllReadyH.nil)
        go_simp
        refine ((FF.out).cs _ hHeld.2.2).mono ?_
        rintro e y10 ⟨rfl, hy10⟩
        replace K4 := Lib.hid ((K4.out).keptB hy10)
        go_wp2_with fail
        refine hK.out _ _ ?_ (fun hHeld2 => ?_)
        · exact ⟨bstep hHeld.1 hy10, hHeld.2.1.keptB hy10, hHeld.2.2.keptB hy10⟩
        clear hK K hHeld
        have hHeld := hHeld2
        clear hHeld2 hy10
        try simp only [Act.put, List.setIfInBounds_toArray, List.set_cons_zero, List.set_cons_succ]
        refine wpAnyH_ready (rs := [15]) (by kernel_rfl) (by simp) ?_
        refine AllReadyH.cons (at_list rfl) (fun K hK => ?_) (AllReadyH.nil)
        go_simp
        refine ((FF.out).cw _ hHeld.2.2).mono ?_
        rintro e y11 ⟨rfl, hy11⟩
        replace K4 := Lib.hid ((K4.out).keptB hy11)
        go_wp2_with fail
        refine hK.out _ _ ?_ (fun hHeld2 => ?_)
        · exact ⟨bstep hHeld.1 hy11, hHeld.2.1.keptB hy11, hHeld.2.2.keptB hy11⟩
        clear hK K hHeld
        have hHeld := hHeld2
        clear hHeld2 hy11
        try simp only [Act.put, List.setIfInBounds_toArray, List.set_cons_zero, List.set_cons_succ]
        refine wpAnyH_take (i := 20) (v := .agg (hdA ⟨G.t, G.d, G.f, G.c, zeroP, G.s, z33⟩)) (at_list rfl) (by kernel_rfl) (by kernel_rfl) (by kernel_rfl) (fun _ _ _ h => h) (yields_buildH (by rfl) 32 _ rfl (hdA ⟨G.t, G.d, G.f, G.c, zeroP, G.s, z33⟩) (by kernel_rfl)) hHeld ?_
        try simp only [Act.put, List.setIfInBounds_toArray, List.set_cons_zero, List.set_cons_succ]
        refine wpAnyH_ready (rs := [22]) (by kernel_rfl) (by simp) ?_
        refine AllReadyH.cons (at_list rfl) (fun K hK => ?_) (AllReadyH.nil)
        refine step_store (by rfl) 32 _ _ rfl g4 0 (hdA ⟨G.t, G.d, G.f, G.c, zeroP, G.s, z33⟩).toList rfl rfl K4.out (by kernel_rfl) (by kernel_rfl) (of_decide_eq_true (by kernel_rfl)) (hdA ⟨G.t, G.d, G.f, G.c, zeroP, G.s, z33⟩) (by kernel_rfl) ?_
        intro y12 n4 hy12
        replace K4 := Lib.hid n4
        refine hK.out _ _ ?_ (fun hHeld2 => ?_)
        · exact ⟨btouch hHeld.1 hy12 L4.out, hHeld.2.1.touch hy12 N24.out, hHeld.2.2.touch hy12 NA4.out⟩
        clear hK K hHeld
        have hHeld := hHeld2
        clear hHeld2
        try simp only [Act.put]
        clear n4 hy12
        refine wpAnyH_done (by kernel_rfl) ?_ _
        refine NoPanic.normal ?_
        go_wp2_with fail
        go_meet
        exact ⟨g4, rfl, rfl, rfl, rfl, rfl, rfl, rfl, rfl, rfl, rfl, rfl, rfl, rfl, rfl, rfl, rfl, rfl, rfl, rfl, rfl, rfl, rfl, hHeld.1, hHeld.2.2, hHeld.2.1, K4.out, N24.out, L4.out, NA4.out⟩
    · refine step_alloc (by rfl) 32 rfl (hdA zeroH) (by kernel_rfl) ?_
      intro g4 y13 hl4 n4 hy13
      have K4 := Lib.hid n4
      have L4 := Lib.hid (show w.heap.size ≤ g4 from Nat.le_trans hHeld.1.size hl4)
      have N24 := Lib.hid (show gK2 ≠ g4 by have := hHeld.2.1.inside; omega)
      have NA4 := Lib.hid (show a.block ≠ g4 by have := hHeld.2.2.inside (by rw [(FF.out).len]; omega); omega)
      refine hK.out _ _ ?_ (fun hHeld2 => ?_)
      · exact ⟨bstep hHeld.1 hy13, hHeld.2.1.keptB hy13, hHeld.2.2.keptB hy13⟩
      clear hK K hHeld
      have hHeld := hHeld2
      clear hHeld2
      try simp only [Act.put]
      try simp only [List.setIfInBounds_toArray, List.set_cons_zero, List.set_cons_succ]
      clear hl4 n4 hy13
      refine wpAnyH_ready (rs := [10]) (by kernel_rfl) (by simp) ?_
      refine AllReadyH.cons (at_list rfl) (fun K hK => ?_) (AllReadyH.nil)
      go_simp
      refine ((FF.out).cv _ hHeld.2.2).mono ?_
      rintro e y14 ⟨rfl, hy14⟩
      replace K4 := Lib.hid ((K4.out).keptB hy14)
      go_wp2_with fail
      refine hK.out _ _ ?_ (fun hHeld2 => ?_)
      · exact ⟨bstep hHeld.1 hy14, hHeld.2.1.keptB hy14, hHeld.2.2.keptB hy14⟩
      clear hK K hHeld
      have hHeld := hHeld2
      clear hHeld2 hy14
      try simp only [Act.put, List.setIfInBounds_toArray, List.set_cons_zero, List.set_cons_succ]
      refine wpAnyH_ready (rs := [13]) (by kernel_rfl) (by simp) ?_
      refine AllReadyH.cons (at_list rfl) (fun K hK => ?_) (AllReadyH.nil)
      go_simp
      refine ((FF.out).cs _ hHeld.2.2).mono ?_
      rintro e y15 ⟨rfl, hy15⟩
      replace K4 := Lib.hid ((K4.out).keptB hy15)
      go_wp2_with fail
      refine hK.out _ _ ?_ (fun hHeld2 => ?_)
      · exact ⟨bstep hHeld.1 hy15, hHeld.2.1.keptB hy15, hHeld.2.2.keptB hy15⟩
      clear hK K hHeld
      have hHeld := hHeld2
      clear hHeld2 hy15
      try simp only [Act.put, List.setIfInBounds_toArray, List.set_cons_zero, List.set_cons_succ]
      refine wpAnyH_ready (rs := [15]) (by kernel_rfl) (by simp) ?_
      refine AllReadyH.cons (at_list rfl) (fun K hK => ?_) (AllReadyH.nil)
      go_simp
      refine ((FF.out).cw _ hHeld.2.2).mono ?_
      rintro e y16 ⟨rfl, hy16⟩
      replace K4 := Lib.hid ((K4.out).keptB hy16)
      go_wp2_with fail
      refine hK.out _ _ ?_ (fun hHeld2 => ?_)
      · exact ⟨bstep hHeld.1 hy16, hHeld.2.1.keptB hy16, hHeld.2.2.keptB hy16⟩
      clear hK K hHeld
      have hHeld := hHeld2
      clear hHeld2 hy16
      try simp only [Act.put, List.setIfInBounds_toArray, List.set_cons_zero, List.set_cons_succ]
      refine wpAnyH_take (i := 20) (v := .agg (hdA ⟨G.t, G.d, G.f, G.c, zeroP, G.s, z33⟩)) (at_list rfl) (by kernel_rfl) (by kernel_rfl) (by kernel_rfl) (fun _ _ _ h => h) (yields_buildH (by rfl) 32 _ rfl (hdA ⟨G.t, G.d, G.f, G.c, zeroP, G.s, z33⟩) (by kernel_rfl)) hHeld ?_
      try simp only [Act.put, List.setIfInBounds_toArray, List.set_cons_zero, List.set_cons_succ]
      refine wpAnyH_ready (rs := [22]) (by kernel_rfl) (by simp) ?_
      refine AllReadyH.cons (at_list rfl) (fun K hK => ?_) (AllReadyH.nil)
      refine step_store (by rfl) 32 _ _ rfl g4 0 (hdA ⟨G.t, G.d, G.f, G.c, zeroP, G.s, z33⟩).toList rfl rfl K4.out (by kernel_rfl) (by kernel_rfl) (of_decide_eq_true (by kernel_rfl)) (hdA ⟨G.t, G.d, G.f, G.c, zeroP, G.s, z33⟩) (by kernel_rfl) ?_
      intro y17 n4 hy17
      replace K4 := Lib.hid n4
      refine hK.out _ _ ?_ (fun hHeld2 => ?_)
      · exact ⟨btouch hHeld.1 hy17 L4.out, hHeld.2.1.touch hy17 N24.out, hHeld.2.2.touch hy17 NA4.out⟩
      clear hK K hHeld
      have hHeld := hHeld2
      clear hHeld2
      try simp only [Act.put]
      clear n4 hy17
      refine wpAnyH_done (by kernel_rfl) ?_ _
      refine NoPanic.normal ?_
      go_wp2_with fail
      go_meet
      exact ⟨g4, rfl, rfl, rfl, rfl, rfl, rfl, rfl, rfl, rfl, rfl, rfl, rfl, rfl, rfl, rfl, rfl, rfl, rfl, rfl, rfl, rfl, rfl, hHeld.1, hHeld.2.2, hHeld.2.1, K4.out, N24.out, L4.out, NA4.out⟩
  case rest =>
    obtain ⟨gK4, rfl, rfl, rfl, rfl, rfl, rfl, rfl, rfl, rfl, rfl, rfl, rfl, rfl, rfl, rfl, rfl, rfl, rfl, rfl, rfl, rfl, rfl, hb, hba, hr, h4, hne, hle, hna⟩ := hcut
    have HB := Lib.hid hb
    have BA := Lib.hid hba
    have K2 := Lib.hid hr
    have K4 := Lib.hid h4
    have NK2K4 := Lib.hid hne
    have LK4 := Lib.hid hle
    have NA4 := Lib.hid hna
    clear hb hba hr h4 hne hle hna
    have y14 := (K4.out).reads (i := 14) (x := .int .i64 z33) rfl
    have eL := (FF.out).gl
    have eL2 : Hid (z33 - 256 = G.l) := by rw [Hid, eL]; unfold sg1; rw [if_pos hh]
    have dh : decide (127 < z33) = true := decide_eq_true hh
    clear eL
    go_upto_region 8 with (refine big_set rfl 3 _ _ rfl gK4 14 (.int .i64 (z33 - 256)) rfl rfl K4.out (by kernel_rfl) rfl rfl (of_decide_eq_true (by kernel_rfl)) (hdA ⟨G.t, G.d, G.f, G.c, zeroP, G.s, z33 - 256⟩) (by kernel_rfl) ?_; intro vK41 nK4 htK4; replace K4 := Lib.hid nK4; replace K2 := Lib.hid ((K2.out).touch htK4 NK2K4.out); replace BA := Lib.hid ((BA.out).touch htK4 NA4.out); replace HB := Lib.hid (btouch HB.out htK4 LK4.out); clear nK4 htK4)
    rw [eL2.out] at K4
    clear eL2 dh hh
    clear y14
    have s20 := (FF.out).s20
    go_wp2_with fail
    clear s20
    refine ((FF.out).cg _ BA.out).mono ?_
    rintro e w6 ⟨rfl, h6⟩
    replace K2 := Lib.hid ((K2.out).keptB h6)
    replace K4 := Lib.hid ((K4.out).keptB h6)
    replace BA := Lib.hid ((BA.out).keptB h6)
    replace HB := Lib.hid (bstep HB.out h6)
    clear h6
    go_upto_region 9 with (refine big_store rfl 26 _ _ rfl gK4 4 [.int .u8 G.p.c.b0, .int .u8 G.p.c.b1, .int .u8 G.p.c.b2, .int .u8 G.p.c.b3, .int .u8 G.p.c.b4, .int .u8 G.p.c.b5, .int .u8 G.p.c.b6, .int .u8 G.p.c.b7, .int .i64 G.p.n] rfl rfl K4.out (by kernel_rfl) (by kernel_rfl) (of_decide_eq_true (by kernel_rfl)) (hdA G) (by kernel_rfl) ?_; intro vK42 nK4 htK4; replace K4 := Lib.hid nK4; replace K2 := Lib.hid ((K2.out).touch htK4 NK2K4.out); replace BA := Lib.hid ((BA.out).touch htK4 NA4.out); replace HB := Lib.hid (btouch HB.out htK4 LK4.out); clear nK4 htK4)
    have y0 := (K4.out).reads (i := 0) (x := .int .i64 G.t) rfl
    go_wp2_with fail
    refine ((FF.out).cl _).mono ?_
    rintro e w7 ⟨rfl, rfl⟩
    clear y0
    by_cases hm : m = 0
    · have d2 : (m == 0) = true := by simp [hm]
      have HX := Lib.hid (congrArg Ending.returned (show E = .tuple #[.agg (hdA zeroH), .int .i64 52] by rw [HE.out, if_pos hm]))
      go_wp2_with (first | (refine big_fill rfl 32 _ _ rfl gK2 (hdA zeroH) rfl rfl K2.out (by kernel_rfl) (by kernel_rfl) (by kernel_rfl) ?_; intro vK29 nK2 htK2; replace K2 := Lib.hid nK2; replace HB := Lib.hid (btouch HB.out htK2 LK2.out); clear nK2 htK2) | (refine big_build rfl 32 _ rfl (hdA zeroH) (by kernel_rfl) ?_))
      refine bodyPost_ret (results_two rfl _ _ gK2 _ (hdA zeroH) (.int .i64 52) _ rfl rfl K2.out Tryd.underlying32 rfl (by kernel_rfl)) rfl ⟨?_, HB.out⟩
      exact HX.out.symm
    have HM := Lib.hid hm
    have d2 : (m == 0) = false := by simp [hm]
    clear hm
    go_upto_region 11 with fail
    by_cases hx : x ≠ m
    · have HX := Lib.hid (congrArg Ending.returned (show E = .tuple #[.agg (hdA zeroH), .int .i64 53] by rw [HE.out, if_neg HM.out, if_pos (.inl hx)]))
      have dx : (x != m) = true := by simp [hx]
      clear hx
      refine wp_region_held_drew (S := fun v => Below w.heap.size w v ∧ Holds v gK2 32 (hdA zeroH) ∧ BytesAt v a zs ∧ Holds v gK4 32 (hdA G)) (by kernel_rfl) ?_ (fun hHeld => ?_)
      · exact ⟨bdrew HB.out, (K2.out).drew, (BA.out).drew, (K4.out).drew⟩
      clear HB K2 BA K4
      refine wpAnyH_take (i := 0) (v := .slice (some a) L C) (at_list rfl) (by kernel_rfl) (by kernel_rfl) (by kernel_rfl) (fun _ _ _ h => h) (Or.inl ⟨by rfl, ?_⟩) hHeld ?_
      · intro v hSv
        clear hHeld
        go_simp
      try simp only [Act.put, List.setIfInBounds_toArray, List.set_cons_zero, List.set_cons_succ]
      refine wpAnyH_take (i := 2) (v := .pointer (some ⟨gK4, 0, none⟩)) (at_list rfl) (by kernel_rfl) (by kernel_rfl) (by kernel_rfl) (fun _ _ _ h => h) (Or.inl ⟨by rfl, ?_⟩) hHeld ?_
      · intro v hSv
        clear hHeld
        go_simp
      try simp only [Act.put, List.setIfInBounds_toArray, List.set_cons_zero, List.set_cons_succ]
      refine wpAnyH_take (i := 3) (v := .int .i64 G.t) (at_list rfl) (by kernel_rfl) (by kernel_rfl) (by kernel_rfl) (fun _ _ _ h => h) (Or.inl ⟨by rfl, ?_⟩) hHeld ?_
      · intro v hSv
        clear hHeld
        have q_ := Holds.reads hSv.2.2.2 (i := 0) (x := .int .i64 G.t) rfl
        clear hSv
        go_simp
      try simp only [Act.put, List.setIfInBounds_toArray, List.set_cons_zero, List.set_cons_succ]
      refine wpAnyH_ready (rs := [1]) (by kernel_rfl) (by simp) ?_
      refine AllReadyH.cons (at_list rfl) (fun K hK => ?_) AllReadyH.nil
      go_simp
      refine ((FF.out).cx _ hHeld.2.2.1).mono ?_
      rintro e v1 ⟨rfl, hv1⟩
      go_wp2_with fail
      refine hK.out _ _ ?_ (fun hHeld2 => ?_)
      · exact ⟨bstep hHeld.1 hv1, hHeld.2.1.keptB hv1, hHeld.2.2.1.keptB hv1, hHeld.2.2.2.keptB hv1⟩
      clear hK K hHeld
      have hHeld := hHeld2
      clear hHeld2 hv1
      try simp only [Act.put, List.setIfInBounds_toArray, List.set_cons_zero, List.set_cons_succ]
      refine wpAnyH_ready (rs := [4]) (by kernel_rfl) (by simp) ?_
      refine AllReadyH.cons (at_list rfl) (fun K hK => ?_) AllReadyH.nil
      go_simp
      refine ((FF.out).cl _).mono ?_
      rintro e vp ⟨rfl, rfl⟩
      go_wp2_with fail
      refine hK.out _ _ hHeld (fun hHeld2 => ?_)
      clear hK K hHeld
      have hHeld := hHeld2
      clear hHeld2
      try simp only [Act.put, List.setIfInBounds_toArray, List.set_cons_zero, List.set_cons_succ]
      refine wpAnyH_take (i := 5) (v := .bool true) (at_list rfl) (by kernel_rfl) (by kernel_rfl) (by kernel_rfl) (fun _ _ _ h => h) (Or.inl ⟨by rfl, ?_⟩) hHeld ?_
      · intro v hSv
        clear hHeld
        clear hSv
        go_simp
      try simp only [Act.put, List.setIfInBounds_toArray, List.set_cons_zero, List.set_cons_succ]
      refine wpAnyH_take (i := 6) (v := .bool true) (at_list rfl) (by kernel_rfl) (by kernel_rfl) (by kernel_rfl) (fun _ _ _ h => h) (Or.inl ⟨by rfl, ?_⟩) hHeld ?_
      · intro v hSv
        clear hHeld
        go_simp
      try simp only [Act.put, List.setIfInBounds_toArray, List.set_cons_zero, List.set_cons_succ]
      refine wpAnyH_take (i := 7) (v := undef) (at_list rfl) (by kernel_rfl) (by kernel_rfl) (by kernel_rfl) (fun _ _ _ h => h) (Or.inr ⟨by rfl, rfl⟩) hHeld ?_
      try simp only [Act.put, List.setIfInBounds_toArray, List.set_cons_zero, List.set_cons_succ]
      refine wpAnyH_take (i := 8) (v := undef) (at_list rfl) (by kernel_rfl) (by kernel_rfl) (by kernel_rfl) (fun _ _ _ h => h) (Or.inr ⟨by rfl, rfl⟩) hHeld ?_
      try simp only [Act.put, List.setIfInBounds_toArray, List.set_cons_zero, List.set_cons_succ]
      refine wpAnyH_take (i := 9) (v := undef) (at_list rfl) (by kernel_rfl) (by kernel_rfl) (by kernel_rfl) (fun _ _ _ h => h) (Or.inr ⟨by rfl, rfl⟩) hHeld ?_
      try simp only [Act.put, List.setIfInBounds_toArray, List.set_cons_zero, List.set_cons_succ]
      refine wpAnyH_take (i := 10) (v := undef) (at_list rfl) (by kernel_rfl) (by kernel_rfl) (by kernel_rfl) (fun _ _ _ h => h) (Or.inr ⟨by rfl, rfl⟩) hHeld ?_
      try simp only [Act.put, List.setIfInBounds_toArray, List.set_cons_zero, List.set_cons_succ]
      refine wpAnyH_take (i := 11) (v := undef) (at_list rfl) (by kernel_rfl) (by kernel_rfl) (by kernel_rfl) (fun _ _ _ h => h) (Or.inr ⟨by rfl, rfl⟩) hHeld ?_
      try simp only [Act.put, List.setIfInBounds_toArray, List.set_cons_zero, List.set_cons_succ]
      refine wpAnyH_take (i := 12) (v := undef) (at_list rfl) (by kernel_rfl) (by kernel_rfl) (by kernel_rfl) (fun _ _ _ h => h) (Or.inr ⟨by rfl, rfl⟩) hHeld ?_
      try simp only [Act.put, List.setIfInBounds_toArray, List.set_cons_zero, List.set_cons_succ]
      refine wpAnyH_take (i := 13) (v := .bool true) (at_list rfl) (by kernel_rfl) (by kernel_rfl) (by kernel_rfl) (fun _ _ _ h => h) (Or.inl ⟨by rfl, ?_⟩) hHeld ?_
      · intro v hSv
        clear hHeld
        go_simp
      try simp only [Act.put, List.setIfInBounds_toArray, List.set_cons_zero, List.set_cons_succ]
      refine wpAnyH_done (by kernel_rfl) ?_ _
      have HB := Lib.hid hHeld.1
      have K2 := Lib.hid hHeld.2.1
      have BA := Lib.hid hHeld.2.2.1
      have K4 := Lib.hid hHeld.2.2.2
      clear hHeld
      go_wp2_with (first | (refine big_fill rfl 32 _ _ rfl gK2 (hdA zeroH) rfl rfl K2.out (by kernel_rfl) (by kernel_rfl) (by kernel_rfl) ?_; intro vK29 nK2 htK2; replace K2 := Lib.hid nK2; replace HB := Lib.hid (btouch HB.out htK2 LK2.out); clear nK2 htK2) | (refine big_build rfl 32 _ rfl (hdA zeroH) (by kernel_rfl) ?_))
      refine bodyPost_ret (results_two rfl _ _ gK2 _ (hdA zeroH) (.int .i64 53) _ rfl rfl K2.out Tryd.underlying32 rfl (by kernel_rfl)) rfl ⟨?_, HB.out⟩
      exact HX.out.symm
    have dx : (x != m) = false := by simpa using hx
    by_cases hl : (L : Int) ≠ m
    · have HX := Lib.hid (congrArg Ending.returned (show E = .tuple #[.agg (hdA zeroH), .int .i64 53] by rw [HE.out, if_neg HM.out, if_pos (.inr hl)]))
      have dL : ((L : Int) != m) = true := by simp [hl]
      clear hx hl
      refine wp_region_held_drew (S := fun v => Below w.heap.size w v ∧ Holds v gK2 32 (hdA zeroH) ∧ BytesAt v a zs ∧ Holds v gK4 32 (hdA G)) (by kernel_rfl) ?_ (fun hHeld => ?_)
      · exact ⟨bdrew HB.out, (K2.out).drew, (BA.out).drew, (K4.out).drew⟩
      clear HB K2 BA K4
      refine wpAnyH_take (i := 0) (v := .slice (some a) L C) (at_list rfl) (by kernel_rfl) (by kernel_rfl) (by kernel_rfl) (fun _ _ _ h => h) (Or.inl ⟨by rfl, ?_⟩) hHeld ?_
      · intro v hSv
        clear hHeld
        go_simp
      try simp only [Act.put, List.setIfInBounds_toArray, List.set_cons_zero, List.set_cons_succ]
      refine wpAnyH_take (i := 2) (v := .pointer (some ⟨gK4, 0, none⟩)) (at_list rfl) (by kernel_rfl) (by kernel_rfl) (by kernel_rfl) (fun _ _ _ h => h) (Or.inl ⟨by rfl, ?_⟩) hHeld ?_
      · intro v hSv
        clear hHeld
        go_simp
      try simp only [Act.put, List.setIfInBounds_toArray, List.set_cons_zero, List.set_cons_succ]
      refine wpAnyH_take (i := 3) (v := .int .i64 G.t) (at_list rfl) (by kernel_rfl) (by kernel_rfl) (by kernel_rfl) (fun _ _ _ h => h) (Or.inl ⟨by rfl, ?_⟩) hHeld ?_
      · intro v hSv
        clear hHeld
        have q_ := Holds.reads hSv.2.2.2 (i := 0) (x := .int .i64 G.t) rfl
        clear hSv
        go_simp
      try simp only [Act.put, List.setIfInBounds_toArray, List.set_cons_zero, List.set_cons_succ]
      refine wpAnyH_ready (rs := [1]) (by kernel_rfl) (by simp) ?_
      refine AllReadyH.cons (at_list rfl) (fun K hK => ?_) AllReadyH.nil
      go_simp
      refine ((FF.out).cx _ hHeld.2.2.1).mono ?_
      rintro e v1 ⟨rfl, hv1⟩
      go_wp2_with fail
      refine hK.out _ _ ?_ (fun hHeld2 => ?_)
      · exact ⟨bstep hHeld.1 hv1, hHeld.2.1.keptB hv1, hHeld.2.2.1.keptB hv1, hHeld.2.2.2.keptB hv1⟩
      clear hK K hHeld
      have hHeld := hHeld2
      clear hHeld2 hv1
      try simp only [Act.put, List.setIfInBounds_toArray, List.set_cons_zero, List.set_cons_succ]
      refine wpAnyH_ready (rs := [4]) (by kernel_rfl) (by simp) ?_
      refine AllReadyH.cons (at_list rfl) (fun K hK => ?_) AllReadyH.nil
      go_simp
      refine ((FF.out).cl _).mono ?_
      rintro e vp ⟨rfl, rfl⟩
      go_wp2_with fail
      refine hK.out _ _ hHeld (fun hHeld2 => ?_)
      clear hK K hHeld
      have hHeld := hHeld2
      clear hHeld2
      try simp only [Act.put, List.setIfInBounds_toArray, List.set_cons_zero, List.set_cons_succ]
      refine wpAnyH_take (i := 5) (v := .bool false) (at_list rfl) (by kernel_rfl) (by kernel_rfl) (by kernel_rfl) (fun _ _ _ h => h) (Or.inl ⟨by rfl, ?_⟩) hHeld ?_
      · intro v hSv
        clear hHeld
        clear hSv
        go_simp
      try simp only [Act.put, List.setIfInBounds_toArray, List.set_cons_zero, List.set_cons_succ]
      refine wpAnyH_take (i := 6) (v := .bool false) (at_list rfl) (by kernel_rfl) (by kernel_rfl) (by kernel_rfl) (fun _ _ _ h => h) (Or.inl ⟨by rfl, ?_⟩) hHeld ?_
      · intro v hSv
        clear hHeld
        go_simp
      try simp only [Act.put, List.setIfInBounds_toArray, List.set_cons_zero, List.set_cons_succ]
      refine wpAnyH_take (i := 7) (v := .slice (some a) L C) (at_list rfl) (by kernel_rfl) (by kernel_rfl) (by kernel_rfl) (fun _ _ _ h => h) (Or.inl ⟨by rfl, ?_⟩) hHeld ?_
      · intro v hSv
        clear hHeld
        go_simp
      try simp only [Act.put, List.setIfInBounds_toArray, List.set_cons_zero, List.set_cons_succ]
      refine wpAnyH_take (i := 8) (v := .int .i64 L) (at_list rfl) (by kernel_rfl) (by kernel_rfl) (by kernel_rfl) (fun _ _ _ h => h) (Or.inl ⟨by rfl, ?_⟩) hHeld ?_
      · intro v hSv
        clear hHeld
        go_simp
      try simp only [Act.put, List.setIfInBounds_toArray, List.set_cons_zero, List.set_cons_succ]
      refine wpAnyH_take (i := 9) (v := .pointer (some ⟨gK4, 0, none⟩)) (at_list rfl) (by kernel_rfl) (by kernel_rfl) (by kernel_rfl) (fun _ _ _ h => h) (Or.inl ⟨by rfl, ?_⟩) hHeld ?_
      · intro v hSv
        clear hHeld
        go_simp
      try simp only [Act.put, List.setIfInBounds_toArray, List.set_cons_zero, List.set_cons_succ]
      refine wpAnyH_take (i := 10) (v := .int .i64 G.t) (at_list rfl) (by kernel_rfl) (by kernel_rfl) (by kernel_rfl) (fun _ _ _ h => h) (Or.inl ⟨by rfl, ?_⟩) hHeld ?_
      · intro v hSv
        clear hHeld
        have q_ := Holds.reads hSv.2.2.2 (i := 0) (x := .int .i64 G.t) rfl
        clear hSv
        go_simp
      try simp only [Act.put, List.setIfInBounds_toArray, List.set_cons_zero, List.set_cons_succ]
      refine wpAnyH_ready (rs := [11]) (by kernel_rfl) (by simp) ?_
      refine AllReadyH.cons (at_list rfl) (fun K hK => ?_) AllReadyH.nil
      go_simp
      refine ((FF.out).cl _).mono ?_
      rintro e vp ⟨rfl, rfl⟩
      go_wp2_with fail
      refine hK.out _ _ hHeld (fun hHeld2 => ?_)
      clear hK K hHeld
      have hHeld := hHeld2
      clear hHeld2
      try simp only [Act.put, List.setIfInBounds_toArray, List.set_cons_zero, List.set_cons_succ]
      refine wpAnyH_take (i := 12) (v := .bool true) (at_list rfl) (by kernel_rfl) (by kernel_rfl) (by kernel_rfl) (fun _ _ _ h => h) (Or.inl ⟨by rfl, ?_⟩) hHeld ?_
      · intro v hSv
        clear hHeld
        clear hSv
        go_simp
      try simp only [Act.put, List.setIfInBounds_toArray, List.set_cons_zero, List.set_cons_succ]
      refine wpAnyH_take (i := 13) (v := .bool true) (at_list rfl) (by kernel_rfl) (by kernel_rfl) (by kernel_rfl) (fun _ _ _ h => h) (Or.inl ⟨by rfl, ?_⟩) hHeld ?_
      · intro v hSv
        clear hHeld
        go_simp
      try simp only [Act.put, List.setIfInBounds_toArray, List.set_cons_zero, List.set_cons_succ]
      refine wpAnyH_done (by kernel_rfl) ?_ _
      have HB := Lib.hid hHeld.1
      have K2 := Lib.hid hHeld.2.1
      have BA := Lib.hid hHeld.2.2.1
      have K4 := Lib.hid hHeld.2.2.2
      clear hHeld
      go_wp2_with (first | (refine big_fill rfl 32 _ _ rfl gK2 (hdA zeroH) rfl rfl K2.out (by kernel_rfl) (by kernel_rfl) (by kernel_rfl) ?_; intro vK29 nK2 htK2; replace K2 := Lib.hid nK2; replace HB := Lib.hid (btouch HB.out htK2 LK2.out); clear nK2 htK2) | (refine big_build rfl 32 _ rfl (hdA zeroH) (by kernel_rfl) ?_))
      refine bodyPost_ret (results_two rfl _ _ gK2 _ (hdA zeroH) (.int .i64 53) _ rfl rfl K2.out Tryd.underlying32 rfl (by kernel_rfl)) rfl ⟨?_, HB.out⟩
      exact HX.out.symm
    have HN53 : Hid (¬ (x ≠ m ∨ (L : Int) ≠ m)) := fun h => h.elim hx hl
    have dL : ((L : Int) != m) = false := by simpa using hl
    clear hx hl
    refine wp_region_held_drew (S := fun v => Below w.heap.size w v ∧ Holds v gK2 32 (hdA zeroH) ∧ BytesAt v a zs ∧ Holds v gK4 32 (hdA G)) (by kernel_rfl) ?_ (fun hHeld => ?_)
    · exact ⟨bdrew HB.out, (K2.out).drew, (BA.out).drew, (K4.out).drew⟩
    clear HB K2 BA K4
    refine wpAnyH_take (i := 0) (v := .slice (some a) L C) (at_list rfl) (by kernel_rfl) (by kernel_rfl) (by kernel_rfl) (fun _ _ _ h => h) (Or.inl ⟨by rfl, ?_⟩) hHeld ?_
    · intro v hSv
      clear hHeld
      go_simp
    try simp only [Act.put, List.setIfInBounds_toArray, List.set_cons_zero, List.set_cons_succ]
    refine wpAnyH_take (i := 2) (v := .pointer (some ⟨gK4, 0, none⟩)) (at_list rfl) (by kernel_rfl) (by kernel_rfl) (by kernel_rfl) (fun _ _ _ h => h) (Or.inl ⟨by rfl, ?_⟩) hHeld ?_
    · intro v hSv
      clear hHeld
      go_simp
    try simp only [Act.put, List.setIfInBounds_toArray, List.set_cons_zero, List.set_cons_succ]
    refine wpAnyH_take (i := 3) (v := .int .i64 G.t) (at_list rfl) (by kernel_rfl) (by kernel_rfl) (by kernel_rfl) (fun _ _ _ h => h) (Or.inl ⟨by rfl, ?_⟩) hHeld ?_
    · intro v hSv
      clear hHeld
      have q_ := Holds.reads hSv.2.2.2 (i := 0) (x := .int .i64 G.t) rfl
      clear hSv
      go_simp
    try simp only [Act.put, List.setIfInBounds_toArray, List.set_cons_zero, List.set_cons_succ]
    refine wpAnyH_ready (rs := [1]) (by kernel_rfl) (by simp) ?_
    refine AllReadyH.cons (at_list rfl) (fun K hK => ?_) AllReadyH.nil
    go_simp
    refine ((FF.out).cx _ hHeld.2.2.1).mono ?_
    rintro e v1 ⟨rfl, hv1⟩
    go_wp2_with fail
    refine hK.out _ _ ?_ (fun hHeld2 => ?_)
    · exact ⟨bstep hHeld.1 hv1, hHeld.2.1.keptB hv1, hHeld.2.2.1.keptB hv1, hHeld.2.2.2.keptB hv1⟩
    clear hK K hHeld
    have hHeld := hHeld2
    clear hHeld2 hv1
    try simp only [Act.put, List.setIfInBounds_toArray, List.set_cons_zero, List.set_cons_succ]
    refine wpAnyH_ready (rs := [4]) (by kernel_rfl) (by simp) ?_
    refine AllReadyH.cons (at_list rfl) (fun K hK => ?_) AllReadyH.nil
    go_simp
    refine ((FF.out).cl _).mono ?_
    rintro e vp ⟨rfl, rfl⟩
    go_wp2_with fail
    refine hK.out _ _ hHeld (fun hHeld2 => ?_)
    clear hK K hHeld
    have hHeld := hHeld2
    clear hHeld2
    try simp only [Act.put, List.setIfInBounds_toArray, List.set_cons_zero, List.set_cons_succ]
    refine wpAnyH_take (i := 5) (v := .bool false) (at_list rfl) (by kernel_rfl) (by kernel_rfl) (by kernel_rfl) (fun _ _ _ h => h) (Or.inl ⟨by rfl, ?_⟩) hHeld ?_
    · intro v hSv
      clear hHeld
      clear hSv
      go_simp
    try simp only [Act.put, List.setIfInBounds_toArray, List.set_cons_zero, List.set_cons_succ]
    refine wpAnyH_take (i := 6) (v := .bool false) (at_list rfl) (by kernel_rfl) (by kernel_rfl) (by kernel_rfl) (fun _ _ _ h => h) (Or.inl ⟨by rfl, ?_⟩) hHeld ?_
    · intro v hSv
      clear hHeld
      go_simp
    try simp only [Act.put, List.setIfInBounds_toArray, List.set_cons_zero, List.set_cons_succ]
    refine wpAnyH_take (i := 7) (v := .slice (some a) L C) (at_list rfl) (by kernel_rfl) (by kernel_rfl) (by kernel_rfl) (fun _ _ _ h => h) (Or.inl ⟨by rfl, ?_⟩) hHeld ?_
    · intro v hSv
      clear hHeld
      go_simp
    try simp only [Act.put, List.setIfInBounds_toArray, List.set_cons_zero, List.set_cons_succ]
    refine wpAnyH_take (i := 8) (v := .int .i64 L) (at_list rfl) (by kernel_rfl) (by kernel_rfl) (by kernel_rfl) (fun _ _ _ h => h) (Or.inl ⟨by rfl, ?_⟩) hHeld ?_
    · intro v hSv
      clear hHeld
      go_simp
    try simp only [Act.put, List.setIfInBounds_toArray, List.set_cons_zero, List.set_cons_succ]
    refine wpAnyH_take (i := 9) (v := .pointer (some ⟨gK4, 0, none⟩)) (at_list rfl) (by kernel_rfl) (by kernel_rfl) (by kernel_rfl) (fun _ _ _ h => h) (Or.inl ⟨by rfl, ?_⟩) hHeld ?_
    · intro v hSv
      clear hHeld
      go_simp
    try simp only [Act.put, List.setIfInBounds_toArray, List.set_cons_zero, List.set_cons_succ]
    refine wpAnyH_take (i := 10) (v := .int .i64 G.t) (at_list rfl) (by kernel_rfl) (by kernel_rfl) (by kernel_rfl) (fun _ _ _ h => h) (Or.inl ⟨by rfl, ?_⟩) hHeld ?_
    · intro v hSv
      clear hHeld
      have q_ := Holds.reads hSv.2.2.2 (i := 0) (x := .int .i64 G.t) rfl
      clear hSv
      go_simp
    try simp only [Act.put, List.setIfInBounds_toArray, List.set_cons_zero, List.set_cons_succ]
    refine wpAnyH_ready (rs := [11]) (by kernel_rfl) (by simp) ?_
    refine AllReadyH.cons (at_list rfl) (fun K hK => ?_) AllReadyH.nil
    go_simp
    refine ((FF.out).cl _).mono ?_
    rintro e vp ⟨rfl, rfl⟩
    go_wp2_with fail
    refine hK.out _ _ hHeld (fun hHeld2 => ?_)
    clear hK K hHeld
    have hHeld := hHeld2
    clear hHeld2
    try simp only [Act.put, List.setIfInBounds_toArray, List.set_cons_zero, List.set_cons_succ]
    refine wpAnyH_take (i := 12) (v := .bool false) (at_list rfl) (by kernel_rfl) (by kernel_rfl) (by kernel_rfl) (fun _ _ _ h => h) (Or.inl ⟨by rfl, ?_⟩) hHeld ?_
    · intro v hSv
      clear hHeld
      clear hSv
      go_simp
    try simp only [Act.put, List.setIfInBounds_toArray, List.set_cons_zero, List.set_cons_succ]
    refine wpAnyH_take (i := 13) (v := .bool false) (at_list rfl) (by kernel_rfl) (by kernel_rfl) (by kernel_rfl) (fun _ _ _ h => h) (Or.inl ⟨by rfl, ?_⟩) hHeld ?_
    · intro v hSv
      clear hHeld
      go_simp
    try simp only [Act.put, List.setIfInBounds_toArray, List.set_cons_zero, List.set_cons_succ]
    refine wpAnyH_done (by kernel_rfl) ?_ _
    have HB := Lib.hid hHeld.1
    have K2 := Lib.hid hHeld.2.1
    have BA := Lib.hid hHeld.2.2.1
    have K4 := Lib.hid hHeld.2.2.2
    clear hHeld
    go_upto_region 13 with fail
    by_cases hq : 15 < z0
    · have HX := Lib.hid (congrArg Ending.returned (show E = .tuple #[.agg (hdA zeroH), .int .i64 54] by rw [HE.out, if_neg HM.out, if_neg HN53.out, if_pos (.inl hq)]))
      have r0 : decide (15 < z0) = true := by simpa using hq
      clear hq
      have c0 := (FF.out).v0 _ BA.out
      go_upto_region 14 with fail
      clear c0
      go_wp2_with (first | (refine big_fill rfl 32 _ _ rfl gK2 (hdA zeroH) rfl rfl K2.out (by kernel_rfl) (by kernel_rfl) (by kernel_rfl) ?_; intro vK29 nK2 htK2; replace K2 := Lib.hid nK2; replace HB := Lib.hid (btouch HB.out htK2 LK2.out); clear nK2 htK2) | (refine big_build rfl 32 _ rfl (hdA zeroH) (by kernel_rfl) ?_))
      refine bodyPost_ret (results_two rfl _ _ gK2 _ (hdA zeroH) (.int .i64 54) _ rfl rfl K2.out Tryd.underlying32 rfl (by kernel_rfl)) rfl ⟨?_, HB.out⟩
      exact HX.out.symm
    have r0 : decide (15 < z0) = false := by simpa using hq
    have N0 := Lib.hid hq
    clear hq
    by_cases hq : z5 ≠ 0
    · have HX := Lib.hid (congrArg Ending.returned (show E = .tuple #[.agg (hdA zeroH), .int .i64 54] by rw [HE.out, if_neg HM.out, if_neg HN53.out, if_pos (.inr (.inl hq))]))
      have r1 : (z5 != 0) = true := by simpa using hq
      clear hq
      have c0 := (FF.out).v0 _ BA.out
      have c5 := (FF.out).v5 _ BA.out
      go_upto_region 14 with fail
      clear c0 c5
      go_wp2_with (first | (refine big_fill rfl 32 _ _ rfl gK2 (hdA zeroH) rfl rfl K2.out (by kernel_rfl) (by kernel_rfl) (by kernel_rfl) ?_; intro vK29 nK2 htK2; replace K2 := Lib.hid nK2; replace HB := Lib.hid (btouch HB.out htK2 LK2.out); clear nK2 htK2) | (refine big_build rfl 32 _ rfl (hdA zeroH) (by kernel_rfl) ?_))
      refine bodyPost_ret (results_two rfl _ _ gK2 _ (hdA zeroH) (.int .i64 54) _ rfl rfl K2.out Tryd.underlying32 rfl (by kernel_rfl)) rfl ⟨?_, HB.out⟩
      exact HX.out.symm
    have r1 : (z5 != 0) = false := by simpa using hq
    have N1 := Lib.hid hq
    clear hq
    by_cases hq : z16 ≠ 0
    · have HX := Lib.hid (congrArg Ending.returned (show E = .tuple #[.agg (hdA zeroH), .int .i64 54] by rw [HE.out, if_neg HM.out, if_neg HN53.out, if_pos (.inr (.inr (.inl hq)))]))
      have r2 : (z16 != 0) = true := by simpa using hq
      clear hq
      have c0 := (FF.out).v0 _ BA.out
      have c5 := (FF.out).v5 _ BA.out
      have c16 := (FF.out).v16 _ BA.out
      go_upto_region 14 with fail
      clear c0 c5 c16
      go_wp2_with (first | (refine big_fill rfl 32 _ _ rfl gK2 (hdA zeroH) rfl rfl K2.out (by kernel_rfl) (by kernel_rfl) (by kernel_rfl) ?_; intro vK29 nK2 htK2; replace K2 := Lib.hid nK2; replace HB := Lib.hid (btouch HB.out htK2 LK2.out); clear nK2 htK2) | (refine big_build rfl 32 _ rfl (hdA zeroH) (by kernel_rfl) ?_))
      refine bodyPost_ret (results_two rfl _ _ gK2 _ (hdA zeroH) (.int .i64 54) _ rfl rfl K2.out Tryd.underlying32 rfl (by kernel_rfl)) rfl ⟨?_, HB.out⟩
      exact HX.out.symm
    have r2 : (z16 != 0) = false := by simpa using hq
    have N2 := Lib.hid hq
    clear hq
    by_cases hq : z17 ≠ 0
    · have HX := Lib.hid (congrArg Ending.returned (show E = .tuple #[.agg (hdA zeroH), .int .i64 54] by rw [HE.out, if_neg HM.out, if_neg HN53.out, if_pos (.inr (.inr (.inr (.inl hq))))]))
      have r3 : (z17 != 0) = true := by simpa using hq
      clear hq
      have c0 := (FF.out).v0 _ BA.out
      have c5 := (FF.out).v5 _ BA.out
      have c16 := (FF.out).v16 _ BA.out
      have c17 := (FF.out).v17 _ BA.out
      go_upto_region 14 with fail
      clear c0 c5 c16 c17
      go_wp2_with (first | (refine big_fill rfl 32 _ _ rfl gK2 (hdA zeroH) rfl rfl K2.out (by kernel_rfl) (by kernel_rfl) (by kernel_rfl) ?_; intro vK29 nK2 htK2; replace K2 := Lib.hid nK2; replace HB := Lib.hid (btouch HB.out htK2 LK2.out); clear nK2 htK2) | (refine big_build rfl 32 _ rfl (hdA zeroH) (by kernel_rfl) ?_))
      refine bodyPost_ret (results_two rfl _ _ gK2 _ (hdA zeroH) (.int .i64 54) _ rfl rfl K2.out Tryd.underlying32 rfl (by kernel_rfl)) rfl ⟨?_, HB.out⟩
      exact HX.out.symm
    have r3 : (z17 != 0) = false := by simpa using hq
    have N3 := Lib.hid hq
    clear hq
    by_cases hq : z18 ≠ 0
    · have HX := Lib.hid (congrArg Ending.returned (show E = .tuple #[.agg (hdA zeroH), .int .i64 54] by rw [HE.out, if_neg HM.out, if_neg HN53.out, if_pos (.inr (.inr (.inr (.inr (.inl hq)))))]))
      have r4 : (z18 != 0) = true := by simpa using hq
      clear hq
      have c0 := (FF.out).v0 _ BA.out
      have c5 := (FF.out).v5 _ BA.out
      have c16 := (FF.out).v16 _ BA.out
      have c17 := (FF.out).v17 _ BA.out
      have c18 := (FF.out).v18 _ BA.out
      go_upto_region 14 with fail
      clear c0 c5 c16 c17 c18
      go_wp2_with (first | (refine big_fill rfl 32 _ _ rfl gK2 (hdA zeroH) rfl rfl K2.out (by kernel_rfl) (by kernel_rfl) (by kernel_rfl) ?_; intro vK29 nK2 htK2; replace K2 := Lib.hid nK2; replace HB := Lib.hid (btouch HB.out htK2 LK2.out); clear nK2 htK2) | (refine big_build rfl 32 _ rfl (hdA zeroH) (by kernel_rfl) ?_))
      refine bodyPost_ret (results_two rfl _ _ gK2 _ (hdA zeroH) (.int .i64 54) _ rfl rfl K2.out Tryd.underlying32 rfl (by kernel_rfl)) rfl ⟨?_, HB.out⟩
      exact HX.out.symm
    have r4 : (z18 != 0) = false := by simpa using hq
    have N4 := Lib.hid hq
    clear hq
    by_cases hq : z19 ≠ 0
    · have HX := Lib.hid (congrArg Ending.returned (show E = .tuple #[.agg (hdA zeroH), .int .i64 54] by rw [HE.out, if_neg HM.out, if_neg HN53.out, if_pos (.inr (.inr (.inr (.inr (.inr (.inl hq))))))]))
      have r5 : (z19 != 0) = true := by simpa using hq
      clear hq
      have c0 := (FF.out).v0 _ BA.out
      have c5 := (FF.out).v5 _ BA.out
      have c16 := (FF.out).v16 _ BA.out
      have c17 := (FF.out).v17 _ BA.out
      have c18 := (FF.out).v18 _ BA.out
      have c19 := (FF.out).v19 _ BA.out
      go_upto_region 14 with fail
      clear c0 c5 c16 c17 c18 c19
      go_wp2_with (first | (refine big_fill rfl 32 _ _ rfl gK2 (hdA zeroH) rfl rfl K2.out (by kernel_rfl) (by kernel_rfl) (by kernel_rfl) ?_; intro vK29 nK2 htK2; replace K2 := Lib.hid nK2; replace HB := Lib.hid (btouch HB.out htK2 LK2.out); clear nK2 htK2) | (refine big_build rfl 32 _ rfl (hdA zeroH) (by kernel_rfl) ?_))
      refine bodyPost_ret (results_two rfl _ _ gK2 _ (hdA zeroH) (.int .i64 54) _ rfl rfl K2.out Tryd.underlying32 rfl (by kernel_rfl)) rfl ⟨?_, HB.out⟩
      exact HX.out.symm
    have r5 : (z19 != 0) = false := by simpa using hq
    have N5 := Lib.hid hq
    clear hq
    by_cases hq : z32 ≠ 0
    · have HX := Lib.hid (congrArg Ending.returned (show E = .tuple #[.agg (hdA zeroH), .int .i64 54] by rw [HE.out, if_neg HM.out, if_neg HN53.out, if_pos (.inr (.inr (.inr (.inr (.inr (.inr (hq)))))))]))
      have r6 : (z32 != 0) = true := by simpa using hq
      clear hq
      have c0 := (FF.out).v0 _ BA.out
      have c5 := (FF.out).v5 _ BA.out
      have c16 := (FF.out).v16 _ BA.out
      have c17 := (FF.out).v17 _ BA.out
      have c18 := (FF.out).v18 _ BA.out
      have c19 := (FF.out).v19 _ BA.out
      have c32 := (FF.out).v32 _ BA.out
      go_upto_region 14 with fail
      clear c0 c5 c16 c17 c18 c19 c32
      go_wp2_with (first | (refine big_fill rfl 32 _ _ rfl gK2 (hdA zeroH) rfl rfl K2.out (by kernel_rfl) (by kernel_rfl) (by kernel_rfl) ?_; intro vK29 nK2 htK2; replace K2 := Lib.hid nK2; replace HB := Lib.hid (btouch HB.out htK2 LK2.out); clear nK2 htK2) | (refine big_build rfl 32 _ rfl (hdA zeroH) (by kernel_rfl) ?_))
      refine bodyPost_ret (results_two rfl _ _ gK2 _ (hdA zeroH) (.int .i64 54) _ rfl rfl K2.out Tryd.underlying32 rfl (by kernel_rfl)) rfl ⟨?_, HB.out⟩
      exact HX.out.symm
    have r6 : (z32 != 0) = false := by simpa using hq
    have N6 := Lib.hid hq
    clear hq
    have HNAM : Hid (¬ (15 < z0 ∨ z5 ≠ 0 ∨ z16 ≠ 0 ∨ z17 ≠ 0 ∨ z18 ≠ 0 ∨ z19 ≠ 0 ∨ z32 ≠ 0)) := fun h => h.elim N0.out (fun h => h.elim N1.out (fun h => h.elim N2.out (fun h => h.elim N3.out (fun h => h.elim N4.out (fun h => h.elim N5.out N6.out)))))
    have c0 := (FF.out).v0 _ BA.out
    have c5 := (FF.out).v5 _ BA.out
    have c16 := (FF.out).v16 _ BA.out
    have c17 := (FF.out).v17 _ BA.out
    have c18 := (FF.out).v18 _ BA.out
    have c19 := (FF.out).v19 _ BA.out
    have c32 := (FF.out).v32 _ BA.out
    go_upto_region 15 with fail
    clear c0 c5 c16 c17 c18 c19 c32 r0 r1 r2 r3 r4 r5 r6 N0 N1 N2 N3 N4 N5 N6
    have y0 := (K4.out).reads (i := 0) (x := .int .i64 G.t) rfl
    have y2 := (K4.out).reads (i := 2) (x := .int .i64 G.f) rfl
    go_wp2_with fail
    clear y0 y2
    refine (rflags_any G.t G.f _).mono ?_
    rintro e w8 ⟨rfl, rfl⟩
    cases fb : flagB G.t G.f
    · have HX := Lib.hid (congrArg Ending.returned (show E = .tuple #[.agg (hdA zeroH), .int .i64 55] by rw [HE.out, if_neg HM.out, if_neg HN53.out, if_neg HNAM.out, if_pos fb]))
      clear fb
      go_wp2_with (first | (refine big_fill rfl 32 _ _ rfl gK2 (hdA zeroH) rfl rfl K2.out (by kernel_rfl) (by kernel_rfl) (by kernel_rfl) ?_; intro vK29 nK2 htK2; replace K2 := Lib.hid nK2; replace HB := Lib.hid (btouch HB.out htK2 LK2.out); clear nK2 htK2) | (refine big_build rfl 32 _ rfl (hdA zeroH) (by kernel_rfl) ?_))
      refine bodyPost_ret (results_two rfl _ _ gK2 _ (hdA zeroH) (.int .i64 55) _ rfl rfl K2.out Tryd.underlying32 rfl (by kernel_rfl)) rfl ⟨?_, HB.out⟩
      exact HX.out.symm
    have HFB : Hid (¬ flagB G.t G.f = false) := by rw [Hid, fb]; simp
    clear fb
    go_upto_region 17 with fail
    have y12 := (K4.out).reads (i := 12) (x := .int .i64 G.p.n) rfl
    by_cases hp : G.p.n = 0
    · have HX := Lib.hid (congrArg Ending.returned (show E = .tuple #[.agg (hdA zeroH), .int .i64 56] by rw [HE.out, if_neg HM.out, if_neg HN53.out, if_neg HNAM.out, if_neg HFB.out, if_pos (.inl hp)]))
      have u0 : (G.p.n == 0) = true := by simp [hp]
      clear hp
      go_upto_region 18 with fail
      clear y12
      go_wp2_with (first | (refine big_fill rfl 32 _ _ rfl gK2 (hdA zeroH) rfl rfl K2.out (by kernel_rfl) (by kernel_rfl) (by kernel_rfl) ?_; intro vK29 nK2 htK2; replace K2 := Lib.hid nK2; replace HB := Lib.hid (btouch HB.out htK2 LK2.out); clear nK2 htK2) | (refine big_build rfl 32 _ rfl (hdA zeroH) (by kernel_rfl) ?_))
      refine bodyPost_ret (results_two rfl _ _ gK2 _ (hdA zeroH) (.int .i64 56) _ rfl rfl K2.out Tryd.underlying32 rfl (by kernel_rfl)) rfl ⟨?_, HB.out⟩
      exact HX.out.symm
    have u0 : (G.p.n == 0) = false := by simp [hp]
    by_cases hp1 : G.p.n = 65535
    · have HX := Lib.hid (congrArg Ending.returned (show E = .tuple #[.agg (hdA zeroH), .int .i64 56] by rw [HE.out, if_neg HM.out, if_neg HN53.out, if_neg HNAM.out, if_neg HFB.out, if_pos (.inr hp1)]))
      have u1 : (G.p.n == 65535) = true := by simp [hp1]
      clear hp hp1
      go_upto_region 18 with fail
      clear y12
      go_wp2_with (first | (refine big_fill rfl 32 _ _ rfl gK2 (hdA zeroH) rfl rfl K2.out (by kernel_rfl) (by kernel_rfl) (by kernel_rfl) ?_; intro vK29 nK2 htK2; replace K2 := Lib.hid nK2; replace HB := Lib.hid (btouch HB.out htK2 LK2.out); clear nK2 htK2) | (refine big_build rfl 32 _ rfl (hdA zeroH) (by kernel_rfl) ?_))
      refine bodyPost_ret (results_two rfl _ _ gK2 _ (hdA zeroH) (.int .i64 56) _ rfl rfl K2.out Tryd.underlying32 rfl (by kernel_rfl)) rfl ⟨?_, HB.out⟩
      exact HX.out.symm
    have HX := Lib.hid (congrArg Ending.returned (show E = .tuple #[.agg (hdA G), .int .i64 0] by rw [HE.out, if_neg HM.out, if_neg HN53.out, if_neg HNAM.out, if_neg HFB.out, if_neg (fun h => h.elim hp hp1)]))
    have u1 : (G.p.n == 65535) = false := by simp [hp1]
    clear hp hp1
    go_upto_region 19 with fail
    clear y12
    go_wp2_with (first | (refine big_fill rfl 32 _ _ rfl gK2 (hdA G) rfl rfl K2.out (by kernel_rfl) (by kernel_rfl) (by kernel_rfl) ?_; intro vK29 nK2 htK2; replace K2 := Lib.hid nK2; replace HB := Lib.hid (btouch HB.out htK2 LK2.out); clear nK2 htK2) | (refine big_whole rfl 32 _ rfl gK4 rfl K4.out Tryd.underlying32 rfl (by kernel_rfl) ?_))
    refine bodyPost_ret (results_two rfl _ _ gK2 _ (hdA G) (.int .i64 0) _ rfl rfl K2.out Tryd.underlying32 rfl (by kernel_rfl)) rfl ⟨?_, HB.out⟩
    exact HX.out.symm
set_option maxHeartbeats 4000000 in
theorem rd_51 (a : Addr) (L C : Nat) (zs : List Int) (G : Hd) (m x : Int) (z0 z1 z4 z5 z16 z17 z18 z19 z32 z33 : Int) (w : World) (F : RDF a L C zs G m x z0 z1 z4 z5 z16 z17 z18 z19 z32 z33) (hc : BytesAt w a zs) (h2 : z1 ≠ 2) :
    Calls Tryd.prog 7 #[.slice (some a) L C] w fun e w' => e = .returned (.tuple #[.agg (hdA zeroH), .int .i64 51]) ∧ Below w.heap.size w w' := by
  have HB := Lib.hid (Below.refl w.heap.size w)
  have d1 : (z1 != 2) = true := by simp [h2]
  clear h2
  have BA := Lib.hid hc
  have FF := Lib.hid F
  have k1 := F.l34
  have k2 := F.lc
  have k3 := F.cm
  have k4 := F.b0
  have k5 := F.b4
  have k6 := F.b33
  unfold maxLen at k3
  have hLs : decide ((L : Int) < 34) = false := decide_eq_false (by omega)
  clear F hc
  go_enter Tryd.func7, Tryd.ntmps7
  go_wp2_with (first | (refine big_fill rfl 32 _ _ rfl gK2 (hdA zeroH) rfl rfl K2.out (by kernel_rfl) (by kernel_rfl) (by kernel_rfl) ?_; intro vK20 nK2 htK2; replace K2 := Lib.hid nK2; replace HB := Lib.hid (btouch HB.out htK2 LK2.out); clear nK2 htK2) | (refine big_build rfl 32 _ rfl (hdA zeroH) (by kernel_rfl) ?_) | (refine big_alloc rfl 32 rfl (hdA zeroH) (by kernel_rfl) ?_; intro gK2 wK2 hlK2 nK2 hbK2; have K2 := Lib.hid nK2; have LK2 := Lib.hid (Nat.le_trans (HB.out).size hlK2); replace BA := Lib.hid ((BA.out).keptB hbK2); replace HB := Lib.hid (bstep HB.out hbK2); clear hlK2 nK2 hbK2; have e1 := (FF.out).v1 _ BA.out))
  refine bodyPost_ret (results_two rfl _ _ gK2 _ (hdA zeroH) (.int .i64 51) _ rfl rfl K2.out Tryd.underlying32 rfl (by kernel_rfl)) rfl ⟨?_, HB.out⟩
  rfl

end Go.Proofs.YtifhjmhekapaoaaDoor

/- The walk over the reference's head Decode, where its last byte is not above 127. -/
namespace Go.Proofs.YtifhjmhekapaoaaDoor
set_option maxRecDepth 100000
open Go.RowKit
set_option linter.unusedVariables false

set_option maxHeartbeats 16000000 in
theorem rd_lo (a : Addr) (L C : Nat) (zs : List Int) (G : Hd) (m x : Int) (z0 z1 z4 z5 z16 z17 z18 z19 z32 z33 : Int) (w : World) (E : Value) (hE : E = if m = 0 then .tuple #[.agg (hdA zeroH), .int .i64 52] else if x ≠ m ∨ (L : Int) ≠ m then .tuple #[.agg (hdA zeroH), .int .i64 53] else if 15 < z0 ∨ z5 ≠ 0 ∨ z16 ≠ 0 ∨ z17 ≠ 0 ∨ z18 ≠ 0 ∨ z19 ≠ 0 ∨ z32 ≠ 0 then .tuple #[.agg (hdA zeroH), .int .i64 54] else if flagB G.t G.f = false then .tuple #[.agg (hdA zeroH), .int .i64 55] else if G.p.n = 0 ∨ G.p.n = 65535 then .tuple #[.agg (hdA zeroH), .int .i64 56] else .tuple #[.agg (hdA G), .int .i64 0]) (F : RDF a L C zs G m x z0 z1 z4 z5 z16 z17 z18 z19 z32 z33) (hc : BytesAt w a zs) (h2 : z1 = 2) (hh : ¬ 127 < z33) :
    Calls Tryd.prog 7 #[.slice (some a) L C] w fun e w' => e = .returned E ∧ Below w.heap.size w w' := by
  have HB := Lib.hid (Below.refl w.heap.size w)
  have HE := Lib.hid hE
  clear hE
  have d1 : (z1 != 2) = false := by simp [h2]
  clear h2
  have BA := Lib.hid hc
  have FF := Lib.hid F
  have k1 := F.l34
  have k2 := F.lc
  have k3 := F.cm
  have k4 := F.b0
  have k5 := F.b4
  have k6 := F.b33
  unfold maxLen at k3
  have hLs : decide ((L : Int) < 34) = false := decide_eq_false (by omega)
  clear F hc
  go_enter Tryd.func7, Tryd.ntmps7
  go_upto_region 5 with (refine big_alloc rfl 32 rfl (hdA zeroH) (by kernel_rfl) ?_; intro gK2 wK2 hlK2 nK2 hbK2; have K2 := Lib.hid nK2; have LK2 := Lib.hid (Nat.le_trans (HB.out).size hlK2); replace BA := Lib.hid ((BA.out).keptB hbK2); replace HB := Lib.hid (bstep HB.out hbK2); clear hlK2 nK2 hbK2; have e1 := (FF.out).v1 _ BA.out)
  clear e1
  go_cut [4, 14, 15, 16, 17, 18, 19, 20, 21, 22, 23, 24, 25, 26, 27, 28, 29, 30, 31, 32, 33, 34] (fun s4 s14 s15 s16 s17 s18 s19 s20 s21 s22 s23 s24 s25 s26 s27 s28 s29 s30 s31 s32 s33 s34 wx => RDCut a L C zs G z0 z4 z33 w gK2 s4 s14 s15 s16 s17 s18 s19 s20 s21 s22 s23 s24 s25 s26 s27 s28 s29 s30 s31 s32 s33 s34 wx)
  case first =>
    refine wp_region_noPanic ?_
    refine wp_region_held_drew (S := fun v => Below w.heap.size w v ∧ Holds v gK2 32 (hdA zeroH) ∧ BytesAt v a zs) (by kernel_rfl) ?_ (fun hHeld => ?_)
    · exact ⟨bdrew HB.out, (K2.out).drew, (BA.out).drew⟩
    clear HB K2 BA
    refine wpAnyH_take (i := 0) (v := .slice (some a) L C) (at_list rfl) (by kernel_rfl) (by kernel_rfl) (by kernel_rfl) (fun _ _ _ h => h) (Or.inl ⟨by rfl, ?_⟩) hHeld ?_
    · intro v hSv
      clear hHeld
      go_simp
    try simp only [Act.put, List.setIfInBounds_toArray, List.set_cons_zero, List.set_cons_succ]
    refine wpAnyH_take (i := 1) (v := .pointer (some a)) (at_list rfl) (by kernel_rfl) (by kernel_rfl) (by kernel_rfl) (fun _ _ _ h => h) (Or.inl ⟨by rfl, ?_⟩) hHeld ?_
    · intro v hSv
      clear hHeld
      clear hSv
      go_simp
      intro h
      exfalso
      omega
    try simp only [Act.put, List.setIfInBounds_toArray, List.set_cons_zero, List.set_cons_succ]
    refine wpAnyH_take (i := 2) (v := .int .u8 z0) (at_list rfl) (by kernel_rfl) (by kernel_rfl) (by kernel_rfl) (fun _ _ _ h => h) (Or.inl ⟨by rfl, ?_⟩) hHeld ?_
    · intro v hSv
      clear hHeld
      have c0 := (FF.out).v0 v hSv.2.2
      clear hSv
      go_simp
    try simp only [Act.put, List.setIfInBounds_toArray, List.set_cons_zero, List.set_cons_succ]
    refine wpAnyH_take (i := 3) (v := .int .i64 z0) (at_list rfl) (by kernel_rfl) (by kernel_rfl) (by kernel_rfl) (fun _ _ _ h => h) (Or.inl ⟨by rfl, ?_⟩) hHeld ?_
    · intro v hSv
      clear hHeld
      clear hSv
      go_simp
      rw [IntKind.wrap_i64]
      omega
    try simp only [Act.put, List.setIfInBounds_toArray, List.set_cons_zero, List.set_cons_succ]
    refine wpAnyH_take (i := 4) (v := .int .i64 G.t) (at_list rfl) (by kernel_rfl) (by kernel_rfl) (by kernel_rfl) (fun _ _ _ h => h) (Or.inl ⟨by rfl, ?_⟩) hHeld ?_
    · intro v hSv
      clear hHeld
      clear hSv
      have hgt := (FF.out).gt
      go_simp
      rw [Int.tmod_eq_emod_of_nonneg (by omega)]
    try simp only [Act.put, List.setIfInBounds_toArray, List.set_cons_zero, List.set_cons_succ]
    refine wpAnyH_take (i := 5) (v := .slice (some a) L C) (at_list rfl) (by kernel_rfl) (by kernel_rfl) (by kernel_rfl) (fun _ _ _ h => h) (Or.inl ⟨by rfl, ?_⟩) hHeld ?_
    · intro v hSv
      clear hHeld
      go_simp
    try simp only [Act.put, List.setIfInBounds_toArray, List.set_cons_zero, List.set_cons_succ]
    refine wpAnyH_take (i := 6) (v := .pointer (some ⟨a.block, a.off + 4, none⟩)) (at_list rfl) (by kernel_rfl) (by kernel_rfl) (by kernel_rfl) (fun _ _ _ h => h) (Or.inl ⟨by rfl, ?_⟩) hHeld ?_
    · intro v hSv
      clear hHeld
      clear hSv
      go_simp
      intro h
      exfalso
      omega
    try simp only [Act.put, List.setIfInBounds_toArray, List.set_cons_zero, List.set_cons_succ]
    refine wpAnyH_take (i := 7) (v := .int .u8 z4) (at_list rfl) (by kernel_rfl) (by kernel_rfl) (by kernel_rfl) (fun _ _ _ h => h) (Or.inl ⟨by rfl, ?_⟩) hHeld ?_
    · intro v hSv
      clear hHeld
      have c4 := (FF.out).v4 v hSv.2.2
      clear hSv
      go_simp
    try simp only [Act.put, List.setIfInBounds_toArray, List.set_cons_zero, List.set_cons_succ]
    refine wpAnyH_take (i := 8) (v := .int .i64 G.d) (at_list rfl) (by kernel_rfl) (by kernel_rfl) (by kernel_rfl) (fun _ _ _ h => h) (Or.inl ⟨by rfl, ?_⟩) hHeld ?_
    · intro v hSv
      clear hHeld
      clear hSv
      have hgd := (FF.out).gd
      go_simp
      rw [IntKind.wrap_i64]
      omega
    try simp only [Act.put, List.setIfInBounds_toArray, List.set_cons_zero, List.set_cons_succ]
    refine wpAnyH_take (i := 9) (v := .slice (some a) L C) (at_list rfl) (by kernel_rfl) (by kernel_rfl) (by kernel_rfl) (fun _ _ _ h => h) (Or.inl ⟨by rfl, ?_⟩) hHeld ?_
    · intro v hSv
      clear hHeld
      go_simp
    try simp only [Act.put, List.setIfInBounds_toArray, List.set_cons_zero, List.set_cons_succ]
    refine wpAnyH_take (i := 11) (v := .slice (some a) L C) (at_list rfl) (by kernel_rfl) (by kernel_rfl) (by kernel_rfl) (fun _ _ _ h => h) (Or.inl ⟨by rfl, ?_⟩) hHeld ?_
    · intro v hSv
      clear hHeld
      go_simp
    try simp only [Act.put, List.setIfInBounds_toArray, List.set_cons_zero, List.set_cons_succ]
    refine wpAnyH_take (i := 12) (v := .slice (some ⟨a.block, a.off + 8, none⟩) 8 (C - 8)) (at_list rfl) (by kernel_rfl) (by kernel_rfl) (by kernel_rfl) (fun _ _ _ h => h) (Or.inl ⟨by rfl, ?_⟩) hHeld ?_
    · intro v hSv
      clear hHeld
      clear hSv
      have hsl := (FF.out).s8 v
      go_simp
    try simp only [Act.put, List.setIfInBounds_toArray, List.set_cons_zero, List.set_cons_succ]
    refine wpAnyH_take (i := 14) (v := .slice (some a) L C) (at_list rfl) (by kernel_rfl) (by kernel_rfl) (by kernel_rfl) (fun _ _ _ h => h) (Or.inl ⟨by rfl, ?_⟩) hHeld ?_
    · intro v hSv
      clear hHeld
      go_simp
    try simp only [Act.put, List.setIfInBounds_toArray, List.set_cons_zero, List.set_cons_succ]
    refine wpAnyH_take (i := 16) (v := .slice (some a) L C) (at_list rfl) (by kernel_rfl) (by kernel_rfl) (by kernel_rfl) (fun _ _ _ h => h) (Or.inl ⟨by rfl, ?_⟩) hHeld ?_
    · intro v hSv
      clear hHeld
      go_simp
    try simp only [Act.put, List.setIfInBounds_toArray, List.set_cons_zero, List.set_cons_succ]
    refine wpAnyH_take (i := 17) (v := .pointer (some ⟨a.block, a.off + 33, none⟩)) (at_list rfl) (by kernel_rfl) (by kernel_rfl) (by kernel_rfl) (fun _ _ _ h => h) (Or.inl ⟨by rfl, ?_⟩) hHeld ?_
    · intro v hSv
      clear hHeld
      clear hSv
      go_simp
      intro h
      exfalso
      omega
    try simp only [Act.put, List.setIfInBounds_toArray, List.set_cons_zero, List.set_cons_succ]
    refine wpAnyH_take (i := 18) (v := .int .u8 z33) (at_list rfl) (by kernel_rfl) (by kernel_rfl) (by kernel_rfl) (fun _ _ _ h => h) (Or.inl ⟨by rfl, ?_⟩) hHeld ?_
    · intro v hSv
      clear hHeld
      have c33 := (FF.out).v33 v hSv.2.2
      clear hSv
      go_simp
    try simp only [Act.put, List.setIfInBounds_toArray, List.set_cons_zero, List.set_cons_succ]
    refine wpAnyH_take (i := 19) (v := .int .i64 z33) (at_list rfl) (by kernel_rfl) (by kernel_rfl) (by kernel_rfl) (fun _ _ _ h => h) (Or.inl ⟨by rfl, ?_⟩) hHeld ?_
    · intro v hSv
      clear hHeld
      clear hSv
      go_simp
      rw [IntKind.wrap_i64]
      omega
    try simp only [Act.put, List.setIfInBounds_toArray, List.set_cons_zero, List.set_cons_succ]
    refine wpAnyH_ready (rs := [10, 21]) (by kernel_rfl) (by simp) ?_
    refine AllReadyH.cons (at_list rfl) (fun K hK => ?_) (AllReadyH.cons (at_list rfl) (fun K hK => ?_) (AllReadyH.nil))
    · go_simp
      refine ((FF.out).cv _ hHeld.2.2).mono ?_
      rintro e y1 ⟨rfl, hy1⟩
      go_wp2_with fail
      refine hK.out _ _ ?_ (fun hHeld2 => ?_)
      · exact ⟨bstep hHeld.1 hy1, hHeld.2.1.keptB hy1, hHeld.2.2.keptB hy1⟩
      clear hK K hHeld
      have hHeld := hHeld2
      clear hHeld2 hy1
      try simp only [Act.put, List.setIfInBounds_toArray, List.set_cons_zero, List.set_cons_succ]
      refine wpAnyH_ready (rs := [13, 21]) (by kernel_rfl) (by simp) ?_
      refine AllReadyH.cons (at_list rfl) (fun K hK => ?_) (AllReadyH.cons (at_list rfl) (fun K hK => ?_) (AllReadyH.nil))
      · go_simp
        refine ((FF.out).cs _ hHeld.2.2).mono ?_
        rintro e y2 ⟨rfl, hy2⟩
        go_wp2_with fail
        refine hK.out _ _ ?_ (fun hHeld2 => ?_)
        · exact ⟨bstep hHeld.1 hy2, hHeld.2.1.keptB hy2, hHeld.2.2.keptB hy2⟩
        clear hK K hHeld
        have hHeld := hHeld2
        clear hHeld2 hy2
        try simp only [Act.put, List.setIfInBounds_toArray, List.set_cons_zero, List.set_cons_succ]
        refine wpAnyH_ready (rs := [15, 21]) (by kernel_rfl) (by simp) ?_
        refine AllReadyH.cons (at_list rfl) (fun K hK => ?_) (AllReadyH.cons (at_list rfl) (fun K hK => ?_) (AllReadyH.nil))
        · go_simp
          refine ((FF.out).cw _ hHeld.2.2).mono ?_
          rintro e y3 ⟨rfl, hy3⟩
          go_wp2_with fail
          refine hK.out _ _ ?_ (fun hHeld2 => ?_)
          · exact ⟨bstep hHeld.1 hy3, hHeld.2.1.keptB hy3, hHeld.2.2.keptB hy3⟩
          clear hK K hHeld
          have hHeld := hHeld2
          clear hHeld2 hy3
          try simp only [Act.put, List.setIfInBounds_toArray, List.set_cons_zero, List.set_cons_succ]
          refine wpAnyH_take (i := 20) (v := .agg (hdA ⟨G.t, G.d, G.f, G.c, zeroP, G.s, z33⟩)) (at_list rfl) (by kernel_rfl) (by kernel_rfl) (by kernel_rfl) (fun _ _ _ h => h) (yields_buildH (by rfl) 32 _ rfl (hdA ⟨G.t, G.d, G.f, G.c, zeroP, G.s, z33⟩) (by kernel_rfl)) hHeld ?_
          try simp only [Act.put, List.setIfInBounds_toArray, List.set_cons_zero, List.set_cons_succ]
          refine wpAnyH_ready (rs := [21]) (by kernel_rfl) (by simp) ?_
          refine AllReadyH.cons (at_list rfl) (fun K hK => ?_) (AllReadyH.nil)
          refine step_alloc (by rfl) 32 rfl (hdA zeroH) (by kernel_rfl) ?_
          intro g4 y4 hl4 n4 hy4
          have K4 := Lib.hid n4
          have L4 := Lib.hid (show w.heap.size ≤ g4 from Nat.le_trans hHeld.1.size hl4)
          have N24 := Lib.hid (show gK2 ≠ g4 by have := hHeld.2.1.inside; omega)
          have NA4 := Lib.hid (show a.block ≠ g4 by have := hHeld.2.2.inside (by rw [(FF.out).len]; omega); omega)
          refine hK.out _ _ ?_ (fun hHeld2 => ?_)
          · exact ⟨bstep hHeld.1 hy4, hHeld.2.1.keptB hy4, hHeld.2.2.keptB hy4⟩
          clear hK K hHeld
          have hHeld := hHeld2
          clear hHeld2
          try simp only [Act.put]
          try simp only [List.setIfInBounds_toArray, List.set_cons_zero, List.set_cons_succ]
          clear hl4 n4 hy4
          refine wpAnyH_ready (rs := [22]) (by kernel_rfl) (by simp) ?_
          refine AllReadyH.cons (at_list rfl) (fun K hK => ?_) (AllReadyH.nil)
          refine step_store (by rfl) 32 _ _ rfl g4 0 (hdA ⟨G.t, G.d, G.f, G.c, zeroP, G.s, z33⟩).toList rfl rfl K4.out (by kernel_rfl) (by kernel_rfl) (of_decide_eq_true (by kernel_rfl)) (hdA ⟨G.t, G.d, G.f, G.c, zeroP, G.s, z33⟩) (by kernel_rfl) ?_
          intro y5 n4 hy5
          replace K4 := Lib.hid n4
          refine hK.out _ _ ?_ (fun hHeld2 => ?_)
          · exact ⟨btouch hHeld.1 hy5 L4.out, hHeld.2.1.touch hy5 N24.out, hHeld.2.2.touch hy5 NA4.out⟩
          clear hK K hHeld
          have hHeld := hHeld2
          clear hHeld2
          try simp only [Act.put]
          clear n4 hy5
          refine wpAnyH_done (by kernel_rfl) ?_ _
          refine NoPanic.normal ?_
          go_wp2_with fail
          go_meet
          exact ⟨g4, rfl, rfl, rfl, rfl, rfl, rfl, rfl, rfl, rfl, rfl, rfl, rfl, rfl, rfl, rfl, rfl, rfl, rfl, rfl, rfl, rfl, rfl, hHeld.1, hHeld.2.2, hHeld.2.1, K4.out, N24.out, L4.out, NA4.out⟩
        · refine step_alloc (by rfl) 32 rfl (hdA zeroH) (by kernel_rfl) ?_
          intro g4 y6 hl4 n4 hy6
          have K4 := Lib.hid n4
          have L4 := Lib.hid (show w.heap.size ≤ g4 from Nat.le_trans hHeld.1.size hl4)
          have N24 := Lib.hid (show gK2 ≠ g4 by have := hHeld.2.1.inside; omega)
          have NA4 := Lib.hid (show a.block ≠ g4 by have := hHeld.2.2.inside (by rw [(FF.out).len]; omega); omega)
          refine hK.out _ _ ?_ (fun hHeld2 => ?_)
          · exact ⟨bstep hHeld.1 hy6, hHeld.2.1.keptB hy6, hHeld.2.2.keptB hy6⟩
          clear hK K hHeld
          have hHeld := hHeld2
          clear hHeld2
          try simp only [Act.put]
          try simp only [List.setIfInBounds_toArray, List.set_cons_zero, List.set_cons_succ]
          clear hl4 n4 hy6
          refine wpAnyH_ready (rs := [15]) (by kernel_rfl) (by simp) ?_
          refine AllReadyH.cons (at_list rfl) (fun K hK => ?_) (AllReadyH.nil)
          go_simp
          refine ((FF.out).cw _ hHeld.2.2).mono ?_
          rintro e y7 ⟨rfl, hy7⟩
          replace K4 := Lib.hid ((K4.out).keptB hy7)
          go_wp2_with fail
          refine hK.out _ _ ?_ (fun hHeld2 => ?_)
          · exact ⟨bstep hHeld.1 hy7, hHeld.2.1.keptB hy7, hHeld.2.2.keptB hy7⟩
          clear hK K hHeld
          have hHeld := hHeld2
          clear hHeld2 hy7
          try simp only [Act.put, List.setIfInBounds_toArray, List.set_cons_zero, List.set_cons_succ]
          refine wpAnyH_take (i := 20) (v := .agg (hdA ⟨G.t, G.d, G.f, G.c, zeroP, G.s, z33⟩)) (at_list rfl) (by kernel_rfl) (by kernel_rfl) (by kernel_rfl) (fun _ _ _ h => h) (yields_buildH (by rfl) 32 _ rfl (hdA ⟨G.t, G.d, G.f, G.c, zeroP, G.s, z33⟩) (by kernel_rfl)) hHeld ?_
          try simp only [Act.put, List.setIfInBounds_toArray, List.set_cons_zero, List.set_cons_succ]
          refine wpAnyH_ready (rs := [22]) (by kernel_rfl) (by simp) ?_
          refine AllReadyH.cons (at_list rfl) (fun K hK => ?_) (AllReadyH.nil)
          refine step_store (by rfl) 32 _ _ rfl g4 0 (hdA ⟨G.t, G.d, G.f, G.c, zeroP, G.s, z33⟩).toList rfl rfl K4.out (by kernel_rfl) (by kernel_rfl) (of_decide_eq_true (by kernel_rfl)) (hdA ⟨G.t, G.d, G.f, G.c, zeroP, G.s, z33⟩) (by kernel_rfl) ?_
          intro y8 n4 hy8
          replace K4 := Lib.hid n4
          refine hK.out _ _ ?_ (fun hHeld2 => ?_)
          · exact ⟨btouch hHeld.1 hy8 L4.out, hHeld.2.1.touch hy8 N24.out, hHeld.2.2.touch hy8 NA4.out⟩
          clear hK K hHeld
          have hHeld := hHeld2
          clear hHeld2
          try simp only [Act.put]
          clear n4 hy8
          refine wpAnyH_done (by kernel_rfl) ?_ _
          refine NoPanic.normal ?_
          go_wp2_with fail
          go_meet
          exact ⟨g4, rfl, rfl, rfl, rfl, rfl, rfl, rfl, rfl, rfl, rfl, rfl, rfl, rfl, rfl, rfl, rfl, rfl, rfl, rfl, rfl, rfl, rfl, hHeld.1, hHeld.2.2, hHeld.2.1, K4.out, N24.out, L4.out, NA4.out⟩
      · refine step_alloc (by rfl) 32 rfl (hdA zeroH) (by kernel_rfl) ?_
        intro g4 y9 hl4 n4 hy9
        have K4 := Lib.hid n4
        have L4 := Lib.hid (show w.heap.size ≤ g4 from Nat.le_trans hHeld.1.size hl4)
        have N24 := Lib.hid (show gK2 ≠ g4 by have := hHeld.2.1.inside; omega)
        have NA4 := Lib.hid (show a.block ≠ g4 by have := hHeld.2.2.inside (by rw [(FF.out).len]; omega); omega)
        refine hK.out _ _ ?_ (fun hHeld2 => ?_)
        · exact ⟨bstep hHeld.1 hy9, hHeld.2.1.keptB hy9, hHeld.2.2.keptB hy9⟩
        clear hK K hHeld
        have hHeld := hHeld2
        clear hHeld2
        try simp only [Act.put]
        try simp only [List.setIfInBounds_toArray, List.set_cons_zero, List.set_cons_succ]
        clear hl4 n4 hy9
        refine wpAnyH_ready (rs := [13]) (by kernel_rfl) (by simp) ?_
        refine AllReadyH.cons (at_list rfl) (fun K hK => ?_) (AllReadyH.nil)
        go_simp
        refine ((FF.out).cs _ hHeld.2.2).mono ?_
        rintro e y10 ⟨rfl, hy10⟩
        replace K4 := Lib.hid ((K4.out).keptB hy10)
        go_wp2_with fail
        refine hK.out _ _ ?_ (fun hHeld2 => ?_)
        · exact ⟨bstep hHeld.1 hy10, hHeld.2.1.keptB hy10, hHeld.2.2.keptB hy10⟩
        clear hK K hHeld
        have hHeld := hHeld2
        clear hHeld2 hy10
        try simp only [Act.put, List.setIfInBounds_toArray, List.set_cons_zero, List.set_cons_succ]
        refine wpAnyH_ready (rs := [15]) (by kernel_rfl) (by simp) ?_
        refine AllReadyH.cons (at_list rfl) (fun K hK => ?_) (AllReadyH.nil)
        go_simp
        refine ((FF.out).cw _ hHeld.2.2).mono ?_
        rintro e y11 ⟨rfl, hy11⟩
        replace K4 := Lib.hid ((K4.out).keptB hy11)
        go_wp2_with fail
        refine hK.out _ _ ?_ (fun hHeld2 => ?_)
        · exact ⟨bstep hHeld.1 hy11, hHeld.2.1.keptB hy11, hHeld.2.2.keptB hy11⟩
        clear hK K hHeld
        have hHeld := hHeld2
        clear hHeld2 hy11
        try simp only [Act.put, List.setIfInBounds_toArray, List.set_cons_zero, List.set_cons_succ]
        refine wpAnyH_take (i := 20) (v := .agg (hdA ⟨G.t, G.d, G.f, G.c, zeroP, G.s, z33⟩)) (at_list rfl) (by kernel_rfl) (by kernel_rfl) (by kernel_rfl) (fun _ _ _ h => h) (yields_buildH (by rfl) 32 _ rfl (hdA ⟨G.t, G.d, G.f, G.c, zeroP, G.s, z33⟩) (by kernel_rfl)) hHeld ?_
        try simp only [Act.put, List.setIfInBounds_toArray, List.set_cons_zero, List.set_cons_succ]
        refine wpAnyH_ready (rs := [22]) (by kernel_rfl) (by simp) ?_
        refine AllReadyH.cons (at_list rfl) (fun K hK => ?_) (AllReadyH.nil)
        refine step_store (by rfl) 32 _ _ rfl g4 0 (hdA ⟨G.t, G.d, G.f, G.c, zeroP, G.s, z33⟩).toList rfl rfl K4.out (by kernel_rfl) (by kernel_rfl) (of_decide_eq_true (by kernel_rfl)) (hdA ⟨G.t, G.d, G.f, G.c, zeroP, G.s, z33⟩) (by kernel_rfl) ?_
        intro y12 n4 hy12
        replace K4 := Lib.hid n4
        refine hK.out _ _ ?_ (fun hHeld2 => ?_)
        · exact ⟨btouch hHeld.1 hy12 L4.out, hHeld.2.1.touch hy12 N24.out, hHeld.2.2.touch hy12 NA4.out⟩
        clear hK K hHeld
        have hHeld := hHeld2
        clear hHeld2
        try simp only [Act.put]
        clear n4 hy12
        refine wpAnyH_done (by kernel_rfl) ?_ _
        refine NoPanic.normal ?_
        go_wp2_with fail
        go_meet
        exact ⟨g4, rfl, rfl, rfl, rfl, rfl, rfl, rfl, rfl, rfl, rfl, rfl, rfl, rfl, rfl, rfl, rfl, rfl, rfl, rfl, rfl, rfl, rfl, hHeld.1, hHeld.2.2, hHeld.2.1, K4.out, N24.out, L4.out, NA4.out⟩
    · refine step_alloc (by rfl) 32 rfl (hdA zeroH) (by kernel_rfl) ?_
      intro g4 y13 hl4 n4 hy13
      have K4 := Lib.hid n4
      have L4 := Lib.hid (show w.heap.size ≤ g4 from Nat.le_trans hHeld.1.size hl4)
      have N24 := Lib.hid (show gK2 ≠ g4 by have := hHeld.2.1.inside; omega)
      have NA4 := Lib.hid (show a.block ≠ g4 by have := hHeld.2.2.inside (by rw [(FF.out).len]; omega); omega)
      refine hK.out _ _ ?_ (fun hHeld2 => ?_)
      · exact ⟨bstep hHeld.1 hy13, hHeld.2.1.keptB hy13, hHeld.2.2.keptB hy13⟩
      clear hK K hHeld
      have hHeld := hHeld2
      clear hHeld2
      try simp only [Act.put]
      try simp only [List.setIfInBounds_toArray, List.set_cons_zero, List.set_cons_succ]
      clear hl4 n4 hy13
      refine wpAnyH_ready (rs := [10]) (by kernel_rfl) (by simp) ?_
      refine AllReadyH.cons (at_list rfl) (fun K hK => ?_) (AllReadyH.nil)
      go_simp
      refine ((FF.out).cv _ hHeld.2.2).mono ?_
      rintro e y14 ⟨rfl, hy14⟩
      replace K4 := Lib.hid ((K4.out).keptB hy14)
      go_wp2_with fail
      refine hK.out _ _ ?_ (fun hHeld2 => ?_)
      · exact ⟨bstep hHeld.1 hy14, hHeld.2.1.keptB hy14, hHeld.2.2.keptB hy14⟩
      clear hK K hHeld
      have hHeld := hHeld2
      clear hHeld2 hy14
      try simp only [Act.put, List.setIfInBounds_toArray, List.set_cons_zero, List.set_cons_succ]
      refine wpAnyH_ready (rs := [13]) (by kernel_rfl) (by simp) ?_
      refine AllReadyH.cons (at_list rfl) (fun K hK => ?_) (AllReadyH.nil)
      go_simp
      refine ((FF.out).cs _ hHeld.2.2).mono ?_
      rintro e y15 ⟨rfl, hy15⟩
      replace K4 := Lib.hid ((K4.out).keptB hy15)
      go_wp2_with fail
      refine hK.out _ _ ?_ (fun hHeld2 => ?_)
      · exact ⟨bstep hHeld.1 hy15, hHeld.2.1.keptB hy15, hHeld.2.2.keptB hy15⟩
      clear hK K hHeld
      have hHeld := hHeld2
      clear hHeld2 hy15
      try simp only [Act.put, List.setIfInBounds_toArray, List.set_cons_zero, List.set_cons_succ]
      refine wpAnyH_ready (rs := [15]) (by kernel_rfl) (by simp) ?_
      refine AllReadyH.cons (at_list rfl) (fun K hK => ?_) (AllReadyH.nil)
      go_simp
      refine ((FF.out).cw _ hHeld.2.2).mono ?_
      rintro e y16 ⟨rfl, hy16⟩
      replace K4 := Lib.hid ((K4.out).keptB hy16)
      go_wp2_with fail
      refine hK.out _ _ ?_ (fun hHeld2 => ?_)
      · exact ⟨bstep hHeld.1 hy16, hHeld.2.1.keptB hy16, hHeld.2.2.keptB hy16⟩
      clear hK K hHeld
      have hHeld := hHeld2
      clear hHeld2 hy16
      try simp only [Act.put, List.setIfInBounds_toArray, List.set_cons_zero, List.set_cons_succ]
      refine wpAnyH_take (i := 20) (v := .agg (hdA ⟨G.t, G.d, G.f, G.c, zeroP, G.s, z33⟩)) (at_list rfl) (by kernel_rfl) (by kernel_rfl) (by kernel_rfl) (fun _ _ _ h => h) (yields_buildH (by rfl) 32 _ rfl (hdA ⟨G.t, G.d, G.f, G.c, zeroP, G.s, z33⟩) (by kernel_rfl)) hHeld ?_
      try simp only [Act.put, List.setIfInBounds_toArray, List.set_cons_zero, List.set_cons_succ]
      refine wpAnyH_ready (rs := [22]) (by kernel_rfl) (by simp) ?_
      refine AllReadyH.cons (at_list rfl) (fun K hK => ?_) (AllReadyH.nil)
      refine step_store (by rfl) 32 _ _ rfl g4 0 (hdA ⟨G.t, G.d, G.f, G.c, zeroP, G.s, z33⟩).toList rfl rfl K4.out (by kernel_rfl) (by kernel_rfl) (of_decide_eq_true (by kernel_rfl)) (hdA ⟨G.t, G.d, G.f, G.c, zeroP, G.s, z33⟩) (by kernel_rfl) ?_
      intro y17 n4 hy17
      replace K4 := Lib.hid n4
      refine hK.out _ _ ?_ (fun hHeld2 => ?_)
      · exact ⟨btouch hHeld.1 hy17 L4.out, hHeld.2.1.touch hy17 N24.out, hHeld.2.2.touch hy17 NA4.out⟩
      clear hK K hHeld
      have hHeld := hHeld2
      clear hHeld2
      try simp only [Act.put]
      clear n4 hy17
      refine wpAnyH_done (by kernel_rfl) ?_ _
      refine NoPanic.normal ?_
      go_wp2_with fail
      go_meet
      exact ⟨g4, rfl, rfl, rfl, rfl, rfl, rfl, rfl, rfl, rfl, rfl, rfl, rfl, rfl, rfl, rfl, rfl, rfl, rfl, rfl, rfl, rfl, rfl, hHeld.1, hHeld.2.2, hHeld.2.1, K4.out, N24.out, L4.out, NA4.out⟩
  case rest =>
    obtain ⟨gK4, rfl, rfl, rfl, rfl, rfl, rfl, rfl, rfl, rfl, rfl, rfl, rfl, rfl, rfl, rfl, rfl, rfl, rfl, rfl, rfl, rfl, rfl, hb, hba, hr, h4, hne, hle, hna⟩ := hcut
    have HB := Lib.hid hb
    have BA := Lib.hid hba
    have K2 := Lib.hid hr
    have K4 := Lib.hid h4
    have NK2K4 := Lib.hid hne
    have LK4 := Lib.hid hle
    have NA4 := Lib.hid hna
    clear hb hba hr h4 hne hle hna
    have y14 := (K4.out).reads (i := 14) (x := .int .i64 z33) rfl
    have eL := (FF.out).gl
    have eL2 : Hid (z33 = G.l) := by rw [Hid, eL]; unfold sg1; rw [if_neg hh]
    have dh : decide (127 < z33) = false := decide_eq_false hh
    clear eL
    go_upto_region 8 with fail
    rw [eL2.out] at K4
    clear eL2 dh hh
    clear y14
    have s20 := (FF.out).s20
    go_wp2_with fail
    clear s20
    refine ((FF.out).cg _ BA.out).mono ?_
    rintro e w6 ⟨rfl, h6⟩
    replace K2 := Lib.hid ((K2.out).keptB h6)
    replace K4 := Lib.hid ((K4.out).keptB h6)
    replace BA := Lib.hid ((BA.out).keptB h6)
    replace HB := Lib.hid (bstep HB.out h6)
    clear h6
    go_upto_region 9 with (refine big_store rfl 26 _ _ rfl gK4 4 [.int .u8 G.p.c.b0, .int .u8 G.p.c.b1, .int .u8 G.p.c.b2, .int .u8 G.p.c.b3, .int .u8 G.p.c.b4, .int .u8 G.p.c.b5, .int .u8 G.p.c.b6, .int .u8 G.p.c.b7, .int .i64 G.p.n] rfl rfl K4.out (by kernel_rfl) (by kernel_rfl) (of_decide_eq_true (by kernel_rfl)) (hdA G) (by kernel_rfl) ?_; intro vK42 nK4 htK4; replace K4 := Lib.hid nK4; replace K2 := Lib.hid ((K2.out).touch htK4 NK2K4.out); replace BA := Lib.hid ((BA.out).touch htK4 NA4.out); replace HB := Lib.hid (btouch HB.out htK4 LK4.out); clear nK4 htK4)
    have y0 := (K4.out).reads (i := 0) (x := .int .i64 G.t) rfl
    go_wp2_with fail
    refine ((FF.out).cl _).mono ?_
    rintro e w7 ⟨rfl, rfl⟩
    clear y0
    by_cases hm : m = 0
    · have d2 : (m == 0) = true := by simp [hm]
      have HX := Lib.hid (congrArg Ending.returned (show E = .tuple #[.agg (hdA zeroH), .int .i64 52] by rw [HE.out, if_pos hm]))
      go_wp2_with (first | (refine big_fill rfl 32 _ _ rfl gK2 (hdA zeroH) rfl rfl K2.out (by kernel_rfl) (by kernel_rfl) (by kernel_rfl) ?_; intro vK29 nK2 htK2; replace K2 := Lib.hid nK2; replace HB := Lib.hid (btouch HB.out htK2 LK2.out); clear nK2 htK2) | (refine big_build rfl 32 _ rfl (hdA zeroH) (by kernel_rfl) ?_))
      refine bodyPost_ret (results_two rfl _ _ gK2 _ (hdA zeroH) (.int .i64 52) _ rfl rfl K2.out Tryd.underlying32 rfl (by kernel_rfl)) rfl ⟨?_, HB.out⟩
      exact HX.out.symm
    have HM := Lib.hid hm
    have d2 : (m == 0) = false := by simp [hm]
    clear hm
    go_upto_region 11 with fail
    by_cases hx : x ≠ m
    · have HX := Lib.hid (congrArg Ending.returned (show E = .tuple #[.agg (hdA zeroH), .int .i64 53] by rw [HE.out, if_neg HM.out, if_pos (.inl hx)]))
      have dx : (x != m) = true := by simp [hx]
      clear hx
      refine wp_region_held_drew (S := fun v => Below w.heap.size w v ∧ Holds v gK2 32 (hdA zeroH) ∧ BytesAt v a zs ∧ Holds v gK4 32 (hdA G)) (by kernel_rfl) ?_ (fun hHeld => ?_)
      · exact ⟨bdrew HB.out, (K2.out).drew, (BA.out).drew, (K4.out).drew⟩
      clear HB K2 BA K4
      refine wpAnyH_take (i := 0) (v := .slice (some a) L C) (at_list rfl) (by kernel_rfl) (by kernel_rfl) (by kernel_rfl) (fun _ _ _ h => h) (Or.inl ⟨by rfl, ?_⟩) hHeld ?_
      · intro v hSv
        clear hHeld
        go_simp
      try simp only [Act.put, List.setIfInBounds_toArray, List.set_cons_zero, List.set_cons_succ]
      refine wpAnyH_take (i := 2) (v := .pointer (some ⟨gK4, 0, none⟩)) (at_list rfl) (by kernel_rfl) (by kernel_rfl) (by kernel_rfl) (fun _ _ _ h => h) (Or.inl ⟨by rfl, ?_⟩) hHeld ?_
      · intro v hSv
        clear hHeld
        go_simp
      try simp only [Act.put, List.setIfInBounds_toArray, List.set_cons_zero, List.set_cons_succ]
      refine wpAnyH_take (i := 3) (v := .int .i64 G.t) (at_list rfl) (by kernel_rfl) (by kernel_rfl) (by kernel_rfl) (fun _ _ _ h => h) (Or.inl ⟨by rfl, ?_⟩) hHeld ?_
      · intro v hSv
        clear hHeld
        have q_ := Holds.reads hSv.2.2.2 (i := 0) (x := .int .i64 G.t) rfl
        clear hSv
        go_simp
      try simp only [Act.put, List.setIfInBounds_toArray, List.set_cons_zero, List.set_cons_succ]
      refine wpAnyH_ready (rs := [1]) (by kernel_rfl) (by simp) ?_
      refine AllReadyH.cons (at_list rfl) (fun K hK => ?_) AllReadyH.nil
      go_simp
      refine ((FF.out).cx _ hHeld.2.2.1).mono ?_
      rintro e v1 ⟨rfl, hv1⟩
      go_wp2_with fail
      refine hK.out _ _ ?_ (fun hHeld2 => ?_)
      · exact ⟨bstep hHeld.1 hv1, hHeld.2.1.keptB hv1, hHeld.2.2.1.keptB hv1, hHeld.2.2.2.keptB hv1⟩
      clear hK K hHeld
      have hHeld := hHeld2
      clear hHeld2 hv1
      try simp only [Act.put, List.setIfInBounds_toArray, List.set_cons_zero, List.set_cons_succ]
      refine wpAnyH_ready (rs := [4]) (by kernel_rfl) (by simp) ?_
      refine AllReadyH.cons (at_list rfl) (fun K hK => ?_) AllReadyH.nil
      go_simp
      refine ((FF.out).cl _).mono ?_
      rintro e vp ⟨rfl, rfl⟩
      go_wp2_with fail
      refine hK.out _ _ hHeld (fun hHeld2 => ?_)
      clear hK K hHeld
      have hHeld := hHeld2
      clear hHeld2
      try simp only [Act.put, List.setIfInBounds_toArray, List.set_cons_zero, List.set_cons_succ]
      refine wpAnyH_take (i := 5) (v := .bool true) (at_list rfl) (by kernel_rfl) (by kernel_rfl) (by kernel_rfl) (fun _ _ _ h => h) (Or.inl ⟨by rfl, ?_⟩) hHeld ?_
      · intro v hSv
        clear hHeld
        clear hSv
        go_simp
      try simp only [Act.put, List.setIfInBounds_toArray, List.set_cons_zero, List.set_cons_succ]
      refine wpAnyH_take (i := 6) (v := .bool true) (at_list rfl) (by kernel_rfl) (by kernel_rfl) (by kernel_rfl) (fun _ _ _ h => h) (Or.inl ⟨by rfl, ?_⟩) hHeld ?_
      · intro v hSv
        clear hHeld
        go_simp
      try simp only [Act.put, List.setIfInBounds_toArray, List.set_cons_zero, List.set_cons_succ]
      refine wpAnyH_take (i := 7) (v := undef) (at_list rfl) (by kernel_rfl) (by kernel_rfl) (by kernel_rfl) (fun _ _ _ h => h) (Or.inr ⟨by rfl, rfl⟩) hHeld ?_
      try simp only [Act.put, List.setIfInBounds_toArray, List.set_cons_zero, List.set_cons_succ]
      refine wpAnyH_take (i := 8) (v := undef) (at_list rfl) (by kernel_rfl) (by kernel_rfl) (by kernel_rfl) (fun _ _ _ h => h) (Or.inr ⟨by rfl, rfl⟩) hHeld ?_
      try simp only [Act.put, List.setIfInBounds_toArray, List.set_cons_zero, List.set_cons_succ]
      refine wpAnyH_take (i := 9) (v := undef) (at_list rfl) (by kernel_rfl) (by kernel_rfl) (by kernel_rfl) (fun _ _ _ h => h) (Or.inr ⟨by rfl, rfl⟩) hHeld ?_
      try simp only [Act.put, List.setIfInBounds_toArray, List.set_cons_zero, List.set_cons_succ]
      refine wpAnyH_take (i := 10) (v := undef) (at_list rfl) (by kernel_rfl) (by kernel_rfl) (by kernel_rfl) (fun _ _ _ h => h) (Or.inr ⟨by rfl, rfl⟩) hHeld ?_
      try simp only [Act.put, List.setIfInBounds_toArray, List.set_cons_zero, List.set_cons_succ]
      refine wpAnyH_take (i := 11) (v := undef) (at_list rfl) (by kernel_rfl) (by kernel_rfl) (by kernel_rfl) (fun _ _ _ h => h) (Or.inr ⟨by rfl, rfl⟩) hHeld ?_
      try simp only [Act.put, List.setIfInBounds_toArray, List.set_cons_zero, List.set_cons_succ]
      refine wpAnyH_take (i := 12) (v := undef) (at_list rfl) (by kernel_rfl) (by kernel_rfl) (by kernel_rfl) (fun _ _ _ h => h) (Or.inr ⟨by rfl, rfl⟩) hHeld ?_
      try simp only [Act.put, List.setIfInBounds_toArray, List.set_cons_zero, List.set_cons_succ]
      refine wpAnyH_take (i := 13) (v := .bool true) (at_list rfl) (by kernel_rfl) (by kernel_rfl) (by kernel_rfl) (fun _ _ _ h => h) (Or.inl ⟨by rfl, ?_⟩) hHeld ?_
      · intro v hSv
        clear hHeld
        go_simp
      try simp only [Act.put, List.setIfInBounds_toArray, List.set_cons_zero, List.set_cons_succ]
      refine wpAnyH_done (by kernel_rfl) ?_ _
      have HB := Lib.hid hHeld.1
      have K2 := Lib.hid hHeld.2.1
      have BA := Lib.hid hHeld.2.2.1
      have K4 := Lib.hid hHeld.2.2.2
      clear hHeld
      go_wp2_with (first | (refine big_fill rfl 32 _ _ rfl gK2 (hdA zeroH) rfl rfl K2.out (by kernel_rfl) (by kernel_rfl) (by kernel_rfl) ?_; intro vK29 nK2 htK2; replace K2 := Lib.hid nK2; replace HB := Lib.hid (btouch HB.out htK2 LK2.out); clear nK2 htK2) | (refine big_build rfl 32 _ rfl (hdA zeroH) (by kernel_rfl) ?_))
      refine bodyPost_ret (results_two rfl _ _ gK2 _ (hdA zeroH) (.int .i64 53) _ rfl rfl K2.out Tryd.underlying32 rfl (by kernel_rfl)) rfl ⟨?_, HB.out⟩
      exact HX.out.symm
    have dx : (x != m) = false := by simpa using hx
    by_cases hl : (L : Int) ≠ m
    · have HX := Lib.hid (congrArg Ending.returned (show E = .tuple #[.agg (hdA zeroH), .int .i64 53] by rw [HE.out, if_neg HM.out, if_pos (.inr hl)]))
      have dL : ((L : Int) != m) = true := by simp [hl]
      clear hx hl
      refine wp_region_held_drew (S := fun v => Below w.heap.size w v ∧ Holds v gK2 32 (hdA zeroH) ∧ BytesAt v a zs ∧ Holds v gK4 32 (hdA G)) (by kernel_rfl) ?_ (fun hHeld => ?_)
      · exact ⟨bdrew HB.out, (K2.out).drew, (BA.out).drew, (K4.out).drew⟩
      clear HB K2 BA K4
      refine wpAnyH_take (i := 0) (v := .slice (some a) L C) (at_list rfl) (by kernel_rfl) (by kernel_rfl) (by kernel_rfl) (fun _ _ _ h => h) (Or.inl ⟨by rfl, ?_⟩) hHeld ?_
      · intro v hSv
        clear hHeld
        go_simp
      try simp only [Act.put, List.setIfInBounds_toArray, List.set_cons_zero, List.set_cons_succ]
      refine wpAnyH_take (i := 2) (v := .pointer (some ⟨gK4, 0, none⟩)) (at_list rfl) (by kernel_rfl) (by kernel_rfl) (by kernel_rfl) (fun _ _ _ h => h) (Or.inl ⟨by rfl, ?_⟩) hHeld ?_
      · intro v hSv
        clear hHeld
        go_simp
      try simp only [Act.put, List.setIfInBounds_toArray, List.set_cons_zero, List.set_cons_succ]
      refine wpAnyH_take (i := 3) (v := .int .i64 G.t) (at_list rfl) (by kernel_rfl) (by kernel_rfl) (by kernel_rfl) (fun _ _ _ h => h) (Or.inl ⟨by rfl, ?_⟩) hHeld ?_
      · intro v hSv
        clear hHeld
        have q_ := Holds.reads hSv.2.2.2 (i := 0) (x := .int .i64 G.t) rfl
        clear hSv
        go_simp
      try simp only [Act.put, List.setIfInBounds_toArray, List.set_cons_zero, List.set_cons_succ]
      refine wpAnyH_ready (rs := [1]) (by kernel_rfl) (by simp) ?_
      refine AllReadyH.cons (at_list rfl) (fun K hK => ?_) AllReadyH.nil
      go_simp
      refine ((FF.out).cx _ hHeld.2.2.1).mono ?_
      rintro e v1 ⟨rfl, hv1⟩
      go_wp2_with fail
      refine hK.out _ _ ?_ (fun hHeld2 => ?_)
      · exact ⟨bstep hHeld.1 hv1, hHeld.2.1.keptB hv1, hHeld.2.2.1.keptB hv1, hHeld.2.2.2.keptB hv1⟩
      clear hK K hHeld
      have hHeld := hHeld2
      clear hHeld2 hv1
      try simp only [Act.put, List.setIfInBounds_toArray, List.set_cons_zero, List.set_cons_succ]
      refine wpAnyH_ready (rs := [4]) (by kernel_rfl) (by simp) ?_
      refine AllReadyH.cons (at_list rfl) (fun K hK => ?_) AllReadyH.nil
      go_simp
      refine ((FF.out).cl _).mono ?_
      rintro e vp ⟨rfl, rfl⟩
      go_wp2_with fail
      refine hK.out _ _ hHeld (fun hHeld2 => ?_)
      clear hK K hHeld
      have hHeld := hHeld2
      clear hHeld2
      try simp only [Act.put, List.setIfInBounds_toArray, List.set_cons_zero, List.set_cons_succ]
      refine wpAnyH_take (i := 5) (v := .bool false) (at_list rfl) (by kernel_rfl) (by kernel_rfl) (by kernel_rfl) (fun _ _ _ h => h) (Or.inl ⟨by rfl, ?_⟩) hHeld ?_
      · intro v hSv
        clear hHeld
        clear hSv
        go_simp
      try simp only [Act.put, List.setIfInBounds_toArray, List.set_cons_zero, List.set_cons_succ]
      refine wpAnyH_take (i := 6) (v := .bool false) (at_list rfl) (by kernel_rfl) (by kernel_rfl) (by kernel_rfl) (fun _ _ _ h => h) (Or.inl ⟨by rfl, ?_⟩) hHeld ?_
      · intro v hSv
        clear hHeld
        go_simp
      try simp only [Act.put, List.setIfInBounds_toArray, List.set_cons_zero, List.set_cons_succ]
      refine wpAnyH_take (i := 7) (v := .slice (some a) L C) (at_list rfl) (by kernel_rfl) (by kernel_rfl) (by kernel_rfl) (fun _ _ _ h => h) (Or.inl ⟨by rfl, ?_⟩) hHeld ?_
      · intro v hSv
        clear hHeld
        go_simp
      try simp only [Act.put, List.setIfInBounds_toArray, List.set_cons_zero, List.set_cons_succ]
      refine wpAnyH_take (i := 8) (v := .int .i64 L) (at_list rfl) (by kernel_rfl) (by kernel_rfl) (by kernel_rfl) (fun _ _ _ h => h) (Or.inl ⟨by rfl, ?_⟩) hHeld ?_
      · intro v hSv
        clear hHeld
        go_simp
      try simp only [Act.put, List.setIfInBounds_toArray, List.set_cons_zero, List.set_cons_succ]
      refine wpAnyH_take (i := 9) (v := .pointer (some ⟨gK4, 0, none⟩)) (at_list rfl) (by kernel_rfl) (by kernel_rfl) (by kernel_rfl) (fun _ _ _ h => h) (Or.inl ⟨by rfl, ?_⟩) hHeld ?_
      · intro v hSv
        clear hHeld
        go_simp
      try simp only [Act.put, List.setIfInBounds_toArray, List.set_cons_zero, List.set_cons_succ]
      refine wpAnyH_take (i := 10) (v := .int .i64 G.t) (at_list rfl) (by kernel_rfl) (by kernel_rfl) (by kernel_rfl) (fun _ _ _ h => h) (Or.inl ⟨by rfl, ?_⟩) hHeld ?_
      · intro v hSv
        clear hHeld
        have q_ := Holds.reads hSv.2.2.2 (i := 0) (x := .int .i64 G.t) rfl
        clear hSv
        go_simp
      try simp only [Act.put, List.setIfInBounds_toArray, List.set_cons_zero, List.set_cons_succ]
      refine wpAnyH_ready (rs := [11]) (by kernel_rfl) (by simp) ?_
      refine AllReadyH.cons (at_list rfl) (fun K hK => ?_) AllReadyH.nil
      go_simp
      refine ((FF.out).cl _).mono ?_
      rintro e vp ⟨rfl, rfl⟩
      go_wp2_with fail
      refine hK.out _ _ hHeld (fun hHeld2 => ?_)
      clear hK K hHeld
      have hHeld := hHeld2
      clear hHeld2
      try simp only [Act.put, List.setIfInBounds_toArray, List.set_cons_zero, List.set_cons_succ]
      refine wpAnyH_take (i := 12) (v := .bool true) (at_list rfl) (by kernel_rfl) (by kernel_rfl) (by kernel_rfl) (fun _ _ _ h => h) (Or.inl ⟨by rfl, ?_⟩) hHeld ?_
      · intro v hSv
        clear hHeld
        clear hSv
        go_simp
      try simp only [Act.put, List.setIfInBounds_toArray, List.set_cons_zero, List.set_cons_succ]
      refine wpAnyH_take (i := 13) (v := .bool true) (at_list rfl) (by kernel_rfl) (by kernel_rfl) (by kernel_rfl) (fun _ _ _ h => h) (Or.inl ⟨by rfl, ?_⟩) hHeld ?_
      · intro v hSv
        clear hHeld
        go_simp
      try simp only [Act.put, List.setIfInBounds_toArray, List.set_cons_zero, List.set_cons_succ]
      refine wpAnyH_done (by kernel_rfl) ?_ _
      have HB := Lib.hid hHeld.1
      have K2 := Lib.hid hHeld.2.1
      have BA := Lib.hid hHeld.2.2.1
      have K4 := Lib.hid hHeld.2.2.2
      clear hHeld
      go_wp2_with (first | (refine big_fill rfl 32 _ _ rfl gK2 (hdA zeroH) rfl rfl K2.out (by kernel_rfl) (by kernel_rfl) (by kernel_rfl) ?_; intro vK29 nK2 htK2; replace K2 := Lib.hid nK2; replace HB := Lib.hid (btouch HB.out htK2 LK2.out); clear nK2 htK2) | (refine big_build rfl 32 _ rfl (hdA zeroH) (by kernel_rfl) ?_))
      refine bodyPost_ret (results_two rfl _ _ gK2 _ (hdA zeroH) (.int .i64 53) _ rfl rfl K2.out Tryd.underlying32 rfl (by kernel_rfl)) rfl ⟨?_, HB.out⟩
      exact HX.out.symm
    have HN53 : Hid (¬ (x ≠ m ∨ (L : Int) ≠ m)) := fun h => h.elim hx hl
    have dL : ((L : Int) != m) = false := by simpa using hl
    clear hx hl
    refine wp_region_held_drew (S := fun v => Below w.heap.size w v ∧ Holds v gK2 32 (hdA zeroH) ∧ BytesAt v a zs ∧ Holds v gK4 32 (hdA G)) (by kernel_rfl) ?_ (fun hHeld => ?_)
    · exact ⟨bdrew HB.out, (K2.out).drew, (BA.out).drew, (K4.out).drew⟩
    clear HB K2 BA K4
    refine wpAnyH_take (i := 0) (v := .slice (some a) L C) (at_list rfl) (by kernel_rfl) (by kernel_rfl) (by kernel_rfl) (fun _ _ _ h => h) (Or.inl ⟨by rfl, ?_⟩) hHeld ?_
    · intro v hSv
      clear hHeld
      go_simp
    try simp only [Act.put, List.setIfInBounds_toArray, List.set_cons_zero, List.set_cons_succ]
    refine wpAnyH_take (i := 2) (v := .pointer (some ⟨gK4, 0, none⟩)) (at_list rfl) (by kernel_rfl) (by kernel_rfl) (by kernel_rfl) (fun _ _ _ h => h) (Or.inl ⟨by rfl, ?_⟩) hHeld ?_
    · intro v hSv
      clear hHeld
      go_simp
    try simp only [Act.put, List.setIfInBounds_toArray, List.set_cons_zero, List.set_cons_succ]
    refine wpAnyH_take (i := 3) (v := .int .i64 G.t) (at_list rfl) (by kernel_rfl) (by kernel_rfl) (by kernel_rfl) (fun _ _ _ h => h) (Or.inl ⟨by rfl, ?_⟩) hHeld ?_
    · intro v hSv
      clear hHeld
      have q_ := Holds.reads hSv.2.2.2 (i := 0) (x := .int .i64 G.t) rfl
      clear hSv
      go_simp
    try simp only [Act.put, List.setIfInBounds_toArray, List.set_cons_zero, List.set_cons_succ]
    refine wpAnyH_ready (rs := [1]) (by kernel_rfl) (by simp) ?_
    refine AllReadyH.cons (at_list rfl) (fun K hK => ?_) AllReadyH.nil
    go_simp
    refine ((FF.out).cx _ hHeld.2.2.1).mono ?_
    rintro e v1 ⟨rfl, hv1⟩
    go_wp2_with fail
    refine hK.out _ _ ?_ (fun hHeld2 => ?_)
    · exact ⟨bstep hHeld.1 hv1, hHeld.2.1.keptB hv1, hHeld.2.2.1.keptB hv1, hHeld.2.2.2.keptB hv1⟩
    clear hK K hHeld
    have hHeld := hHeld2
    clear hHeld2 hv1
    try simp only [Act.put, List.setIfInBounds_toArray, List.set_cons_zero, List.set_cons_succ]
    refine wpAnyH_ready (rs := [4]) (by kernel_rfl) (by simp) ?_
    refine AllReadyH.cons (at_list rfl) (fun K hK => ?_) AllReadyH.nil
    go_simp
    refine ((FF.out).cl _).mono ?_
    rintro e vp ⟨rfl, rfl⟩
    go_wp2_with fail
    refine hK.out _ _ hHeld (fun hHeld2 => ?_)
    clear hK K hHeld
    have hHeld := hHeld2
    clear hHeld2
    try simp only [Act.put, List.setIfInBounds_toArray, List.set_cons_zero, List.set_cons_succ]
    refine wpAnyH_take (i := 5) (v := .bool false) (at_list rfl) (by kernel_rfl) (by kernel_rfl) (by kernel_rfl) (fun _ _ _ h => h) (Or.inl ⟨by rfl, ?_⟩) hHeld ?_
    · intro v hSv
      clear hHeld
      clear hSv
      go_simp
    try simp only [Act.put, List.setIfInBounds_toArray, List.set_cons_zero, List.set_cons_succ]
    refine wpAnyH_take (i := 6) (v := .bool false) (at_list rfl) (by kernel_rfl) (by kernel_rfl) (by kernel_rfl) (fun _ _ _ h => h) (Or.inl ⟨by rfl, ?_⟩) hHeld ?_
    · intro v hSv
      clear hHeld
      go_simp
    try simp only [Act.put, List.setIfInBounds_toArray, List.set_cons_zero, List.set_cons_succ]
    refine wpAnyH_take (i := 7) (v := .slice (some a) L C) (at_list rfl) (by kernel_rfl) (by kernel_rfl) (by kernel_rfl) (fun _ _ _ h => h) (Or.inl ⟨by rfl, ?_⟩) hHeld ?_
    · intro v hSv
      clear hHeld
      go_simp
    try simp only [Act.put, List.setIfInBounds_toArray, List.set_cons_zero, List.set_cons_succ]
    refine wpAnyH_take (i := 8) (v := .int .i64 L) (at_list rfl) (by kernel_rfl) (by kernel_rfl) (by kernel_rfl) (fun _ _ _ h => h) (Or.inl ⟨by rfl, ?_⟩) hHeld ?_
    · intro v hSv
      clear hHeld
      go_simp
    try simp only [Act.put, List.setIfInBounds_toArray, List.set_cons_zero, List.set_cons_succ]
    refine wpAnyH_take (i := 9) (v := .pointer (some ⟨gK4, 0, none⟩)) (at_list rfl) (by kernel_rfl) (by kernel_rfl) (by kernel_rfl) (fun _ _ _ h => h) (Or.inl ⟨by rfl, ?_⟩) hHeld ?_
    · intro v hSv
      clear hHeld
      go_simp
    try simp only [Act.put, List.setIfInBounds_toArray, List.set_cons_zero, List.set_cons_succ]
    refine wpAnyH_take (i := 10) (v := .int .i64 G.t) (at_list rfl) (by kernel_rfl) (by kernel_rfl) (by kernel_rfl) (fun _ _ _ h => h) (Or.inl ⟨by rfl, ?_⟩) hHeld ?_
    · intro v hSv
      clear hHeld
      have q_ := Holds.reads hSv.2.2.2 (i := 0) (x := .int .i64 G.t) rfl
      clear hSv
      go_simp
    try simp only [Act.put, List.setIfInBounds_toArray, List.set_cons_zero, List.set_cons_succ]
    refine wpAnyH_ready (rs := [11]) (by kernel_rfl) (by simp) ?_
    refine AllReadyH.cons (at_list rfl) (fun K hK => ?_) AllReadyH.nil
    go_simp
    refine ((FF.out).cl _).mono ?_
    rintro e vp ⟨rfl, rfl⟩
    go_wp2_with fail
    refine hK.out _ _ hHeld (fun hHeld2 => ?_)
    clear hK K hHeld
    have hHeld := hHeld2
    clear hHeld2
    try simp only [Act.put, List.setIfInBounds_toArray, List.set_cons_zero, List.set_cons_succ]
    refine wpAnyH_take (i := 12) (v := .bool false) (at_list rfl) (by kernel_rfl) (by kernel_rfl) (by kernel_rfl) (fun _ _ _ h => h) (Or.inl ⟨by rfl, ?_⟩) hHeld ?_
    · intro v hSv
      clear hHeld
      clear hSv
      go_simp
    try simp only [Act.put, List.setIfInBounds_toArray, List.set_cons_zero, List.set_cons_succ]
    refine wpAnyH_take (i := 13) (v := .bool false) (at_list rfl) (by kernel_rfl) (by kernel_rfl) (by kernel_rfl) (fun _ _ _ h => h) (Or.inl ⟨by rfl, ?_⟩) hHeld ?_
    · intro v hSv
      clear hHeld
      go_simp
    try simp only [Act.put, List.setIfInBounds_toArray, List.set_cons_zero, List.set_cons_succ]
    refine wpAnyH_done (by kernel_rfl) ?_ _
    have HB := Lib.hid hHeld.1
    have K2 := Lib.hid hHeld.2.1
    have BA := Lib.hid hHeld.2.2.1
    have K4 := Lib.hid hHeld.2.2.2
    clear hHeld
    go_upto_region 13 with fail
    by_cases hq : 15 < z0
    · have HX := Lib.hid (congrArg Ending.returned (show E = .tuple #[.agg (hdA zeroH), .int .i64 54] by rw [HE.out, if_neg HM.out, if_neg HN53.out, if_pos (.inl hq)]))
      have r0 : decide (15 < z0) = true := by simpa using hq
      clear hq
      have c0 := (FF.out).v0 _ BA.out
      go_upto_region 14 with fail
      clear c0
      go_wp2_with (first | (refine big_fill rfl 32 _ _ rfl gK2 (hdA zeroH) rfl rfl K2.out (by kernel_rfl) (by kernel_rfl) (by kernel_rfl) ?_; intro vK29 nK2 htK2; replace K2 := Lib.hid nK2; replace HB := Lib.hid (btouch HB.out htK2 LK2.out); clear nK2 htK2) | (refine big_build rfl 32 _ rfl (hdA zeroH) (by kernel_rfl) ?_))
      refine bodyPost_ret (results_two rfl _ _ gK2 _ (hdA zeroH) (.int .i64 54) _ rfl rfl K2.out Tryd.underlying32 rfl (by kernel_rfl)) rfl ⟨?_, HB.out⟩
      exact HX.out.symm
    have r0 : decide (15 < z0) = false := by simpa using hq
    have N0 := Lib.hid hq
    clear hq
    by_cases hq : z5 ≠ 0
    · have HX := Lib.hid (congrArg Ending.returned (show E = .tuple #[.agg (hdA zeroH), .int .i64 54] by rw [HE.out, if_neg HM.out, if_neg HN53.out, if_pos (.inr (.inl hq))]))
      have r1 : (z5 != 0) = true := by simpa using hq
      clear hq
      have c0 := (FF.out).v0 _ BA.out
      have c5 := (FF.out).v5 _ BA.out
      go_upto_region 14 with fail
      clear c0 c5
      go_wp2_with (first | (refine big_fill rfl 32 _ _ rfl gK2 (hdA zeroH) rfl rfl K2.out (by kernel_rfl) (by kernel_rfl) (by kernel_rfl) ?_; intro vK29 nK2 htK2; replace K2 := Lib.hid nK2; replace HB := Lib.hid (btouch HB.out htK2 LK2.out); clear nK2 htK2) | (refine big_build rfl 32 _ rfl (hdA zeroH) (by kernel_rfl) ?_))
      refine bodyPost_ret (results_two rfl _ _ gK2 _ (hdA zeroH) (.int .i64 54) _ rfl rfl K2.out Tryd.underlying32 rfl (by kernel_rfl)) rfl ⟨?_, HB.out⟩
      exact HX.out.symm
    have r1 : (z5 != 0) = false := by simpa using hq
    have N1 := Lib.hid hq
    clear hq
    by_cases hq : z16 ≠ 0
    · have HX := Lib.hid (congrArg Ending.returned (show E = .tuple #[.agg (hdA zeroH), .int .i64 54] by rw [HE.out, if_neg HM.out, if_neg HN53.out, if_pos (.inr (.inr (.inl hq)))]))
      have r2 : (z16 != 0) = true := by simpa using hq
      clear hq
      have c0 := (FF.out).v0 _ BA.out
      have c5 := (FF.out).v5 _ BA.out
      have c16 := (FF.out).v16 _ BA.out
      go_upto_region 14 with fail
      clear c0 c5 c16
      go_wp2_with (first | (refine big_fill rfl 32 _ _ rfl gK2 (hdA zeroH) rfl rfl K2.out (by kernel_rfl) (by kernel_rfl) (by kernel_rfl) ?_; intro vK29 nK2 htK2; replace K2 := Lib.hid nK2; replace HB := Lib.hid (btouch HB.out htK2 LK2.out); clear nK2 htK2) | (refine big_build rfl 32 _ rfl (hdA zeroH) (by kernel_rfl) ?_))
      refine bodyPost_ret (results_two rfl _ _ gK2 _ (hdA zeroH) (.int .i64 54) _ rfl rfl K2.out Tryd.underlying32 rfl (by kernel_rfl)) rfl ⟨?_, HB.out⟩
      exact HX.out.symm
    have r2 : (z16 != 0) = false := by simpa using hq
    have N2 := Lib.hid hq
    clear hq
    by_cases hq : z17 ≠ 0
    · have HX := Lib.hid (congrArg Ending.returned (show E = .tuple #[.agg (hdA zeroH), .int .i64 54] by rw [HE.out, if_neg HM.out, if_neg HN53.out, if_pos (.inr (.inr (.inr (.inl hq))))]))
      have r3 : (z17 != 0) = true := by simpa using hq
      clear hq
      have c0 := (FF.out).v0 _ BA.out
      have c5 := (FF.out).v5 _ BA.out
      have c16 := (FF.out).v16 _ BA.out
      have c17 := (FF.out).v17 _ BA.out
      go_upto_region 14 with fail
      clear c0 c5 c16 c17
      go_wp2_with (first | (refine big_fill rfl 32 _ _ rfl gK2 (hdA zeroH) rfl rfl K2.out (by kernel_rfl) (by kernel_rfl) (by kernel_rfl) ?_; intro vK29 nK2 htK2; replace K2 := Lib.hid nK2; replace HB := Lib.hid (btouch HB.out htK2 LK2.out); clear nK2 htK2) | (refine big_build rfl 32 _ rfl (hdA zeroH) (by kernel_rfl) ?_))
      refine bodyPost_ret (results_two rfl _ _ gK2 _ (hdA zeroH) (.int .i64 54) _ rfl rfl K2.out Tryd.underlying32 rfl (by kernel_rfl)) rfl ⟨?_, HB.out⟩
      exact HX.out.symm
    have r3 : (z17 != 0) = false := by simpa using hq
    have N3 := Lib.hid hq
    clear hq
    by_cases hq : z18 ≠ 0
    · have HX := Lib.hid (congrArg Ending.returned (show E = .tuple #[.agg (hdA zeroH), .int .i64 54] by rw [HE.out, if_neg HM.out, if_neg HN53.out, if_pos (.inr (.inr (.inr (.inr (.inl hq)))))]))
      have r4 : (z18 != 0) = true := by simpa using hq
      clear hq
      have c0 := (FF.out).v0 _ BA.out
      have c5 := (FF.out).v5 _ BA.out
      have c16 := (FF.out).v16 _ BA.out
      have c17 := (FF.out).v17 _ BA.out
      have c18 := (FF.out).v18 _ BA.out
      go_upto_region 14 with fail
      clear c0 c5 c16 c17 c18
      go_wp2_with (first | (refine big_fill rfl 32 _ _ rfl gK2 (hdA zeroH) rfl rfl K2.out (by kernel_rfl) (by kernel_rfl) (by kernel_rfl) ?_; intro vK29 nK2 htK2; replace K2 := Lib.hid nK2; replace HB := Lib.hid (btouch HB.out htK2 LK2.out); clear nK2 htK2) | (refine big_build rfl 32 _ rfl (hdA zeroH) (by kernel_rfl) ?_))
      refine bodyPost_ret (results_two rfl _ _ gK2 _ (hdA zeroH) (.int .i64 54) _ rfl rfl K2.out Tryd.underlying32 rfl (by kernel_rfl)) rfl ⟨?_, HB.out⟩
      exact HX.out.symm
    have r4 : (z18 != 0) = false := by simpa using hq
    have N4 := Lib.hid hq
    clear hq
    by_cases hq : z19 ≠ 0
    · have HX := Lib.hid (congrArg Ending.returned (show E = .tuple #[.agg (hdA zeroH), .int .i64 54] by rw [HE.out, if_neg HM.out, if_neg HN53.out, if_pos (.inr (.inr (.inr (.inr (.inr (.inl hq))))))]))
      have r5 : (z19 != 0) = true := by simpa using hq
      clear hq
      have c0 := (FF.out).v0 _ BA.out
      have c5 := (FF.out).v5 _ BA.out
      have c16 := (FF.out).v16 _ BA.out
      have c17 := (FF.out).v17 _ BA.out
      have c18 := (FF.out).v18 _ BA.out
      have c19 := (FF.out).v19 _ BA.out
      go_upto_region 14 with fail
      clear c0 c5 c16 c17 c18 c19
      go_wp2_with (first | (refine big_fill rfl 32 _ _ rfl gK2 (hdA zeroH) rfl rfl K2.out (by kernel_rfl) (by kernel_rfl) (by kernel_rfl) ?_; intro vK29 nK2 htK2; replace K2 := Lib.hid nK2; replace HB := Lib.hid (btouch HB.out htK2 LK2.out); clear nK2 htK2) | (refine big_build rfl 32 _ rfl (hdA zeroH) (by kernel_rfl) ?_))
      refine bodyPost_ret (results_two rfl _ _ gK2 _ (hdA zeroH) (.int .i64 54) _ rfl rfl K2.out Tryd.underlying32 rfl (by kernel_rfl)) rfl ⟨?_, HB.out⟩
      exact HX.out.symm
    have r5 : (z19 != 0) = false := by simpa using hq
    have N5 := Lib.hid hq
    clear hq
    by_cases hq : z32 ≠ 0
    · have HX := Lib.hid (congrArg Ending.returned (show E = .tuple #[.agg (hdA zeroH), .int .i64 54] by rw [HE.out, if_neg HM.out, if_neg HN53.out, if_pos (.inr (.inr (.inr (.inr (.inr (.inr (hq)))))))]))
      have r6 : (z32 != 0) = true := by simpa using hq
      clear hq
      have c0 := (FF.out).v0 _ BA.out
      have c5 := (FF.out).v5 _ BA.out
      have c16 := (FF.out).v16 _ BA.out
      have c17 := (FF.out).v17 _ BA.out
      have c18 := (FF.out).v18 _ BA.out
      have c19 := (FF.out).v19 _ BA.out
      have c32 := (FF.out).v32 _ BA.out
      go_upto_region 14 with fail
      clear c0 c5 c16 c17 c18 c19 c32
      go_wp2_with (first | (refine big_fill rfl 32 _ _ rfl gK2 (hdA zeroH) rfl rfl K2.out (by kernel_rfl) (by kernel_rfl) (by kernel_rfl) ?_; intro vK29 nK2 htK2; replace K2 := Lib.hid nK2; replace HB := Lib.hid (btouch HB.out htK2 LK2.out); clear nK2 htK2) | (refine big_build rfl 32 _ rfl (hdA zeroH) (by kernel_rfl) ?_))
      refine bodyPost_ret (results_two rfl _ _ gK2 _ (hdA zeroH) (.int .i64 54) _ rfl rfl K2.out Tryd.underlying32 rfl (by kernel_rfl)) rfl ⟨?_, HB.out⟩
      exact HX.out.symm
    have r6 : (z32 != 0) = false := by simpa using hq
    have N6 := Lib.hid hq
    clear hq
    have HNAM : Hid (¬ (15 < z0 ∨ z5 ≠ 0 ∨ z16 ≠ 0 ∨ z17 ≠ 0 ∨ z18 ≠ 0 ∨ z19 ≠ 0 ∨ z32 ≠ 0)) := fun h => h.elim N0.out (fun h => h.elim N1.out (fun h => h.elim N2.out (fun h => h.elim N3.out (fun h => h.elim N4.out (fun h => h.elim N5.out N6.out)))))
    have c0 := (FF.out).v0 _ BA.out
    have c5 := (FF.out).v5 _ BA.out
    have c16 := (FF.out).v16 _ BA.out
    have c17 := (FF.out).v17 _ BA.out
    have c18 := (FF.out).v18 _ BA.out
    have c19 := (FF.out).v19 _ BA.out
    have c32 := (FF.out).v32 _ BA.out
    go_upto_region 15 with fail
    clear c0 c5 c16 c17 c18 c19 c32 r0 r1 r2 r3 r4 r5 r6 N0 N1 N2 N3 N4 N5 N6
    have y0 := (K4.out).reads (i := 0) (x := .int .i64 G.t) rfl
    have y2 := (K4.out).reads (i := 2) (x := .int .i64 G.f) rfl
    go_wp2_with fail
    clear y0 y2
    refine (rflags_any G.t G.f _).mono ?_
    rintro e w8 ⟨rfl, rfl⟩
    cases fb : flagB G.t G.f
    · have HX := Lib.hid (congrArg Ending.returned (show E = .tuple #[.agg (hdA zeroH), .int .i64 55] by rw [HE.out, if_neg HM.out, if_neg HN53.out, if_neg HNAM.out, if_pos fb]))
      clear fb
      go_wp2_with (first | (refine big_fill rfl 32 _ _ rfl gK2 (hdA zeroH) rfl rfl K2.out (by kernel_rfl) (by kernel_rfl) (by kernel_rfl) ?_; intro vK29 nK2 htK2; replace K2 := Lib.hid nK2; replace HB := Lib.hid (btouch HB.out htK2 LK2.out); clear nK2 htK2) | (refine big_build rfl 32 _ rfl (hdA zeroH) (by kernel_rfl) ?_))
      refine bodyPost_ret (results_two rfl _ _ gK2 _ (hdA zeroH) (.int .i64 55) _ rfl rfl K2.out Tryd.underlying32 rfl (by kernel_rfl)) rfl ⟨?_, HB.out⟩
      exact HX.out.symm
    have HFB : Hid (¬ flagB G.t G.f = false) := by rw [Hid, fb]; simp
    clear fb
    go_upto_region 17 with fail
    have y12 := (K4.out).reads (i := 12) (x := .int .i64 G.p.n) rfl
    by_cases hp : G.p.n = 0
    · have HX := Lib.hid (congrArg Ending.returned (show E = .tuple #[.agg (hdA zeroH), .int .i64 56] by rw [HE.out, if_neg HM.out, if_neg HN53.out, if_neg HNAM.out, if_neg HFB.out, if_pos (.inl hp)]))
      have u0 : (G.p.n == 0) = true := by simp [hp]
      clear hp
      go_upto_region 18 with fail
      clear y12
      go_wp2_with (first | (refine big_fill rfl 32 _ _ rfl gK2 (hdA zeroH) rfl rfl K2.out (by kernel_rfl) (by kernel_rfl) (by kernel_rfl) ?_; intro vK29 nK2 htK2; replace K2 := Lib.hid nK2; replace HB := Lib.hid (btouch HB.out htK2 LK2.out); clear nK2 htK2) | (refine big_build rfl 32 _ rfl (hdA zeroH) (by kernel_rfl) ?_))
      refine bodyPost_ret (results_two rfl _ _ gK2 _ (hdA zeroH) (.int .i64 56) _ rfl rfl K2.out Tryd.underlying32 rfl (by kernel_rfl)) rfl ⟨?_, HB.out⟩
      exact HX.out.symm
    have u0 : (G.p.n == 0) = false := by simp [hp]
    by_cases hp1 : G.p.n = 65535
    · have HX := Lib.hid (congrArg Ending.returned (show E = .tuple #[.agg (hdA zeroH), .int .i64 56] by rw [HE.out, if_neg HM.out, if_neg HN53.out, if_neg HNAM.out, if_neg HFB.out, if_pos (.inr hp1)]))
      have u1 : (G.p.n == 65535) = true := by simp [hp1]
      clear hp hp1
      go_upto_region 18 with fail
      clear y12
      go_wp2_with (first | (refine big_fill rfl 32 _ _ rfl gK2 (hdA zeroH) rfl rfl K2.out (by kernel_rfl) (by kernel_rfl) (by kernel_rfl) ?_; intro vK29 nK2 htK2; replace K2 := Lib.hid nK2; replace HB := Lib.hid (btouch HB.out htK2 LK2.out); clear nK2 htK2) | (refine big_build rfl 32 _ rfl (hdA zeroH) (by kernel_rfl) ?_))
      refine bodyPost_ret (results_two rfl _ _ gK2 _ (hdA zeroH) (.int .i64 56) _ rfl rfl K2.out Tryd.underlying32 rfl (by kernel_rfl)) rfl ⟨?_, HB.out⟩
      exact HX.out.symm
    have HX := Lib.hid (congrArg Ending.returned (show E = .tuple #[.agg (hdA G), .int .i64 0] by rw [HE.out, if_neg HM.out, if_neg HN53.out, if_neg HNAM.out, if_neg HFB.out, if_neg (fun h => h.elim hp hp1)]))
    have u1 : (G.p.n == 65535) = false := by simp [hp1]
    clear hp hp1
    go_upto_region 19 with fail
    clear y12
    go_wp2_with (first | (refine big_fill rfl 32 _ _ rfl gK2 (hdA G) rfl rfl K2.out (by kernel_rfl) (by kernel_rfl) (by kernel_rfl) ?_; intro vK29 nK2 htK2; replace K2 := Lib.hid nK2; replace HB := Lib.hid (btouch HB.out htK2 LK2.out); clear nK2 htK2) | (refine big_whole rfl 32 _ rfl gK4 rfl K4.out Tryd.underlying32 rfl (by kernel_rfl) ?_))
    refine bodyPost_ret (results_two rfl _ _ gK2 _ (hdA G) (.int .i64 0) _ rfl rfl K2.out Tryd.underlying32 rfl (by kernel_rfl)) rfl ⟨?_, HB.out⟩
    exact HX.out.symm

end Go.Proofs.YtifhjmhekapaoaaDoor

/- The walk over the reference's head Decode. -/
namespace Go.Proofs.YtifhjmhekapaoaaDoor
set_option maxRecDepth 100000
open Go.RowKit
set_option linter.unusedVariables false

theorem rdf_of (a : Addr) (L C : Nat) (zs : List Int) (hlen : zs.length = L) (hL : 34 ≤ L) (hC : L ≤ C) (hM : C ≤ maxLen) (hb : ∀ z ∈ zs, isByte z) : RDF a L C zs (hdOf zs) (longN (zs.getD 0 0 % 16)) (zs.getD 2 0 * 256 + zs.getD 3 0) (zs.getD 0 0) (zs.getD 1 0) (zs.getD 4 0) (zs.getD 5 0) (zs.getD 16 0) (zs.getD 17 0) (zs.getD 18 0) (zs.getD 19 0) (zs.getD 32 0) (zs.getD 33 0) where
  l34 := hL
  lc := hC
  cm := hM
  len := hlen
  b0 := getD_byte hb 0
  b4 := getD_byte hb 4
  b33 := getD_byte hb 33
  gt := rfl
  gd := rfl
  gl := rfl
  v0 := fun v hv => by
    have h := hv 0 (by omega)
    rw [Addr.add_zero'] at h
    exact h
  v1 := fun v hv => hv.at_ (by omega) (by omega)
  v4 := fun v hv => hv.at_ (by omega) (by omega)
  v5 := fun v hv => hv.at_ (by omega) (by omega)
  v16 := fun v hv => hv.at_ (by omega) (by omega)
  v17 := fun v hv => hv.at_ (by omega) (by omega)
  v18 := fun v hv => hv.at_ (by omega) (by omega)
  v19 := fun v hv => hv.at_ (by omega) (by omega)
  v32 := fun v hv => hv.at_ (by omega) (by omega)
  v33 := fun v hv => hv.at_ (by omega) (by omega)
  cv := fun v hv => value5_any a L C 6 zs v hlen (by omega) (by omega) hb hv
  cw := fun v hv => value5_any a L C 30 zs v hlen (by omega) (by omega) hb hv
  cx := fun v hv => value5_any a L C 2 zs v hlen (by omega) (by omega) hb hv
  cs := fun v hv => by
    have h8 : ((zs.drop 8).take 8).length = 8 := by rw [List.length_take, List.length_drop]; omega
    have hs := hv.sub (ys := (zs.drop 8).take 8) 8 (fun i hi => by
      rw [h8] at hi
      rw [List.getElem?_take, if_pos hi, List.getElem?_drop])
    refine (signed_any (a.add 8) (C - 8) ((zs.drop 8).take 8) v h8 (fun z hz => hb z (List.mem_of_mem_drop (List.mem_of_mem_take hz))) hs).mono ?_
    rintro e w' ⟨h1, rfl⟩
    exact ⟨h1, Below.refl _ _⟩
  cg := fun v hv => by
    have h10 : ((zs.drop 20).take 10).length = 10 := by rw [List.length_take, List.length_drop]; omega
    exact ridget_ten (a.add 20) (C - 20) ((zs.drop 20).take 10) v h10 (fun z hz => hb z (List.mem_of_mem_drop (List.mem_of_mem_take hz))) (hv.sub 20 (fun i hi => by
      rw [h10] at hi
      rw [List.getElem?_take, if_pos hi, List.getElem?_drop]))
  cl := fun v => rlong_any _ v
  s8 := fun v => slice_mid a L C 8 16 (by omega) (by omega) (by omega) v
  s20 := fun v => slice_mid a L C 20 30 (by omega) (by omega) (by omega) v
theorem port_bd {zs : List Int} (hb : ∀ z ∈ zs, isByte z) : 0 ≤ (hdOf zs).p.n ∧ (hdOf zs).p.n ≤ 65535 := by
  have gn := getD_byte (show ∀ z ∈ (zs.drop 20).take 10, isByte z from fun z hz => hb z (List.mem_of_mem_drop (List.mem_of_mem_take hz))) 8
  have gn2 := getD_byte (show ∀ z ∈ (zs.drop 20).take 10, isByte z from fun z hz => hb z (List.mem_of_mem_drop (List.mem_of_mem_take hz))) 9
  unfold isByte at gn gn2
  show 0 ≤ _ * 256 + _ ∧ _ * 256 + _ ≤ 65535
  omega
theorem rd_told {L : Nat} {zs : List Int} (hL : ¬ (L : Int) < 34) (h2 : zs.getD 1 0 = 2) (hb : ∀ z ∈ zs, isByte z) : (.tuple #[.agg (hdA (decH L zs)), .int .i64 (faultN L zs)] : Value) = if longN (zs.getD 0 0 % 16) = 0 then .tuple #[.agg (hdA zeroH), .int .i64 52] else if (zs.getD 2 0 * 256 + zs.getD 3 0) ≠ longN (zs.getD 0 0 % 16) ∨ (L : Int) ≠ longN (zs.getD 0 0 % 16) then .tuple #[.agg (hdA zeroH), .int .i64 53] else if 15 < zs.getD 0 0 ∨ zs.getD 5 0 ≠ 0 ∨ zs.getD 16 0 ≠ 0 ∨ zs.getD 17 0 ≠ 0 ∨ zs.getD 18 0 ≠ 0 ∨ zs.getD 19 0 ≠ 0 ∨ zs.getD 32 0 ≠ 0 then .tuple #[.agg (hdA zeroH), .int .i64 54] else if flagB (hdOf zs).t (hdOf zs).f = false then .tuple #[.agg (hdA zeroH), .int .i64 55] else if (hdOf zs).p.n = 0 ∨ (hdOf zs).p.n = 65535 then .tuple #[.agg (hdA zeroH), .int .i64 56] else .tuple #[.agg (hdA (hdOf zs)), .int .i64 0] := by
  have hN : formN L zs = if longN (zs.getD 0 0 % 16) = 0 then 52 else if zs.getD 2 0 * 256 + zs.getD 3 0 ≠ longN (zs.getD 0 0 % 16) ∨ (L : Int) ≠ longN (zs.getD 0 0 % 16) then 53 else if 15 < zs.getD 0 0 ∨ zs.getD 5 0 ≠ 0 ∨ zs.getD 16 0 ≠ 0 ∨ zs.getD 17 0 ≠ 0 ∨ zs.getD 18 0 ≠ 0 ∨ zs.getD 19 0 ≠ 0 ∨ zs.getD 32 0 ≠ 0 then 54 else 0 := by
    unfold formN
    rw [if_neg hL, if_neg (fun h => h h2)]
  by_cases hm : longN (zs.getD 0 0 % 16) = 0
  · rw [if_pos hm]; rw [if_pos hm] at hN
    exact Ending.returned.inj (fault_form (by omega) hN)
  rw [if_neg hm]; rw [if_neg hm] at hN
  by_cases hx : zs.getD 2 0 * 256 + zs.getD 3 0 ≠ longN (zs.getD 0 0 % 16) ∨ (L : Int) ≠ longN (zs.getD 0 0 % 16)
  · rw [if_pos hx]; rw [if_pos hx] at hN
    exact Ending.returned.inj (fault_form (by omega) hN)
  rw [if_neg hx]; rw [if_neg hx] at hN
  by_cases ha : 15 < zs.getD 0 0 ∨ zs.getD 5 0 ≠ 0 ∨ zs.getD 16 0 ≠ 0 ∨ zs.getD 17 0 ≠ 0 ∨ zs.getD 18 0 ≠ 0 ∨ zs.getD 19 0 ≠ 0 ∨ zs.getD 32 0 ≠ 0
  · rw [if_pos ha]; rw [if_pos ha] at hN
    exact Ending.returned.inj (fault_form (by omega) hN)
  rw [if_neg ha]; rw [if_neg ha] at hN
  have hr := fault_rest hN
  cases fb : flagB (hdOf zs).t (hdOf zs).f
  · rw [fb] at hr
    rw [if_pos rfl]
    exact Ending.returned.inj (hr.trans (by simp [decR]; rfl))
  · rw [fb] at hr
    rw [if_neg (by simp)]
    have hbd := port_bd hb
    cases nb : inB (hdOf zs).p.n 1 65534
    · rw [nb] at hr
      have hp := inB_not.1 nb
      rw [if_pos (by omega)]
      exact Ending.returned.inj (hr.trans (by simp [decR]; rfl))
    · rw [nb] at hr
      have hp := inB_iff.1 nb
      rw [if_neg (by omega)]
      exact Ending.returned.inj (hr.trans (by simp [decR]; rfl))
theorem rdecode_any (a : Addr) (L C : Nat) (zs : List Int) (w : World) (hlen : zs.length = L) (hL : 34 ≤ L) (hC : L ≤ C) (hM : C ≤ maxLen) (hb : ∀ z ∈ zs, isByte z) (hc : BytesAt w a zs) :
    Calls Tryd.prog 7 #[.slice (some a) L C] w fun e w' => e = decR (faultN L zs) (decH L zs) ∧ Below w.heap.size w w' := by
  have F := rdf_of a L C zs hlen hL hC hM hb
  have hL' : ¬ ((L : Int) < 34) := by omega
  show Calls Tryd.prog 7 #[.slice (some a) L C] w fun e w' => e = .returned (.tuple #[.agg (hdA (decH L zs)), .int .i64 (faultN L zs)]) ∧ Below w.heap.size w w'
  by_cases h2 : zs.getD 1 0 = 2
  · have hE := rd_told hL' h2 hb
    by_cases hh : 127 < zs.getD 33 0
    · exact rd_hi a L C zs (hdOf zs) _ _ _ _ _ _ _ _ _ _ _ _ w _ hE F hc h2 hh
    · exact rd_lo a L C zs (hdOf zs) _ _ _ _ _ _ _ _ _ _ _ _ w _ hE F hc h2 hh
  · have h := rd_51 a L C zs (hdOf zs) _ _ _ _ _ _ _ _ _ _ _ _ w F hc h2
    have e := Ending.returned.inj (fault_form (L := (L : Int)) (zs := zs) (c := 51) (by omega) (by unfold formN; rw [if_neg hL', if_pos h2]))
    rw [show (.tuple #[.agg (hdA (decH L zs)), .int .i64 (faultN L zs)] : Value) = .tuple #[.agg (hdA zeroH), .int .i64 51] from e]
    exact h

end Go.Proofs.YtifhjmhekapaoaaDoor
