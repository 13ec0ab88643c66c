/- What the walk over the reference's head Decode starts from. -/
import Derived.Test.YtifhjmhekapaoaaDoorHeadDecode
import Derived.Test.YtifhjmhekapaoaaDoorHeadRefRows
import Derived.Test.YtifhjmhekapaoaaDoorBigAll
import Derived.Test.YtifhjmhekapaoaaDoorByHand
import Derived.Deep.DeepCutAuto
namespace Go.Proofs.YtifhjmhekapaoaaDoor
set_option maxRecDepth 100000
open Go.RowKit
set_option linter.unusedVariables false

/-- the cells of a head -/
def hdA (G : Hd) : Array Value := #[.int .i64 G.t, .int .i64 G.d, .int .i64 G.f, .int .i64 G.c, .int .u8 G.p.c.b0, .int .u8 G.p.c.b1, .int .u8 G.p.c.b2, .int .u8 G.p.c.b3, .int .u8 G.p.c.b4, .int .u8 G.p.c.b5, .int .u8 G.p.c.b6, .int .u8 G.p.c.b7, .int .i64 G.p.n, .int .i64 G.s, .int .i64 G.l]
theorem fault_form {L : Int} {zs : List Int} {c : Int} (hc : c ≠ 0) (hf : formN L zs = c) : decR (faultN L zs) (decH L zs) = decR c zeroH := by
  have e : faultN L zs = c := by unfold faultN; rw [if_pos (by rw [hf]; exact hc), hf]
  unfold decH
  rw [e, if_neg hc]
theorem fault_rest {L : Int} {zs : List Int} (hf : formN L zs = 0) : decR (faultN L zs) (decH L zs) = decR (if flagB (hdOf zs).t (hdOf zs).f = false then 55 else if inB (hdOf zs).p.n 1 65534 = false then 56 else 0) (if flagB (hdOf zs).t (hdOf zs).f = true ∧ inB (hdOf zs).p.n 1 65534 = true then hdOf zs else zeroH) := by
  have e : faultN L zs = (if flagB (hdOf zs).t (hdOf zs).f = false then 55 else if inB (hdOf zs).p.n 1 65534 = false then 56 else 0) := by
    unfold faultN
    rw [hf, if_neg (by simp)]
  unfold decH
  rw [e]
  cases flagB (hdOf zs).t (hdOf zs).f <;> cases inB (hdOf zs).p.n 1 65534 <;> rfl
/-- what is known of the bytes that are read -/
structure RDF (a : Addr) (L C : Nat) (zs : List Int) (G : Hd) (m x : Int) (z0 z1 z4 z5 z16 z17 z18 z19 z32 z33 : Int) : Prop where
  l34 : 34 ≤ L
  lc : L ≤ C
  cm : C ≤ maxLen
  len : zs.length = L
  b0 : 0 ≤ z0 ∧ z0 ≤ 255
  b4 : 0 ≤ z4 ∧ z4 ≤ 255
  b33 : 0 ≤ z33 ∧ z33 ≤ 255
  gt : G.t = z0 % 16
  gd : G.d = z4
  gl : G.l = sg1 z33
  v0 : ∀ v, BytesAt v a zs → v.cell? a = some (.int .u8 z0)
  v1 : ∀ v, BytesAt v a zs → v.cell? ⟨a.block, a.off + 1, none⟩ = some (.int .u8 z1)
  v4 : ∀ v, BytesAt v a zs → v.cell? ⟨a.block, a.off + 4, none⟩ = some (.int .u8 z4)
  v5 : ∀ v, BytesAt v a zs → v.cell? ⟨a.block, a.off + 5, none⟩ = some (.int .u8 z5)
  v16 : ∀ v, BytesAt v a zs → v.cell? ⟨a.block, a.off + 16, none⟩ = some (.int .u8 z16)
  v17 : ∀ v, BytesAt v a zs → v.cell? ⟨a.block, a.off + 17, none⟩ = some (.int .u8 z17)
  v18 : ∀ v, BytesAt v a zs → v.cell? ⟨a.block, a.off + 18, none⟩ = some (.int .u8 z18)
  v19 : ∀ v, BytesAt v a zs → v.cell? ⟨a.block, a.off + 19, none⟩ = some (.int .u8 z19)
  v32 : ∀ v, BytesAt v a zs → v.cell? ⟨a.block, a.off + 32, none⟩ = some (.int .u8 z32)
  v33 : ∀ v, BytesAt v a zs → v.cell? ⟨a.block, a.off + 33, none⟩ = some (.int .u8 z33)
  cv : ∀ v, BytesAt v a zs → Calls Tryd.prog 24 #[.slice (some a) L C, .int .i64 6] v fun e w' => e = .returned (.int .i64 G.f) ∧ Below v.heap.size v w'
  cw : ∀ v, BytesAt v a zs → Calls Tryd.prog 24 #[.slice (some a) L C, .int .i64 30] v fun e w' => e = .returned (.int .i64 G.s) ∧ Below v.heap.size v w'
  cx : ∀ v, BytesAt v a zs → Calls Tryd.prog 24 #[.slice (some a) L C, .int .i64 2] v fun e w' => e = .returned (.int .i64 x) ∧ Below v.heap.size v w'
  cs : ∀ v, BytesAt v a zs → Calls Tryd.prog 25 #[.slice (some ⟨a.block, a.off + 8, none⟩) 8 (C - 8)] v fun e w' => e = .returned (.int .i64 G.c) ∧ Below v.heap.size v w'
  cg : ∀ v, BytesAt v a zs → Calls Tryd.prog 26 #[.slice (some ⟨a.block, a.off + 20, none⟩) 10 (C - 20)] v fun e w' => e = .returned (.tuple #[.agg #[.int .u8 G.p.c.b0, .int .u8 G.p.c.b1, .int .u8 G.p.c.b2, .int .u8 G.p.c.b3, .int .u8 G.p.c.b4, .int .u8 G.p.c.b5, .int .u8 G.p.c.b6, .int .u8 G.p.c.b7, .int .i64 G.p.n], .bool true]) ∧ Below v.heap.size v w'
  cl : ∀ v, Calls Tryd.prog 27 #[.int .i64 G.t] v fun e w' => e = .returned (.int .i64 m) ∧ v = w'
  s8 : ∀ v, (Instr.sliceAt 22 (.slice (some a) L C) (some (.int .i64 8)) (some (.int .i64 16)) none).run Tryd.prog v = .ok (.slice (some ⟨a.block, a.off + 8, none⟩) 8 (C - 8)) v
  s20 : ∀ v, (Instr.sliceAt 22 (.slice (some a) L C) (some (.int .i64 20)) (some (.int .i64 30)) none).run Tryd.prog v = .ok (.slice (some ⟨a.block, a.off + 20, none⟩) 10 (C - 20)) v
theorem slice_mid (a : Addr) (L C lo hi : Nat) (h1 : hi ≤ C) (h2 : lo < hi) (h3 : 0 < lo) (v : World) : (Instr.sliceAt 22 (.slice (some a) L C) (some (.int .i64 lo)) (some (.int .i64 hi)) none).run Tryd.prog v = .ok (.slice (some ⟨a.block, a.off + lo, none⟩) (hi - lo) (C - lo)) v := by
  rw [run_sliceAt_slice _ _ _ _ _ _ (by kernel_rfl), run_slice_lh v _ _ _ _ (by kernel_rfl) .i64 .i64 lo hi (by omega) (by omega) (by omega)]
  show Result.ok (sliced (some a) lo hi C 1) v = _
  unfold sliced
  rw [if_neg (by omega)]
  show Result.ok (Value.slice (some (a.add (lo * 1))) (hi - lo) (C - lo)) v = _
  rw [Nat.mul_one]
  unfold Addr.add
  rw [if_neg (by omega)]
theorem yields_buildH {P : Program} {ops : Array Oper} {op : Oper} {a : Act} {S : World → Prop} (hw : Region.wanted op (yielded ops a.tmps) = true) (ty : TypeId) (parts : Array (Nat × Operand)) (ho : op.op = .build ty parts) (cs : Array Value) (hf : P.built ty (parts.map fun (i, x) => (i, a.eval x)).toList = some cs) : YieldsIf P ops S op (.agg cs) a :=
  .inl ⟨hw, fun w _ => by
    unfold execOp
    simp only [ho, Sem.run_bind, run_build w ty _ cs hf, Result.andThen_ok, Sem.run_pure]⟩
/-- where the orders of reading meet -/
def RDCut (a : Addr) (L C : Nat) (zs : List Int) (G : Hd) (z0 z4 z33 : Int) (w : World) (gK2 : Nat) (s4 s14 s15 s16 s17 s18 s19 s20 s21 s22 s23 s24 s25 s26 s27 s28 s29 s30 s31 s32 s33 s34 : Value) (v : World) : Prop := ∃ g4, s4 = .pointer (some ⟨g4, 0, none⟩) ∧ s14 = .slice (some a) L C ∧ s15 = .pointer (some a) ∧ s16 = .int .u8 z0 ∧ s17 = .int .i64 z0 ∧ s18 = .int .i64 G.t ∧ s19 = .slice (some a) L C ∧ s20 = .pointer (some ⟨a.block, a.off + 4, none⟩) ∧ s21 = .int .u8 z4 ∧ s22 = .int .i64 G.d ∧ s23 = .slice (some a) L C ∧ s24 = .int .i64 G.f ∧ s25 = .slice (some a) L C ∧ s26 = .slice (some ⟨a.block, a.off + 8, none⟩) 8 (C - 8) ∧ s27 = .int .i64 G.c ∧ s28 = .slice (some a) L C ∧ s29 = .int .i64 G.s ∧ s30 = .slice (some a) L C ∧ s31 = .pointer (some ⟨a.block, a.off + 33, none⟩) ∧ s32 = .int .u8 z33 ∧ s33 = .int .i64 z33 ∧ s34 = .agg (hdA ⟨G.t, G.d, G.f, G.c, zeroP, G.s, z33⟩) ∧
  Below w.heap.size w v ∧ BytesAt v a zs ∧ Holds v gK2 32 (hdA zeroH) ∧ Holds v g4 32 (hdA ⟨G.t, G.d, G.f, G.c, zeroP, G.s, z33⟩) ∧ gK2 ≠ g4 ∧ w.heap.size ≤ g4 ∧ a.block ≠ g4
set_option maxHeartbeats 4000000 in
theorem rdecode_short (A : Option Addr) (L C : Nat) (w : World) (hL : L < 34) :
    Calls Tryd.prog 7 #[.slice A L C] w fun e w' => e = decR 50 zeroH ∧ Below w.heap.size w w' := by
  have HB := Lib.hid (Below.refl w.heap.size w)
  have h1 : decide ((L : Int) < 34) = true := by simp; omega
  go_enter Tryd.func7, Tryd.ntmps7
  go_wp2_with (first | (refine big_fill rfl 32 _ _ rfl gK2 (hdA zeroH) rfl rfl K2.out (by kernel_rfl) (by kernel_rfl) (by kernel_rfl) ?_; intro vK20 nK2 htK2; replace K2 := Lib.hid nK2; replace HB := Lib.hid (btouch HB.out htK2 LK2.out); clear nK2 htK2) | (refine big_build rfl 32 _ rfl (hdA zeroH) (by kernel_rfl) ?_) | (refine big_alloc rfl 32 rfl (hdA zeroH) (by kernel_rfl) ?_; intro gK2 wK2 hlK2 nK2 hbK2; have K2 := Lib.hid nK2; have LK2 := Lib.hid (Nat.le_trans (HB.out).size hlK2); replace HB := Lib.hid (bstep HB.out hbK2); clear hlK2 nK2 hbK2))
  refine bodyPost_ret (results_two rfl _ _ gK2 _ (hdA zeroH) (.int .i64 50) _ rfl rfl K2.out Tryd.underlying32 rfl (by kernel_rfl)) rfl ⟨?_, HB.out⟩
  rfl

end Go.Proofs.YtifhjmhekapaoaaDoor
