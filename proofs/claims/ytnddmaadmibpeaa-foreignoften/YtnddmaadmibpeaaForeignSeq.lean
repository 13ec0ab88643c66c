/- maps.Keys over the table's map, slices.AppendSeq and slices.Collect: walked within a fence, as a range over a function asks. -/
import Derived.Test.YtnddmaadmibpeaaForeignIter
namespace Go.Proofs.Ytnddmaadmibpeaa
set_option maxRecDepth 100000
open Go.RowKit Go.Maps Go.Shelf
set_option linter.unusedVariables false
attribute [local go_sem] Oper.semAt_some

def ptsL (ps : List Pt) : List Value := ps.flatMap fun p => (ptA p).toList
theorem ptsL_snoc (ps : List Pt) (p : Pt) : ptsL (ps ++ [p]) = ptsL ps ++ (ptA p).toList := by simp [ptsL]
theorem ptsL_len (ps : List Pt) : (ptsL ps).length = ps.length * 9 := by
  induction ps with
  | nil => rfl
  | cons p ps ih =>
    have h1 : ptsL (p :: ps) = (ptA p).toList ++ ptsL ps := rfl
    have h2 : (ptA p).toList.length = 9 := rfl
    rw [h1, List.length_append, ih, h2, List.length_cons]
    omega
theorem info_port : (Try.prog.info? 35).map (fun i => (i.zero, i.size, i.bytes)) = some (some (.agg (ptA ⟨⟨0, 0, 0, 0, 0, 0, 0, 0⟩, 0⟩)), 9, 16) := by kernel_rfl
def zP : Pt := ⟨⟨0, 0, 0, 0, 0, 0, 0, 0⟩, 0⟩
set_option maxHeartbeats 4000000 in
theorem keys_in (F : Fence) (n : Nat) (hf : F.fn 25) (hro : F.round = none) (m : Nat) (w : World) :
    CallsIn F n Try.prog 25 #[.map (some m)] w fun e w' => e = .returned (.func (.func 30) #[] #[.pointer (some ⟨w.heap.size, 0, none⟩)]) ∧ w' = w.alloc (.cells #[.map (some m)] 52) := by
  refine callsIn_of_wp Try.func25 rfl hf ?_ hro
  simp only [Try.ntmps25, List.size_toArray, List.length_cons, List.length_nil, Nat.reduceAdd, Nat.reduceSub, Array.replicate_succ, Array.replicate_zero, List.push_toArray, List.append_toArray, List.nil_append, List.cons_append]
  gi_wp2
  go_ret
  exact ⟨rfl, rfl⟩
set_option maxHeartbeats 4000000 in
theorem keys1_in (F : Fence) (n : Nat) (hf : F.fn 30) (hro : F.round = none) (hn : 1 ≤ n) (l Bm m : Nat) (L : List Fe) (J Jx : List Pt → World → Prop)
    (hY : ∀ pre x W, J pre W → pre.length < L.length → YieldAt F (n - 1) Try.prog l #[.agg (ptA x)] W fun e W' =>
      (e = .returned (.bool true) ∧ J (pre ++ [x]) W' ∧ KeepsWalks W W') ∨ (e = .returned (.bool false) ∧ Jx (pre ++ [x]) W'))
    (W : World) (hJ : AbidesFrom W.heap.size J) (hm : Holds W Bm 52 #[.map (some m)]) (hM : MapAt W m L) (h0 : J [] W) :
    CallsIn F n Try.prog 30 #[.func (.yield l) #[] #[], .pointer (some ⟨Bm, 0, none⟩)] W fun e W' => (∃ v, e = .returned v) ∧
      ((∃ ss : List Pt, ss.Perm (L.map (·.s.sn)) ∧ J ss W') ∨ (∃ pre : List Pt, True ∧ Jx pre W')) := by
  refine callsIn_of_wp Try.func30 rfl hf ?_ hro
  simp only [Try.ntmps30, List.size_toArray, List.length_cons, List.length_nil, Nat.reduceAdd, Nat.reduceSub, Array.replicate_succ, Array.replicate_zero, List.push_toArray, List.append_toArray, List.nil_append, List.cons_append]
  have hmc := hm.reads (i := 0) (x := .map (some m)) rfl
  gi_wp2_with (refine in_range rfl _ rfl rfl hM ?_; intro w0 hr0 hg0)
  go_frame
  gi_loopw [3] (fun _ wr => ∃ (done : List Pt) (cnt : Nat), WalkAt wr m W.heap.size L done cnt ∧ J done wr)
    (fun _ wr => wr.rangeLeft m W.heap.size)
  case atStart =>
    exact ⟨[], _, hr0, hJ [] W w0 none h0 hg0 (fun r e => by cases e)⟩
  case round =>
    clear hr0 hg0 hmc hm hM h0
    obtain ⟨done, cnt, hW, hJs⟩ := hrel
    gi_wp2_with (first | (refine in_next rfl _ rfl rfl hW ?_ ?_) | gi_in)
    · intro hp
      gi_wp2
      go_end0
      exact ⟨⟨_, rfl⟩, .inl ⟨done, hp, hJs⟩⟩
    · intro e w2 cnt2 he hnd hW2 hlt hg2 hen
      have hJ2 : J done w2 := hJ done wr w2 (some W.heap.size) hJs hg2 (fun r e => by cases e; exact ⟨Nat.le_refl _, hW.iter⟩)
      have HNU := Lib.hid hW2.num
      have HIT := Lib.hid hlt
      have HLE := Lib.hid hW.left_eq
      clear hW hJs hg2 hlt
      gi_wp2_with (first | (refine in_fill rfl 35 _ _ rfl g3 (ptA e.s.sn) rfl rfl K3.out (by kernel_rfl) (by kernel_rfl) (by kernel_rfl) ?_; intro w4 n4 t4; have hb4 := btouch B3.out t4 (Nat.le_of_eq (G3.out).symm); have hJ4 : J done w4 := hJ done w2 w4 none hJ2 (grown_of hb4) (fun r e => by cases e); have hW4 := hW2.keptB hb4; replace K3 := Lib.hid n4; clear n4 t4 hb4 hJ2 hW2 B3 G3; obtain ⟨fn, tmps, assign, body, hy, hR⟩ := hY done e.s.sn w4 hJ4 (by have := HNU.out; simp at this; omega)) | (refine in_alloc rfl 35 rfl (ptA zP) (by kernel_rfl) ?_; intro g3 w3 hg3 hw3 n3 hb3; have K3 := Lib.hid n3; have B3 := Lib.hid hb3; have G3 := Lib.hid hg3; clear n3 hb3 hw3 hg3) | (refine in_whole rfl 35 _ rfl g3 rfl K3.out Try.underlying35 rfl (by kernel_rfl) ?_) | gi_in)
      refine hR.mono ?_
      rintro e3 W3 (⟨rfl, hJ3, hk3⟩ | ⟨rfl, hJx3⟩)
      · gi_wp2
        have hW3 := hW4.of_walks hk3
        go_roundw
        case rel => exact ⟨done ++ [e.s.sn], cnt2, hW3, hJ3⟩
        case measure => rw [hW3.left_eq, HLE.out]; exact HIT.out
      · gi_wp2
        refine bodyPost_ret (results_none rfl _ _ _) rfl ?_
        exact ⟨⟨_, rfl⟩, .inr ⟨_, trivial, hJx3⟩⟩
/-- what maps.Keys hands back -/
theorem keys_stops (F : Fence) (n : Nat) (hf : F.fn 30) (hro : F.round = none) (hn : 1 ≤ n) (Bm m : Nat) (L : List Fe) (w : World) (hm : Holds w Bm 52 #[.map (some m)]) (hM : MapAt w m L) :
    SeqStopsK F n Try.prog 30 #[.pointer (some ⟨Bm, 0, none⟩)] (fun x : Pt => #[Value.agg (ptA x)]) KeepsWalks (fun ss => ss.Perm (L.map (·.s.sn))) (fun _ => True) L.length w := fun l J Jx W hW hJ _ hY h0 =>
  keys1_in F n hf hro hn l Bm m L J Jx hY W hJ (hm.keptB hW) (hM.keptB hW) h0
theorem cells_new (w : World) (cs : Array Value) (t : TypeId) : ∀ j u, cs.toList[j]? = some u → (w.alloc (.cells cs t)).cell? ((⟨w.heap.size, 0, none⟩ : Addr).add j) = some u := by
  intro j u hu
  have h := (Holds.fresh w t cs rfl).reads (i := j) (x := u) (by simpa using hu)
  simpa [Addr.add_mid] using h
theorem pt_cells (p : Pt) : ∀ u ∈ (ptA p).toList, u.oneCell' = true := by
  have h : (ptA p).toList.all (·.oneCell') = true := rfl
  exact fun u hu => List.all_eq_true.1 h u hu
theorem in_slice1 {F : Fence} {n : Nat} {P : Program} {ops : Array Oper} {rest : List Oper} {op : Oper} {a : Act} {w : World} {Q : Exit → Act → World → Prop} (hw : Region.wanted op (yielded ops a.tmps) = true) (t e : TypeId) (parts : Array (Nat × Operand)) (ho : op.op = .buildSlice t 1 parts) (cells : Array Value) {ie : TypeInfo} {z : Value}
    (hu : P.underlying t = some (.slice e)) (hie : P.info? e = some ie) (hz : ie.zero = some z) (hs : ie.size = 9)
    (hf : Instr.fill (fun i => some (i * 9, 9)) ((Array.range (1 * 9)).map (z.cells[· % z.cells.size]!)) (parts.map fun (i, x) => (i, a.eval x)).toList = some cells)
    (h : ∀ w1, w1 = w.alloc (.cells cells e) → wpListIn F n P ops Q rest (a.put op.dst (.slice (some ⟨w.heap.size, 0, none⟩) 1 1)) w1) : wpListIn F n P ops Q (op :: rest) a w :=
  BigFrame.wpListIn_want hw fun K hK => by
    have hr := run_buildSlice (P := P) w t e 1 (parts.map fun (i, x) => (i, a.eval x)) cells ie z hu hie hz (by rw [hs]; omega) (by rw [hs]; omega) (by rw [hs]; exact hf)
    refine in_of_run (by simp [Oper.about, ho]) (by rw [ho]; intro c hc; cases hc) (w' := w.alloc (.cells cells e)) (x := .slice (some ⟨w.heap.size, 0, none⟩) 1 1) ?_ (hK _ _ (h _ rfl))
    simp [execOp, ho, hr, Result.andThen]
set_option maxHeartbeats 4000000 in
theorem appendSeq_in (F : Fence) (n : Nat) (hf : F.fn 37) (hro : F.round = none) (hn : 3 ≤ n) (gf : Nat) (lb : Array Value) (hFg : F.fn gf) (eg : ∀ args w, (callFunc gf args).run Try.prog w = .ok (.enter gf args) w)
    (S : List Pt → Prop) (N : Nat) (hN : N ≤ 1000) (w : World) (hseq : SeqStopsK F (n - 1) Try.prog gf lb (fun x : Pt => #[Value.agg (ptA x)]) KeepsWalks S (fun _ => True) N w) :
    CallsIn F n Try.prog 37 #[.slice none 0 0, .func (.func gf) #[] lb] w fun e W' => ∃ v ps, e = .returned v ∧ S ps ∧ W'.ownsRow w.heap.size 35 9 v ps.length (ptsL ps) ∧ (v = .slice none 0 0 ↔ ps = []) ∧ Below w.heap.size w W' := by
  have h1 : 1 ≤ n := by omega
  obtain ⟨i0, hi, hz0, hz1, hz2⟩ := info_parts info_port
  refine callsIn_of_wp_marks Try.func37 rfl hf ?_ hro
  simp only [Try.ntmps37, List.size_toArray, List.length_cons, List.length_nil, Nat.reduceAdd, Nat.reduceSub, Array.replicate_succ, Array.replicate_zero, List.push_toArray, List.append_toArray, List.nil_append, List.cons_append]
  gi_wp2
  have bO := Boxed.new w 56 (.slice none 0 0)
  have hB0 : Below w.heap.size w (w.alloc (.cells #[.slice none 0 0] 56)) := bnew w _
  refine wpIn_rangeFunc_ownH hro h1 (gf := gf) (lb := lb) rfl hFg eg hseq walksK_t walksK_b hB0 (fun _ => rfl)
    (fun pre W => (∃ v, Boxed W w.heap.size 56 v ∧ W.ownsRow w.heap.size 35 9 v pre.length (ptsL pre) ∧ (v = .slice none 0 0 ↔ pre = [])) ∧ Below w.heap.size w W)
    (fun _ _ _ => False)
    (OwnFrom.and (Own.from (holdsRow_own w.heap.size w.heap.size 56 35 9 (fun pre : List Pt => pre.length) (fun pre => ptsL pre) (fun pre v => v = .slice none 0 0 ↔ pre = [])) _) (ownFrom_below (Nat.le_refl _) (by simp)))
    (fun _ _ _ _ _ hs _ _ => hs)
    ⟨⟨_, bO, World.ownsRow_nil _ _ _ _, by simp⟩, hB0⟩
    (fun x a' W => ∃ Bx, w.heap.size < Bx ∧ Holds W Bx 35 (ptA x) ∧ a' = { tmps := #[.slice none 0 0, .func (.func gf) #[] lb, .pointer (some ⟨w.heap.size, 0, none⟩), undef, .slice none 0 0, .pointer (some ⟨Bx, 0, none⟩), .func (.func gf) #[] lb, .agg (ptA x), undef, undef, undef, undef, undef], defers := [] })
    (fun x a' _ X Y row hs hg hr => by obtain ⟨Bx, h1, h2, h3⟩ := hs; exact ⟨Bx, h1, (hg.block Bx h2.inside (fun e => by obtain ⟨_, o, ho, hc⟩ := hr Bx e.symm; rw [Holds] at h2; rw [h2] at ho; cases ho; cases hc)).trans h2, h3⟩)
    ?assign ?body ?done ?stop
  case assign =>
    rintro l pre x W K ⟨⟨v, hv, hrow, hnil⟩, hB1⟩ hK
    have HK := Lib.hid hK
    have HV := Lib.hid hv
    have HR := Lib.hid hrow
    have HN := Lib.hid hnil
    have HB1 := Lib.hid hB1
    clear hK hv hrow hnil hB1
    simp only [List.zip_toArray, List.zip_cons_cons, List.zip_nil_right, List.foldl_toArray, List.foldl_cons, List.foldl_nil, List.setIfInBounds_toArray, List.set_cons_succ, List.set_cons_zero]
    gi_wp2_with (first | (refine in_fill rfl 35 _ _ rfl g3 (ptA x) rfl rfl K3.out (by kernel_rfl) (by kernel_rfl) (by kernel_rfl) ?_; intro w4 n4 t4; have hb4 := btouch B3.out t4 (Nat.le_of_eq (G3.out).symm); replace K3 := Lib.hid n4; have HB4 := Lib.hid hb4; clear n4 t4 hb4) | (refine in_alloc rfl 35 rfl (ptA zP) (by kernel_rfl) ?_; intro g3 w3 hg3 hw3 n3 hb3; have K3 := Lib.hid n3; have B3 := Lib.hid hb3; have G3 := Lib.hid hg3; have W3 := Lib.hid hw3; clear n3 hb3 hw3 hg3) | gi_in)
    have hb4 := HB4.out
    have hg4 := grown_of hb4
    exact HK.out _ _ (KeepsFrom.of_grownBy hg4 (fun j e => by cases e)) (KeepsOthers.of_grownBy hg4 (fun j o e => by cases e)).walks ⟨⟨v, (HV.out).kept hg4 (by simp), own_below HR.out hb4, HN.out⟩, (HB1.out).trans (hb4.mono (HB1.out).size)⟩ ⟨g3, by have := (HV.out).lt; have := G3.out; omega, K3.out, rfl⟩
  case body =>
    rintro l pre x a' W hl ⟨r, hr⟩ ⟨⟨v, hv, hrow, hnil⟩, hB⟩ ⟨Bx, hBx, bX, rfl⟩ hlt
    clear hr
    have hc := hv.cell
    have HV := Lib.hid hv
    have HR := Lib.hid hrow
    have HN := Lib.hid hnil
    have HB1 := Lib.hid hB
    have KX := Lib.hid bX
    clear hv hrow hnil hB bX
    gi_wp2_with (first | (refine in_whole rfl 35 _ rfl Bx rfl KX.out Try.underlying35 rfl (by kernel_rfl) ?_) | (refine in_slice1 rfl 56 35 _ rfl (ptA x) Try.underlying56 hi hz0 hz1 (by kernel_rfl) ?_; intro w5 hw5; subst hw5) | (gi_at_builtin; refine wpListIn_append_own _ rfl _ _ 56 rfl w.heap.size 35 i0 _ 9 16 Try.underlying56 hi hz0 hz1 hz2 rfl (by decide) _ _ _ rfl ((HR.out).alloc _) ⟨W.heap.size, 0, none⟩ 1 1 (ptA x).toList rfl rfl (cells_new _ _ _) (pt_cells x) (by unfold maxLen; omega) (by omega) (by have := (HB1.out).size; simp; omega) ?_; intro v' w1 hown' hgrow _; obtain ⟨g', cap', rfl⟩ := ownsRow_succ hown'; obtain ⟨hv1, hv2, hr2, hk2, hb2⟩ := (HV.out).appended (by decide) HR.out (HB1.out).size (Nat.le_refl _) hown' hgrow; have hc1 := hv1.cell; have hf1 := hv1.frozen; have HK2 := Lib.hid hk2; have HV2 := Lib.hid hv2; have HR2 := Lib.hid hr2; have HB2 := Lib.hid hb2; clear hk2 hv2 hr2 hb2 hv1 hown' hgrow) | gi_in)
    exact ⟨(HK2.out).from _, (HK2.out).walks, ⟨_, HV2.out, by rw [ptsL_snoc, List.length_append]; exact HR2.out, by simp⟩, (HB1.out).trans HB2.out⟩
  case done =>
    rintro D ys W hD hS ⟨⟨v, hv, hrow, hnil⟩, hB⟩ hK
    have hc := hv.cell
    gi_wp2
    refine ⟨by simp, .inl ⟨_, _, rfl, run_takeDeferred hK, ?_⟩⟩
    exact ⟨_, results_tmp rfl _ _ _, v, ys, rfl, hS, ownsRow_putObj hrow _ hK rfl, hnil, hB.trans (belowK_b (w := w) (Nat.le_refl _) W D _ _ (by simp at hD; omega) hK rfl rfl)⟩
  case stop =>
    rintro D c pre W _ _ h _
    exact h.elim

end Go.Proofs.Ytnddmaadmibpeaa
