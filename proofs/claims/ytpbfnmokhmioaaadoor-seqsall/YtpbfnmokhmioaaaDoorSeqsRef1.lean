/- The rows of the reference of layer 11; the walks over known and without. -/
import Derived.Test.YtpbfnmokhmioaaaDoorRowsIn
import Derived.Test.YtpbfnmokhmioaaaDoorSeqsRefMath
import Derived.Test.YtpbfnmokhmioaaaDoorSeqsOne
import Derived.Deep.DeepCutAuto
import Derived.Deep.LoopGhost
import Derived.WalkMore
namespace Go.Proofs.YtpbfnmokhmioaaaDoor
set_option maxRecDepth 100000
open Go.RowKit
set_option linter.unusedVariables false
set_option linter.unusedSimpArgs false

instance rowPt : RowOf Pt := ⟨ptA, 9, fun _ => rfl, by decide, fun _ => rfl, 35⟩
instance rowRl : RowOf Rl := ⟨rlA, 11, fun _ => rfl, by decide, fun _ => rfl, 76⟩
instance rowRh : RowOf Rh := ⟨rhA, 13, fun _ => rfl, by decide, fun _ => rfl, 80⟩
def zPt : Pt := ⟨⟨0, 0, 0, 0, 0, 0, 0, 0⟩, 0⟩
theorem info_pt : (Tryd.prog.info? 35).map (fun i => (i.zero, i.size, i.bytes)) = some (some (.agg (ptA zPt)), 9, 16) := by kernel_rfl
theorem info_rl : (Tryd.prog.info? 76).map (fun i => (i.zero, i.size, i.bytes)) = some (some (.agg (rlA ⟨zPt, 0, 0⟩)), 11, 32) := by kernel_rfl
theorem info_rh : (Tryd.prog.info? 80).map (fun i => (i.zero, i.size, i.bytes)) = some (some (.agg (rhA ⟨zPt, 0, 0, 0, 0⟩)), 13, 48) := by kernel_rfl
theorem info_ptE : (Tryd.prog.info? 35).isSome = true := by kernel_rfl
section
variable {w : World} {g o n c k : Nat}
theorem pts_at {l : List Pt} (h : RowsIn w (.slice (some ⟨g, o, none⟩) n c) l) {x : Pt} (hk : l[k]? = some x) : w.rangeAt g (o + k * 9) (ptA x).toList := h.at_ hk
theorem las_at {l : List Rl} (h : RowsIn w (.slice (some ⟨g, o, none⟩) n c) l) {x : Rl} (hk : l[k]? = some x) : w.rangeAt g (o + k * 11) (rlA x).toList := h.at_ hk
theorem las_port {l : List Rl} (h : RowsIn w (.slice (some ⟨g, o, none⟩) n c) l) {x : Rl} (hk : l[k]? = some x) : w.rangeAt g (o + k * 11) (ptA x.p).toList := range_left (b := [.int .i64 x.k, .int .i64 x.s]) (las_at h hk)
theorem las_k {l : List Rl} (h : RowsIn w (.slice (some ⟨g, o, none⟩) n c) l) {x : Rl} (hk : l[k]? = some x) : w.cell? ⟨g, o + k * 11 + 9, none⟩ = some (.int .i64 x.k) := range_cell (las_at h hk) rfl
theorem las_s {l : List Rl} (h : RowsIn w (.slice (some ⟨g, o, none⟩) n c) l) {x : Rl} (hk : l[k]? = some x) : w.cell? ⟨g, o + k * 11 + 10, none⟩ = some (.int .i64 x.s) := range_cell (las_at h hk) rfl
theorem hal_at {l : List Rh} (h : RowsIn w (.slice (some ⟨g, o, none⟩) n c) l) {x : Rh} (hk : l[k]? = some x) : w.rangeAt g (o + k * 13) (rhA x).toList := h.at_ hk
theorem hal_port {l : List Rh} (h : RowsIn w (.slice (some ⟨g, o, none⟩) n c) l) {x : Rh} (hk : l[k]? = some x) : w.rangeAt g (o + k * 13) (ptA x.p).toList := range_left (b := [.int .i64 x.s, .int .i64 x.x0, .int .i64 x.x1, .int .i64 x.x2]) (hal_at h hk)
theorem hal_s {l : List Rh} (h : RowsIn w (.slice (some ⟨g, o, none⟩) n c) l) {x : Rh} (hk : l[k]? = some x) : w.cell? ⟨g, o + k * 13 + 9, none⟩ = some (.int .i64 x.s) := range_cell (hal_at h hk) rfl
theorem hal_x {l : List Rh} (h : RowsIn w (.slice (some ⟨g, o, none⟩) n c) l) {x : Rh} (hk : l[k]? = some x) : w.rangeAt g (o + k * 13 + 10) [.int .i64 x.x0, .int .i64 x.x1, .int .i64 x.x2] := range_part (hal_at h hk) rfl
end
theorem take_snoc {α : Type} {l : List α} {k : Nat} {x : α} (h : l[k]? = some x) : l.take (k + 1) = l.take k ++ [x] := by rw [List.take_add_one, h]; rfl
theorem known_step {l : List Pt} {k : Nat} {x q : Pt} (h : l[k]? = some x) : knownB (l.take (k + 1)) q = (knownB (l.take k) q || eqP x q) := by rw [take_snoc h, known_snoc]
theorem known_in {l : List Pt} {k : Nat} {x q : Pt} (h : l[k]? = some x) (hq : eqP x q = true) : knownB l q = true := by
  rw [known_iff, ← eqP_iff.1 hq]
  exact List.mem_of_getElem? h
theorem noH_step {l : List Rh} {k : Nat} {x : Rh} {q : Pt} (h : l[k]? = some x) : noH (l.take (k + 1)) q = noH (l.take k) q ++ (if eqP x.p q then [] else [x]) := by
  rw [take_snoc h]
  unfold noH
  rw [List.filter_append]
  cases hq : eqP x.p q <;> simp [hq]
theorem noS_step {l : List Pt} {k : Nat} {x : Pt} {q : Pt} (h : l[k]? = some x) : noS (l.take (k + 1)) q = noS (l.take k) q ++ (if eqP x q then [] else [x]) := by
  rw [take_snoc h]
  unfold noS
  rw [List.filter_append]
  cases hq : eqP x q <;> simp [hq]
theorem noL_step {l : List Rl} {k : Nat} {x : Rl} {q : Pt} (h : l[k]? = some x) : noL (l.take (k + 1)) q = noL (l.take k) q ++ (if eqP x.p q then [] else [x]) := by
  rw [take_snoc h]
  unfold noL
  rw [List.filter_append]
  cases hq : eqP x.p q <;> simp [hq]
theorem restL_step {l : List Rl} {k : Nat} {x : Rl} {q : Pt} {i : Int} (h : l[k]? = some x) : restL (l.take (k + 1)) q i = restL (l.take k) q i ++ (if hitL q i x then [] else [x]) := by
  rw [take_snoc h]
  unfold restL
  rw [List.filter_append]
  cases hq : hitL q i x <;> simp [hq]
theorem bad_step {l : List Rl} {k : Nat} {x : Rl} {q : Pt} {i s : Int} (h : l[k]? = some x) : (l.take (k + 1)).any (badL q i s) = ((l.take k).any (badL q i s) || badL q i s x) := by
  rw [take_snoc h, List.any_append]
  simp
theorem noH_le (l : List Rh) (q : Pt) : (noH l q).length ≤ l.length := List.length_filter_le _ _
theorem noS_le (l : List Pt) (q : Pt) : (noS l q).length ≤ l.length := List.length_filter_le _ _
theorem noL_le (l : List Rl) (q : Pt) : (noL l q).length ≤ l.length := List.length_filter_le _ _
theorem restL_le (l : List Rl) (q : Pt) (i : Int) : (restL l q i).length ≤ l.length := List.length_filter_le _ _
theorem RowB.form_ {w : World} {B size n : Nat} {e : TypeId} {v : Value} {xs : List Value} (h : RowB w B e size n v xs) : ∃ A m c, v = .slice A m c := by
  rcases h.row.2 with ⟨h1, _⟩ | ⟨g, cap, _, h1, _⟩
  · exact ⟨_, _, _, h1⟩
  · exact ⟨_, _, _, h1⟩
theorem rh_snoc {w : World} {B : Nat} {e : TypeId} {v : Value} {F : List Rh} {y : Rh} (h : RowB w B e 13 (F.length + 1) v (rowsL F ++ (rhA y).toList)) : RowB w B e 13 (F ++ [y]).length v (rowsL (F ++ [y])) := by rw [rowsL_append, rowsL_single, List.length_append]; exact h
theorem rl_snoc {w : World} {B : Nat} {e : TypeId} {v : Value} {F : List Rl} {y : Rl} (h : RowB w B e 11 (F.length + 1) v (rowsL F ++ (rlA y).toList)) : RowB w B e 11 (F ++ [y]).length v (rowsL (F ++ [y])) := by rw [rowsL_append, rowsL_single, List.length_append]; exact h
theorem pt_snoc {w : World} {B : Nat} {e : TypeId} {v : Value} {F : List Pt} {y : Pt} (h : RowB w B e 9 (F.length + 1) v (rowsL F ++ (ptA y).toList)) : RowB w B e 9 (F ++ [y]).length v (rowsL (F ++ [y])) := by rw [rowsL_append, rowsL_single, List.length_append]; exact h
theorem size_isH {w : World} {g : Nat} {t : TypeId} {cs : Array Value} (h : Hid (Holds w g t cs)) : ∃ B, w.heap.size = B := ⟨_, rfl⟩
set_option maxHeartbeats 4000000 in
theorem rknown11_any (f : Int → Int) (A : Option Addr) (n c : Nat) (vl vh : Sl) (l : List Pt) (q : Pt) (w : World) (h : RowsIn w (.slice A n c) l) (hn : n ≤ 100000) :
    Calls Tryd.prog 32 #[.agg (rbA f ⟨A, n, c⟩ vl vh), .agg (ptA q)] w fun e w' => e = .returned (.bool (knownB l q)) ∧ Below w.heap.size w w' := by
  have HB := Lib.hid (Below.refl w.heap.size w)
  have SI := Lib.hid h
  clear h
  go_enter Tryd.func32, Tryd.ntmps32
  go_upto_region 1 with (first | (refine big_box rfl 35 _ rfl (ptA q) rfl (by kernel_rfl) ?_; intro gK3 wK3 hlK3 nK3 hbK3; have K3 := Lib.hid nK3; have LK3 := Lib.hid (Nat.le_trans (HB.out).size hlK3); have OSIK3 := Lib.hid ((SI.out).off hlK3); have OK2K3 := Lib.hid ((K2.out).off hlK3); replace SI := Lib.hid ((SI.out).keptB hbK3); replace K2 := Lib.hid ((K2.out).keptB hbK3); replace HB := Lib.hid (bstep HB.out hbK3); clear hlK3 nK3 hbK3; try simp only [Act.put, List.setIfInBounds_toArray, List.set_cons_zero, List.set_cons_succ]) | (refine big_box rfl 31 _ rfl (rbA f ⟨A, n, c⟩ vl vh) rfl (by kernel_rfl) ?_; intro gK2 wK2 hlK2 nK2 hbK2; have K2 := Lib.hid nK2; have LK2 := Lib.hid (Nat.le_trans (HB.out).size hlK2); have OSIK2 := Lib.hid ((SI.out).off hlK2); replace SI := Lib.hid ((SI.out).keptB hbK2); replace HB := Lib.hid (bstep HB.out hbK2); clear hlK2 nK2 hbK2; try simp only [Act.put, List.setIfInBounds_toArray, List.set_cons_zero, List.set_cons_succ]))
  clear LK2 OSIK2 LK3 OSIK3 OK2K3
  go_wp2
  go_loopw [5] (fun i v => ∃ k : Nat, k ≤ n ∧ i = .int .i64 k ∧ Hid (knownB (l.take k) q = false) ∧ Hid (RowsIn v (.slice A n c) l) ∧ Hid (Holds v gK2 31 (rbA f ⟨A, n, c⟩ vl vh)) ∧ Hid (Holds v gK3 35 (ptA q)) ∧ Hid (Below w.heap.size w v)) (fun i _ => n - (intOf i).toNat)
  case atStart => exact ⟨0, by omega, rfl, Lib.hid rfl, SI, K2, K3, HB⟩
  case round =>
    clear SI K2 K3 HB
    rename_i V
    obtain ⟨k, hk, rfl, HW, SI, K2, K3, HB⟩ := hrel
    by_cases hlt : k < n
    · have hd : decide ((k : Int) < (n : Int)) = true := by simpa using hlt
      have HLN := Lib.hid (SI.out).len
      obtain ⟨x, hx⟩ : ∃ x, l[k]? = some x := ⟨_, List.getElem?_eq_getElem (show k < l.length by rw [HLN.out]; exact hlt)⟩
      have HXE := Lib.hid hx
      have HK := Lib.hid hlt
      obtain ⟨g, o, hA⟩ := (SI.out).lies (by omega)
      subst hA
      clear hx HLN
      have x16 := (K2.out).reads (i := 16) (x := .slice (some ⟨g, o, none⟩) n c) rfl
      go_upto_region 4 with fail
      clear x16
      cases hq : eqP x q
      · have HW2 : Hid (knownB (l.take (k + 1)) q = false) := by rw [Hid, known_step HXE.out, HW.out, hq]; rfl
        have HQ := Lib.hid hq
        clear hq
        refine wp_region_noPanic ?_
        refine wp_region_held_drew (S := fun v => Below w.heap.size w v ∧ RowsIn v (.slice (some ⟨g, o, none⟩) n c) l ∧ Holds v gK2 31 (rbA f ⟨some ⟨g, o, none⟩, n, c⟩ vl vh) ∧ Holds v gK3 35 (ptA q) ∧ True) (by kernel_rfl) ?_ (fun hHeld => ?_)
        · exact ⟨bdrew HB.out, (SI.out).drew, (K2.out).drew, (K3.out).drew, trivial⟩
        clear HB SI K2 K3
        refine wpAnyH_take (i := 0) (v := .pointer (some ⟨gK2, 16, none⟩)) (at_list rfl) (by kernel_rfl) (by kernel_rfl) (by kernel_rfl) (fun _ _ _ h => h) (Or.inl ⟨by rfl, ?_⟩) hHeld ?_
        · intro v hSv
          clear hHeld
          go_simp
        try simp only [Act.put, List.setIfInBounds_toArray, List.set_cons_zero, List.set_cons_succ]
        refine wpAnyH_take (i := 1) (v := .slice (some ⟨g, o, none⟩) n c) (at_list rfl) (by kernel_rfl) (by kernel_rfl) (by kernel_rfl) (fun _ _ _ h => h) (Or.inl ⟨by rfl, ?_⟩) hHeld ?_
        · intro v hSv
          clear hHeld
          have q := Holds.reads (hSv.2.2.1) (i := 16) (x := .slice (some ⟨g, o, none⟩) n c) rfl
          clear hSv
          go_simp
        try simp only [Act.put, List.setIfInBounds_toArray, List.set_cons_zero, List.set_cons_succ]
        refine wpAnyH_take (i := 2) (v := .int .i64 k) (at_list rfl) (by kernel_rfl) (by kernel_rfl) (by kernel_rfl) (fun _ _ _ h => h) (Or.inl ⟨by rfl, ?_⟩) hHeld ?_
        · intro v hSv
          clear hHeld
          go_simp
        try simp only [Act.put, List.setIfInBounds_toArray, List.set_cons_zero, List.set_cons_succ]
        refine wpAnyH_take (i := 3) (v := .pointer (some ⟨g, o + k * 9, none⟩)) (at_list rfl) (by kernel_rfl) (by kernel_rfl) (by kernel_rfl) (fun _ _ _ h => h) (yields_index (by rfl) 27 _ _ rfl g o n c k 9 rfl rfl HK.out Tryd.underlying27 (by kernel_rfl)) hHeld ?_
        try simp only [Act.put, List.setIfInBounds_toArray, List.set_cons_zero, List.set_cons_succ]
        refine wpAnyH_take (i := 4) (v := .agg (ptA x)) (at_list rfl) (by kernel_rfl) (by kernel_rfl) (by kernel_rfl) (fun _ _ _ h => h) (yieldsIf_load_mid (by rfl) 35 _ rfl g (o + k * 9) rfl (ptA x).toList _ (fun v hv => pts_at (hv.2.1) HXE.out) Tryd.underlying35 rfl (by kernel_rfl)) hHeld ?_
        try simp only [Act.put, List.setIfInBounds_toArray, List.set_cons_zero, List.set_cons_succ]
        refine wpAnyH_take (i := 5) (v := .agg (ptA q)) (at_list rfl) (by kernel_rfl) (by kernel_rfl) (by kernel_rfl) (fun _ _ _ h => h) (yields_whole (by rfl) 35 _ rfl gK3 rfl (fun v hv => hv.2.2.2.1) Tryd.underlying35 rfl (by kernel_rfl)) hHeld ?_
        try simp only [Act.put, List.setIfInBounds_toArray, List.set_cons_zero, List.set_cons_succ]
        refine wpAnyH_take (i := 6) (v := .bool false) (at_list rfl) (by kernel_rfl) (by kernel_rfl) (by kernel_rfl) (fun _ _ _ h => h) (yields_cmp (by rfl) .eql 35 _ _ _ rfl (ptA x) (ptA q) rfl rfl (by kernel_rfl) false (fun v => (eql_port x q v).trans (by rw [HQ.out]))) hHeld ?_
        try simp only [Act.put, List.setIfInBounds_toArray, List.set_cons_zero, List.set_cons_succ]
        refine wpAnyH_done (by kernel_rfl) ?_ _
        refine NoPanic.normal ?_
        have HB := Lib.hid hHeld.1
        have SI := Lib.hid hHeld.2.1
        have K2 := Lib.hid hHeld.2.2.1
        have K3 := Lib.hid hHeld.2.2.2.1
        clear hHeld
        go_wp2
        go_roundw
        case rel => exact ⟨k + 1, by omega, by go_num, HW2, SI, K2, K3, HB⟩
        case measure => simp [intOf]; omega
      · have HX : Hid (knownB l q = true) := known_in HXE.out hq
        have HQ := Lib.hid hq
        clear hq
        refine wp_region_noPanic ?_
        refine wp_region_held_drew (S := fun v => Below w.heap.size w v ∧ RowsIn v (.slice (some ⟨g, o, none⟩) n c) l ∧ Holds v gK2 31 (rbA f ⟨some ⟨g, o, none⟩, n, c⟩ vl vh) ∧ Holds v gK3 35 (ptA q) ∧ True) (by kernel_rfl) ?_ (fun hHeld => ?_)
        · exact ⟨bdrew HB.out, (SI.out).drew, (K2.out).drew, (K3.out).drew, trivial⟩
        clear HB SI K2 K3
        refine wpAnyH_take (i := 0) (v := .pointer (some ⟨gK2, 16, none⟩)) (at_list rfl) (by kernel_rfl) (by kernel_rfl) (by kernel_rfl) (fun _ _ _ h => h) (Or.inl ⟨by rfl, ?_⟩) hHeld ?_
        · intro v hSv
          clear hHeld
          go_simp
        try simp only [Act.put, List.setIfInBounds_toArray, List.set_cons_zero, List.set_cons_succ]
        refine wpAnyH_take (i := 1) (v := .slice (some ⟨g, o, none⟩) n c) (at_list rfl) (by kernel_rfl) (by kernel_rfl) (by kernel_rfl) (fun _ _ _ h => h) (Or.inl ⟨by rfl, ?_⟩) hHeld ?_
        · intro v hSv
          clear hHeld
          have q := Holds.reads (hSv.2.2.1) (i := 16) (x := .slice (some ⟨g, o, none⟩) n c) rfl
          clear hSv
          go_simp
        try simp only [Act.put, List.setIfInBounds_toArray, List.set_cons_zero, List.set_cons_succ]
        refine wpAnyH_take (i := 2) (v := .int .i64 k) (at_list rfl) (by kernel_rfl) (by kernel_rfl) (by kernel_rfl) (fun _ _ _ h => h) (Or.inl ⟨by rfl, ?_⟩) hHeld ?_
        · intro v hSv
          clear hHeld
          go_simp
        try simp only [Act.put, List.setIfInBounds_toArray, List.set_cons_zero, List.set_cons_succ]
        refine wpAnyH_take (i := 3) (v := .pointer (some ⟨g, o + k * 9, none⟩)) (at_list rfl) (by kernel_rfl) (by kernel_rfl) (by kernel_rfl) (fun _ _ _ h => h) (yields_index (by rfl) 27 _ _ rfl g o n c k 9 rfl rfl HK.out Tryd.underlying27 (by kernel_rfl)) hHeld ?_
        try simp only [Act.put, List.setIfInBounds_toArray, List.set_cons_zero, List.set_cons_succ]
        refine wpAnyH_take (i := 4) (v := .agg (ptA x)) (at_list rfl) (by kernel_rfl) (by kernel_rfl) (by kernel_rfl) (fun _ _ _ h => h) (yieldsIf_load_mid (by rfl) 35 _ rfl g (o + k * 9) rfl (ptA x).toList _ (fun v hv => pts_at (hv.2.1) HXE.out) Tryd.underlying35 rfl (by kernel_rfl)) hHeld ?_
        try simp only [Act.put, List.setIfInBounds_toArray, List.set_cons_zero, List.set_cons_succ]
        refine wpAnyH_take (i := 5) (v := .agg (ptA q)) (at_list rfl) (by kernel_rfl) (by kernel_rfl) (by kernel_rfl) (fun _ _ _ h => h) (yields_whole (by rfl) 35 _ rfl gK3 rfl (fun v hv => hv.2.2.2.1) Tryd.underlying35 rfl (by kernel_rfl)) hHeld ?_
        try simp only [Act.put, List.setIfInBounds_toArray, List.set_cons_zero, List.set_cons_succ]
        refine wpAnyH_take (i := 6) (v := .bool true) (at_list rfl) (by kernel_rfl) (by kernel_rfl) (by kernel_rfl) (fun _ _ _ h => h) (yields_cmp (by rfl) .eql 35 _ _ _ rfl (ptA x) (ptA q) rfl rfl (by kernel_rfl) true (fun v => (eql_port x q v).trans (by rw [HQ.out]))) hHeld ?_
        try simp only [Act.put, List.setIfInBounds_toArray, List.set_cons_zero, List.set_cons_succ]
        refine wpAnyH_done (by kernel_rfl) ?_ _
        refine NoPanic.normal ?_
        have HB := Lib.hid hHeld.1
        have SI := Lib.hid hHeld.2.1
        have K2 := Lib.hid hHeld.2.2.1
        have K3 := Lib.hid hHeld.2.2.2.1
        clear hHeld
        go_wp2
        try rw [Exit.noGoto_ret]
        go_ret
        rw [HX.out]
        exact ⟨rfl, HB.out⟩
    · have hd : decide ((k : Int) < (n : Int)) = false := by simpa using hlt
      obtain rfl : k = n := by omega
      have x16 := (K2.out).reads (i := 16) (x := .slice A k c) rfl
      rw [List.take_of_length_le (by rw [(SI.out).len]; omega)] at HW
      go_wp2
      try rw [Exit.noGoto_ret]
      go_ret
      rw [HW.out]
      exact ⟨rfl, HB.out⟩
set_option maxHeartbeats 4000000 in
theorem rwithout11_any (f : Int → Int) (vs vl : Sl) (A : Option Addr) (n c : Nat) (l : List Rh) (q : Pt) (w : World) (h : RowsIn w (.slice A n c) l) (hn : n ≤ 100000) :
    Calls Tryd.prog 33 #[.agg (rbA f vs vl ⟨A, n, c⟩), .agg (ptA q)] w fun e w' => ∃ x : Sl, e = .returned (.agg (rbA f vs vl x)) ∧ RowB w' w.heap.size 80 13 (noH l q).length (.slice x.a x.n x.c) (rowsL (noH l q)) ∧ Below w.heap.size w w' := by
  have HB := Lib.hid (Below.refl w.heap.size w)
  have HI := Lib.hid h
  clear h
  go_enter Tryd.func33, Tryd.ntmps33
  go_upto_region 1 with (first | (refine big_alloc rfl 31 rfl (rbA (fun _ => 0) nilS nilS nilS) (by kernel_rfl) ?_; intro gK4 wK4 hlK4 nK4 hbK4; have K4 := Lib.hid nK4; have LK4 := Lib.hid (Nat.le_trans (HB.out).size hlK4); have OHIK4 := Lib.hid ((HI.out).off hlK4); have OK2K4 := Lib.hid ((K2.out).off hlK4); have OK3K4 := Lib.hid ((K3.out).off hlK4); replace HI := Lib.hid ((HI.out).keptB hbK4); replace K2 := Lib.hid ((K2.out).keptB hbK4); replace K3 := Lib.hid ((K3.out).keptB hbK4); replace HB := Lib.hid (bstep HB.out hbK4); clear hlK4 nK4 hbK4; try simp only [Act.put, List.setIfInBounds_toArray, List.set_cons_zero, List.set_cons_succ]) | (refine big_box rfl 35 _ rfl (ptA q) rfl (by kernel_rfl) ?_; intro gK3 wK3 hlK3 nK3 hbK3; have K3 := Lib.hid nK3; have LK3 := Lib.hid (Nat.le_trans (HB.out).size hlK3); have OHIK3 := Lib.hid ((HI.out).off hlK3); have OK2K3 := Lib.hid ((K2.out).off hlK3); replace HI := Lib.hid ((HI.out).keptB hbK3); replace K2 := Lib.hid ((K2.out).keptB hbK3); replace HB := Lib.hid (bstep HB.out hbK3); clear hlK3 nK3 hbK3; try simp only [Act.put, List.setIfInBounds_toArray, List.set_cons_zero, List.set_cons_succ]) | (refine big_box rfl 31 _ rfl (rbA f vs vl ⟨A, n, c⟩) rfl (by kernel_rfl) ?_; intro gK2 wK2 hlK2 nK2 hbK2; have K2 := Lib.hid nK2; have LK2 := Lib.hid (Nat.le_trans (HB.out).size hlK2); have OHIK2 := Lib.hid ((HI.out).off hlK2); replace HI := Lib.hid ((HI.out).keptB hbK2); replace HB := Lib.hid (bstep HB.out hbK2); clear hlK2 nK2 hbK2; try simp only [Act.put, List.setIfInBounds_toArray, List.set_cons_zero, List.set_cons_succ]))
  obtain ⟨B, hB⟩ := size_isH K4
  have LBK2 := Lib.hid (show gK2 < B by rw [← hB]; exact (K2.out).inside)
  have LBK3 := Lib.hid (show gK3 < B by rw [← hB]; exact (K3.out).inside)
  have LBK4 := Lib.hid (show gK4 < B by rw [← hB]; exact (K4.out).inside)
  have LBHI : Hid (∀ g o, A = some ⟨g, o, none⟩ → 0 < n → g < B) := by rw [Hid, ← hB]; exact (HI.out).low
  have HWB := Lib.hid (show w.heap.size ≤ B by rw [← hB]; exact (HB.out).size)
  have OW : Hid (RowB _ B 80 13 ([] : List Rh).length (.slice none 0 0) (rowsL ([] : List Rh))) := RowB.nil (Nat.le_of_eq hB.symm)
  have NK24 := OK2K4
  clear hB LK3 OHIK2 OHIK3 OHIK4 OK2K3 OK3K4 OK2K4
  go_wp2
  go_loopw [5, 6] (fun s i v => ∃ (k : Nat) (F : List Rh) (x : Value), k ≤ n ∧ x = s ∧ i = .int .i64 k ∧ Hid (noH (l.take k) q = F) ∧ Hid (RowB v B 80 13 F.length x (rowsL F)) ∧ Hid (RowsIn v (.slice A n c) l) ∧ Hid (Holds v gK2 31 (rbA f vs vl ⟨A, n, c⟩)) ∧ Hid (Holds v gK3 35 (ptA q)) ∧ Hid (Holds v gK4 31 (rbA (fun _ => 0) nilS nilS nilS)) ∧ Hid (Below w.heap.size w v)) (fun _ i _ => n - (intOf i).toNat)
  case atStart => exact ⟨0, [], _, by omega, rfl, rfl, Lib.hid rfl, OW, HI, K2, K3, K4, HB⟩
  case round =>
    clear OW HI K2 K3 K4 HB
    rename_i V
    obtain ⟨k, F, x, hk, hx, rfl, HF, OW, HI, K2, K3, K4, HB⟩ := hrel
    subst hx
    by_cases hlt : k < n
    · have hd : decide ((k : Int) < (n : Int)) = true := by simpa using hlt
      have HLN := Lib.hid (HI.out).len
      obtain ⟨y, hx⟩ : ∃ x, l[k]? = some x := ⟨_, List.getElem?_eq_getElem (show k < l.length by rw [HLN.out]; exact hlt)⟩
      have HXE := Lib.hid hx
      have HK := Lib.hid hlt
      obtain ⟨g, o, hA⟩ := (HI.out).lies (by omega)
      subst hA
      clear hx HLN
      have HLE : Hid (F.length ≤ k) := by
        have h1 := noH_le (l.take k) q
        have h2 : (l.take k).length ≤ k := by rw [List.length_take]; omega
        rw [Hid, ← HF.out]
        omega
      have HST := Lib.hid (noH_step (q := q) HXE.out)
      rw [HF.out] at HST
      have x18 := (K2.out).reads (i := 18) (x := .slice (some ⟨g, o, none⟩) n c) rfl
      go_upto_region 5 with fail
      clear x18
      cases hq : eqP y.p q
      · have HF2 : Hid (noH (l.take (k + 1)) q = F ++ [y]) := by rw [Hid, HST.out, hq]; simp
        have HQ := Lib.hid hq
        clear hq
        refine wp_region_noPanic ?_
        refine wp_region_held_drew (S := fun v => Below w.heap.size w v ∧ RowsIn v (.slice (some ⟨g, o, none⟩) n c) l ∧ Holds v gK2 31 (rbA f vs vl ⟨some ⟨g, o, none⟩, n, c⟩) ∧ Holds v gK3 35 (ptA q) ∧ RowB v B 80 13 F.length x (rowsL F) ∧ Holds v gK4 31 (rbA (fun _ => 0) nilS nilS nilS) ∧ True) (by kernel_rfl) ?_ (fun hHeld => ?_)
        · exact ⟨bdrew HB.out, (HI.out).drew, (K2.out).drew, (K3.out).drew, (OW.out).drew, (K4.out).drew, trivial⟩
        clear HB HI K2 K3 OW K4
        refine wpAnyH_take (i := 0) (v := .pointer (some ⟨gK2, 18, none⟩)) (at_list rfl) (by kernel_rfl) (by kernel_rfl) (by kernel_rfl) (fun _ _ _ h => h) (Or.inl ⟨by rfl, ?_⟩) hHeld ?_
        · intro v hSv
          clear hHeld
          go_simp
        try simp only [Act.put, List.setIfInBounds_toArray, List.set_cons_zero, List.set_cons_succ]
        refine wpAnyH_take (i := 1) (v := .slice (some ⟨g, o, none⟩) n c) (at_list rfl) (by kernel_rfl) (by kernel_rfl) (by kernel_rfl) (fun _ _ _ h => h) (Or.inl ⟨by rfl, ?_⟩) hHeld ?_
        · intro v hSv
          clear hHeld
          have q := Holds.reads (hSv.2.2.1) (i := 18) (x := .slice (some ⟨g, o, none⟩) n c) rfl
          clear hSv
          go_simp
        try simp only [Act.put, List.setIfInBounds_toArray, List.set_cons_zero, List.set_cons_succ]
        refine wpAnyH_take (i := 2) (v := .int .i64 k) (at_list rfl) (by kernel_rfl) (by kernel_rfl) (by kernel_rfl) (fun _ _ _ h => h) (Or.inl ⟨by rfl, ?_⟩) hHeld ?_
        · intro v hSv
          clear hHeld
          go_simp
        try simp only [Act.put, List.setIfInBounds_toArray, List.set_cons_zero, List.set_cons_succ]
        refine wpAnyH_take (i := 3) (v := .pointer (some ⟨g, o + k * 13, none⟩)) (at_list rfl) (by kernel_rfl) (by kernel_rfl) (by kernel_rfl) (fun _ _ _ h => h) (yields_index (by rfl) 29 _ _ rfl g o n c k 13 rfl rfl HK.out Tryd.underlying29 (by kernel_rfl)) hHeld ?_
        try simp only [Act.put, List.setIfInBounds_toArray, List.set_cons_zero, List.set_cons_succ]
        refine wpAnyH_take (i := 4) (v := .pointer (some ⟨g, o + k * 13, none⟩)) (at_list rfl) (by kernel_rfl) (by kernel_rfl) (by kernel_rfl) (fun _ _ _ h => h) (Or.inl ⟨by rfl, ?_⟩) hHeld ?_
        · intro v hSv
          clear hHeld
          go_simp
        try simp only [Act.put, List.setIfInBounds_toArray, List.set_cons_zero, List.set_cons_succ]
        refine wpAnyH_take (i := 5) (v := .agg (ptA y.p)) (at_list rfl) (by kernel_rfl) (by kernel_rfl) (by kernel_rfl) (fun _ _ _ h => h) (yieldsIf_load_mid (by rfl) 35 _ rfl g (o + k * 13) rfl (ptA y.p).toList _ (fun v hv => hal_port (hv.2.1) HXE.out) Tryd.underlying35 rfl (by kernel_rfl)) hHeld ?_
        try simp only [Act.put, List.setIfInBounds_toArray, List.set_cons_zero, List.set_cons_succ]
        refine wpAnyH_take (i := 6) (v := .agg (ptA q)) (at_list rfl) (by kernel_rfl) (by kernel_rfl) (by kernel_rfl) (fun _ _ _ h => h) (yields_whole (by rfl) 35 _ rfl gK3 rfl (fun v hv => hv.2.2.2.1) Tryd.underlying35 rfl (by kernel_rfl)) hHeld ?_
        try simp only [Act.put, List.setIfInBounds_toArray, List.set_cons_zero, List.set_cons_succ]
        refine wpAnyH_take (i := 7) (v := .bool true) (at_list rfl) (by kernel_rfl) (by kernel_rfl) (by kernel_rfl) (fun _ _ _ h => h) (yields_cmp (by rfl) .neq 35 _ _ _ rfl (ptA y.p) (ptA q) rfl rfl (by kernel_rfl) true (fun v => (neq_port y.p q v).trans (by rw [HQ.out]; rfl))) hHeld ?_
        try simp only [Act.put, List.setIfInBounds_toArray, List.set_cons_zero, List.set_cons_succ]
        refine wpAnyH_done (by kernel_rfl) ?_ _
        refine NoPanic.normal ?_
        have HB := Lib.hid hHeld.1
        have HI := Lib.hid hHeld.2.1
        have K2 := Lib.hid hHeld.2.2.1
        have K3 := Lib.hid hHeld.2.2.2.1
        have OW := Lib.hid hHeld.2.2.2.2.1
        have K4 := Lib.hid hHeld.2.2.2.2.2.1
        clear hHeld
        have x18 := (K2.out).reads (i := 18) (x := .slice (some ⟨g, o, none⟩) n c) rfl
        go_wp2_with (first | (refine big_append rfl _ _ 29 80 rfl _ 13 48 Tryd.underlying29 info_rh rfl (by omega) (by omega) B rfl OW.out gK9 1 (rhA y).toList rfl rfl ((K9.out).range (by kernel_rfl)) (by kernel_rfl) (by omega) (by have := HLE.out; omega) ?_; intro x2 w9 ow9 hg9 hn9; replace HI := Lib.hid ((HI.out).grown hg9 (fun g2 o2 h2 h3 => (OW.out).ne ((LBHI.out) g2 o2 h2 h3))); replace K2 := Lib.hid ((K2.out).grown hg9 ((OW.out).ne LBK2.out)); replace K3 := Lib.hid ((K3.out).grown hg9 ((OW.out).ne LBK3.out)); replace K4 := Lib.hid ((K4.out).grown hg9 ((OW.out).ne LBK4.out)); replace HB := Lib.hid ((OW.out).hb HWB.out HB.out hg9); replace OW := Lib.hid ow9; clear ow9 hg9 hn9 K9; try simp only [Act.put, List.setIfInBounds_toArray, List.set_cons_zero, List.set_cons_succ]) | (refine big_slices rfl 29 80 1 _ rfl (rhA y) 13 Tryd.underlying29 rfl rfl rfl (of_decide_eq_true (by kernel_rfl)) (of_decide_eq_true (by kernel_rfl)) (by kernel_rfl) ?_; intro gK9 wK9 hlK9 nK9 hbK9; have K9 := Lib.hid nK9; replace OW := Lib.hid ((OW.out).keptB hbK9); replace HI := Lib.hid ((HI.out).keptB hbK9); replace K2 := Lib.hid ((K2.out).keptB hbK9); replace K3 := Lib.hid ((K3.out).keptB hbK9); replace K4 := Lib.hid ((K4.out).keptB hbK9); replace HB := Lib.hid (bstep HB.out hbK9); clear hlK9 nK9 hbK9; try simp only [Act.put, List.setIfInBounds_toArray, List.set_cons_zero, List.set_cons_succ]) | (refine big_loadAt rfl 80 _ rfl g (o + k * 13) rfl (rhA y) (hal_at HI.out HXE.out) Tryd.underlying80 rfl (by kernel_rfl) ?_; try simp only [Act.put, List.setIfInBounds_toArray, List.set_cons_zero, List.set_cons_succ]) | (refine big_index rfl 29 _ _ rfl g o n c k 13 rfl rfl HK.out Tryd.underlying29 (by kernel_rfl) ?_; try simp only [Act.put, List.setIfInBounds_toArray, List.set_cons_zero, List.set_cons_succ]))
        replace OW := Lib.hid (rh_snoc OW.out)
        go_roundw
        case rel => exact ⟨k + 1, (F ++ [y]), _, by omega, rfl, by go_num, HF2, OW, HI, K2, K3, K4, HB⟩
        case measure => simp [intOf]; omega
      · have HF2 : Hid (noH (l.take (k + 1)) q = F) := by rw [Hid, HST.out, hq]; simp
        have HQ := Lib.hid hq
        clear hq
        refine wp_region_noPanic ?_
        refine wp_region_held_drew (S := fun v => Below w.heap.size w v ∧ RowsIn v (.slice (some ⟨g, o, none⟩) n c) l ∧ Holds v gK2 31 (rbA f vs vl ⟨some ⟨g, o, none⟩, n, c⟩) ∧ Holds v gK3 35 (ptA q) ∧ RowB v B 80 13 F.length x (rowsL F) ∧ Holds v gK4 31 (rbA (fun _ => 0) nilS nilS nilS) ∧ True) (by kernel_rfl) ?_ (fun hHeld => ?_)
        · exact ⟨bdrew HB.out, (HI.out).drew, (K2.out).drew, (K3.out).drew, (OW.out).drew, (K4.out).drew, trivial⟩
        clear HB HI K2 K3 OW K4
        refine wpAnyH_take (i := 0) (v := .pointer (some ⟨gK2, 18, none⟩)) (at_list rfl) (by kernel_rfl) (by kernel_rfl) (by kernel_rfl) (fun _ _ _ h => h) (Or.inl ⟨by rfl, ?_⟩) hHeld ?_
        · intro v hSv
          clear hHeld
          go_simp
        try simp only [Act.put, List.setIfInBounds_toArray, List.set_cons_zero, List.set_cons_succ]
        refine wpAnyH_take (i := 1) (v := .slice (some ⟨g, o, none⟩) n c) (at_list rfl) (by kernel_rfl) (by kernel_rfl) (by kernel_rfl) (fun _ _ _ h => h) (Or.inl ⟨by rfl, ?_⟩) hHeld ?_
        · intro v hSv
          clear hHeld
          have q := Holds.reads (hSv.2.2.1) (i := 18) (x := .slice (some ⟨g, o, none⟩) n c) rfl
          clear hSv
          go_simp
        try simp only [Act.put, List.setIfInBounds_toArray, List.set_cons_zero, List.set_cons_succ]
        refine wpAnyH_take (i := 2) (v := .int .i64 k) (at_list rfl) (by kernel_rfl) (by kernel_rfl) (by kernel_rfl) (fun _ _ _ h => h) (Or.inl ⟨by rfl, ?_⟩) hHeld ?_
        · intro v hSv
          clear hHeld
          go_simp
        try simp only [Act.put, List.setIfInBounds_toArray, List.set_cons_zero, List.set_cons_succ]
        refine wpAnyH_take (i := 3) (v := .pointer (some ⟨g, o + k * 13, none⟩)) (at_list rfl) (by kernel_rfl) (by kernel_rfl) (by kernel_rfl) (fun _ _ _ h => h) (yields_index (by rfl) 29 _ _ rfl g o n c k 13 rfl rfl HK.out Tryd.underlying29 (by kernel_rfl)) hHeld ?_
        try simp only [Act.put, List.setIfInBounds_toArray, List.set_cons_zero, List.set_cons_succ]
        refine wpAnyH_take (i := 4) (v := .pointer (some ⟨g, o + k * 13, none⟩)) (at_list rfl) (by kernel_rfl) (by kernel_rfl) (by kernel_rfl) (fun _ _ _ h => h) (Or.inl ⟨by rfl, ?_⟩) hHeld ?_
        · intro v hSv
          clear hHeld
          go_simp
        try simp only [Act.put, List.setIfInBounds_toArray, List.set_cons_zero, List.set_cons_succ]
        refine wpAnyH_take (i := 5) (v := .agg (ptA y.p)) (at_list rfl) (by kernel_rfl) (by kernel_rfl) (by kernel_rfl) (fun _ _ _ h => h) (yieldsIf_load_mid (by rfl) 35 _ rfl g (o + k * 13) rfl (ptA y.p).toList _ (fun v hv => hal_port (hv.2.1) HXE.out) Tryd.underlying35 rfl (by kernel_rfl)) hHeld ?_
        try simp only [Act.put, List.setIfInBounds_toArray, List.set_cons_zero, List.set_cons_succ]
        refine wpAnyH_take (i := 6) (v := .agg (ptA q)) (at_list rfl) (by kernel_rfl) (by kernel_rfl) (by kernel_rfl) (fun _ _ _ h => h) (yields_whole (by rfl) 35 _ rfl gK3 rfl (fun v hv => hv.2.2.2.1) Tryd.underlying35 rfl (by kernel_rfl)) hHeld ?_
        try simp only [Act.put, List.setIfInBounds_toArray, List.set_cons_zero, List.set_cons_succ]
        refine wpAnyH_take (i := 7) (v := .bool false) (at_list rfl) (by kernel_rfl) (by kernel_rfl) (by kernel_rfl) (fun _ _ _ h => h) (yields_cmp (by rfl) .neq 35 _ _ _ rfl (ptA y.p) (ptA q) rfl rfl (by kernel_rfl) false (fun v => (neq_port y.p q v).trans (by rw [HQ.out]; rfl))) hHeld ?_
        try simp only [Act.put, List.setIfInBounds_toArray, List.set_cons_zero, List.set_cons_succ]
        refine wpAnyH_done (by kernel_rfl) ?_ _
        refine NoPanic.normal ?_
        have HB := Lib.hid hHeld.1
        have HI := Lib.hid hHeld.2.1
        have K2 := Lib.hid hHeld.2.2.1
        have K3 := Lib.hid hHeld.2.2.2.1
        have OW := Lib.hid hHeld.2.2.2.2.1
        have K4 := Lib.hid hHeld.2.2.2.2.2.1
        clear hHeld
        go_wp2
        go_roundw
        case rel => exact ⟨k + 1, F, _, by omega, rfl, by go_num, HF2, OW, HI, K2, K3, K4, HB⟩
        case measure => simp [intOf]; omega
    · have hd : decide ((k : Int) < (n : Int)) = false := by simpa using hlt
      obtain rfl : k = n := by omega
      have x18 := (K2.out).reads (i := 18) (x := .slice A k c) rfl
      rw [List.take_of_length_le (by rw [(HI.out).len]; omega)] at HF
      obtain rfl := HF.out
      clear HI
      obtain ⟨A2, n2, c2, rfl⟩ := (OW.out).form_
      go_upto_region 7 with fail
      clear x18
      go_wp2_with (first | (refine big_fill rfl 31 _ _ rfl gK4 (rbA f vs vl ⟨A2, n2, c2⟩) rfl rfl K4.out (by kernel_rfl) (by kernel_rfl) (by kernel_rfl) ?_; intro vK4 nK4 htK4; replace OW := Lib.hid ((OW.out).touch htK4 ((OW.out).ne LBK4.out)); replace HB := Lib.hid (btouch HB.out htK4 LK4.out); replace K4 := Lib.hid nK4; clear nK4 htK4; try simp only [Act.put, List.setIfInBounds_toArray, List.set_cons_zero, List.set_cons_succ]) | (refine big_set rfl 29 _ _ rfl gK2 18 (.slice A2 n2 c2) rfl rfl K2.out (by kernel_rfl) rfl rfl (of_decide_eq_true (by kernel_rfl)) (rbA f vs vl ⟨A2, n2, c2⟩) (by kernel_rfl) ?_; intro vK2 nK2 htK2; replace OW := Lib.hid ((OW.out).touch htK2 ((OW.out).ne LBK2.out)); replace HB := Lib.hid (btouch HB.out htK2 LK2.out); replace K4 := Lib.hid ((K4.out).touch htK2 (Ne.symm NK24.out)); replace K2 := Lib.hid nK2; clear nK2 htK2; try simp only [Act.put, List.setIfInBounds_toArray, List.set_cons_zero, List.set_cons_succ]) | (refine big_whole rfl 31 _ rfl gK2 rfl K2.out Tryd.underlying31 rfl (by kernel_rfl) ?_; try simp only [Act.put, List.setIfInBounds_toArray, List.set_cons_zero, List.set_cons_succ]))
      refine bodyPost_ret (v := .agg (rbA f vs vl ⟨A2, n2, c2⟩)) (results_cell_row rfl _ _ gK4 _ _ (0, 0) _ rfl K4.out Tryd.underlying31 rfl (by kernel_rfl)) rfl ⟨⟨A2, n2, c2⟩, rfl, (OW.out).weaken HWB.out, HB.out⟩

end Go.Proofs.YtpbfnmokhmioaaaDoor
