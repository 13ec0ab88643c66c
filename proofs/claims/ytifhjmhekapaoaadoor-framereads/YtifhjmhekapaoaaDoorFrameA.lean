/- Parts of this proof, one behind the other: FrameTake, FrameReadAnn, FrameRead. -/
import Derived.Test.YtifhjmhekapaoaaDoorBigAll
import Derived.Test.YtifhjmhekapaoaaDoorBytes
import Derived.Test.YtifhjmhekapaoaaDoorHeadForm
import Derived.Deep.Draws
import Derived.Shelf.Abstract
import Derived.Test.YtifhjmhekapaoaaDoorFrameMath
import Derived.Test.YtifhjmhekapaoaaDoorByHand
import Derived.Test.YtifhjmhekapaoaaDoorStampAll
import Derived.Test.YtifhjmhekapaoaaDoorIdentPut
import Derived.Test.YtifhjmhekapaoaaDoorFrameB

/- The walks over frame's closures that give a body's bytes away piece by piece. -/
namespace Go.Proofs.YtifhjmhekapaoaaDoor
set_option maxRecDepth 100000
open Go.RowKit
set_option linter.unusedVariables false

/-- the variable at g holds what is left of L bytes at a behind the first k -/
def Body (w : World) (g : Nat) (a : Addr) (k L C : Nat) : Prop := ∃ X, Holds w g 22 #[.slice (some X) (L - k) (C - k)] ∧ (k < C → X = a.add k)
theorem Body.holds {w : World} {g k L C : Nat} {a : Addr} (h : Body w g a k L C) (hk : k < C) : Holds w g 22 #[.slice (some (a.add k)) (L - k) (C - k)] := by
  obtain ⟨X, h1, h2⟩ := h
  rw [← h2 hk]; exact h1
theorem Body.inside {w : World} {g k L C : Nat} {a : Addr} (h : Body w g a k L C) : g < w.heap.size := by
  obtain ⟨X, h1, _⟩ := h
  exact h1.inside
theorem Body.keptB {w v : World} {g k L C : Nat} {a : Addr} (h : Body w g a k L C) (hb : Below w.heap.size w v) : Body v g a k L C := by
  obtain ⟨X, h1, h2⟩ := h
  exact ⟨X, h1.keptB hb, h2⟩
theorem Body.touch {w v : World} {g g' k L C : Nat} {a : Addr} (h : Body w g a k L C) (hb : Touch g' w v) (hg : g ≠ g') : Body v g a k L C := by
  obtain ⟨X, h1, h2⟩ := h
  exact ⟨X, h1.touch hb hg, h2⟩
/-- how a piece is taken: the function's value, its variable at g -/
def takeF (g : Nat) : Value := .func (.func 68) #[] #[.pointer (some ⟨g, 0, none⟩)]
def oneF (g : Nat) : Value := .func (.func 72) #[] #[.pointer (some ⟨g, 0, none⟩)]
def twoF (g : Nat) : Value := .func (.func 73) #[] #[.pointer (some ⟨g, 0, none⟩)]

theorem taker_any (a : Addr) (L C : Nat) (w : World) :
    Calls Tryd.prog 49 #[.slice (some (a.add 34)) (L - 34) (C - 34)] w fun e w' => ∃ g, w.heap.size ≤ g ∧ e = .returned (.func (.func 68) #[] #[.pointer (some ⟨g, 0, none⟩)]) ∧ Body w' g a 34 L C ∧ Below w.heap.size w w' := by
  go_enter Tryd.func49, Tryd.ntmps49
  go_wp2
  go_ret
  exact ⟨w.heap.size, Nat.le_refl _, rfl, ⟨_, Holds.fresh w _ _ rfl, fun _ => rfl⟩, bnew _ _⟩

theorem take_step {a : Addr} {k n L C : Nat} (hn : k + n ≤ L) (hC : L ≤ C) (h0 : 0 < n) : ∃ X, sliced (some (a.add k)) n (L - k) (C - k) 1 = .slice (some X) (L - (k + n)) (C - (k + n)) ∧ (k + n < C → X = a.add (k + n)) := by
  unfold sliced
  by_cases h : C - k = n
  · refine ⟨a.add k, ?_, fun h2 => by omega⟩
    rw [if_pos h, show L - k - n = L - (k + n) by omega, show C - k - n = C - (k + n) by omega]
  · refine ⟨a.add (k + n), ?_, fun _ => rfl⟩
    rw [if_neg h, show L - k - n = L - (k + n) by omega, show C - k - n = C - (k + n) by omega, Nat.mul_one]
    show Value.slice (some ((a.add k).add n)) _ _ = _
    rw [add_add]

set_option maxHeartbeats 1000000 in
theorem take_any (g : Nat) (a : Addr) (k n L C : Nat) (w : World) (hb : Body w g a k L C) (hn : k + n ≤ L) (hC : L ≤ C) (hM : C ≤ maxLen) (h0 : 0 < n) :
    Calls Tryd.prog 68 #[.int .i64 (n : Int), .pointer (some ⟨g, 0, none⟩)] w fun e w' => e = .returned (.slice (some (a.add k)) n (C - k)) ∧ Body w' g a (k + n) L C ∧ Touch g w w' := by
  have K1 := Lib.hid (hb.holds (by omega))
  have x0 := (K1.out).reads (i := 0) (x := .slice (some (a.add k)) (L - k) (C - k)) rfl
  obtain ⟨X, hX, hX2⟩ := take_step (a := a) hn hC h0
  have HX := Lib.hid hX2
  have HS : Hid (∀ v, (Instr.sliceAt 22 (.slice (some (a.add k)) (L - k) (C - k)) (some (.int .i64 (n : Int))) none none).run Tryd.prog v = .ok (.slice (some X) (L - (k + n)) (C - (k + n))) v) := by
    intro v
    rw [run_sliceAt_slice _ _ _ _ _ _ (by kernel_rfl), run_slice_l v _ _ _ _ (by kernel_rfl) .i64 (n : Int) (by omega) (by omega), ← hX]
    rfl
  have HS2 : Hid (∀ v, (Instr.sliceAt 22 (.slice (some (a.add k)) (L - k) (C - k)) none (some (.int .i64 (n : Int))) none).run Tryd.prog v = .ok (.slice (some (a.add k)) n (C - k)) v) := by
    intro v
    rw [run_sliceAt_slice _ _ _ _ _ _ (by kernel_rfl), run_slice_h v _ _ _ _ (by kernel_rfl) .i64 (n : Int) (by omega) (by omega)]
    show Result.ok (sliced _ _ _ _ _) v = _
    unfold sliced
    rw [if_neg (by omega)]
    rfl
  have hs1 := HS.out
  have hs2 := HS2.out
  clear hX hX2 HS HS2 hb
  have hl1 : (n : Int) ≤ ((L - k : Nat) : Int) := by omega
  go_enter Tryd.func68, Tryd.ntmps68
  go_wp2_with (refine big_set rfl 22 _ _ rfl g 0 (.slice (some X) (L - (k + n)) (C - (k + n))) rfl rfl K1.out (by kernel_rfl) rfl rfl (of_decide_eq_true (by kernel_rfl)) #[.slice (some X) (L - (k + n)) (C - (k + n))] rfl ?_; intro w1 n1 t1; have K2 := Lib.hid n1; have KT := Lib.hid t1; clear n1 t1)
  go_ret
  exact ⟨rfl, ⟨X, K2.out, HX.out⟩, KT.out⟩

theorem Touch.trans {g : Nat} {u v w : World} (h : Touch g u v) (k : Touch g v w) : Touch g u w :=
  ⟨k.os.trans h.os, k.tape.trans h.tape, k.output.trans h.output, k.size.trans h.size, fun i hi => (k.block i hi).trans (h.block i hi)⟩
set_option maxHeartbeats 1000000 in
theorem fone_any (gt g : Nat) (t : TypeId) (a : Addr) (k L C : Nat) (zs : List Int) (w : World) (ht : Holds w gt t #[takeF g]) (hb : Body w g a k L C) (hn : k + 1 ≤ L) (hC : L ≤ C) (hM : C ≤ maxLen) (hz : zs.length = L) (hc : BytesAt w a zs) (hg : a.block ≠ g) (hby : ∀ z ∈ zs, isByte z) :
    Calls Tryd.prog 72 #[.pointer (some ⟨gt, 0, none⟩)] w fun e w' => e = .returned (.int .i64 (zs.getD k 0)) ∧ Body w' g a (k + 1) L C ∧ Touch g w w' := by
  have x0 := ht.reads (i := 0) (x := .func (.func 68) #[] #[.pointer (some ⟨g, 0, none⟩)]) rfl
  have CT := Lib.hid (take_any g a k 1 L C w hb hn hC hM (by omega))
  have HC := Lib.hid hc
  have hzb := getD_byte hby k
  unfold isByte at hzb
  have hcap : 1 ≤ C - k := by omega
  clear ht hb hc hby
  obtain ⟨z, hz1⟩ : ∃ z, zs.getD k 0 = z := ⟨_, rfl⟩
  rw [hz1] at hzb ⊢
  have HZ := Lib.hid hz1
  clear hz1
  obtain ⟨z0, z1⟩ := hzb
  go_enter Tryd.func72, Tryd.ntmps72
  go_wp2_with fail
  refine (CT.out).mono ?_
  rintro e w1 ⟨rfl, hb1, ht1⟩
  have HB1 := Lib.hid hb1
  have HT1 := Lib.hid ht1
  have hcell : w1.cell? (a.add k) = some (.int .u8 z) := by
    rw [← HZ.out]
    exact (HC.out).touch ht1 hg k (by omega)
  clear hb1 ht1 x0 CT HC
  go_wp2
  go_ret
  exact ⟨rfl, HB1.out, HT1.out⟩
set_option maxHeartbeats 1000000 in
theorem ftwo_any (go gt g : Nat) (t t2 : TypeId) (a : Addr) (k L C : Nat) (zs : List Int) (w : World) (ho : Holds w go t2 #[oneF gt]) (ht : Holds w gt t #[takeF g]) (hb : Body w g a k L C) (hn : k + 2 ≤ L) (hC : L ≤ C) (hM : C ≤ maxLen) (hz : zs.length = L) (hc : BytesAt w a zs) (hg : a.block ≠ g) (hgo : go ≠ g) (hgt : gt ≠ g) (hby : ∀ z ∈ zs, isByte z) :
    Calls Tryd.prog 73 #[.pointer (some ⟨go, 0, none⟩)] w fun e w' => e = .returned (.int .i64 (zs.getD k 0 * 256 + zs.getD (k + 1) 0)) ∧ Body w' g a (k + 2) L C ∧ Touch g w w' := by
  have x0 := ho.reads (i := 0) (x := .func (.func 72) #[] #[.pointer (some ⟨gt, 0, none⟩)]) rfl
  have C1 := Lib.hid (fone_any gt g t a k L C zs w ht hb (by omega) hC hM hz hc hg hby)
  have HO := Lib.hid ho
  have HT := Lib.hid ht
  have HC := Lib.hid hc
  have HN := Lib.hid hby
  have hzb := getD_byte hby k
  have hzc := getD_byte hby (k + 1)
  unfold isByte at hzb hzc
  clear ho ht hb hc hby
  obtain ⟨z, hz1⟩ : ∃ z, zs.getD k 0 = z := ⟨_, rfl⟩
  obtain ⟨y, hy1⟩ : ∃ z, zs.getD (k + 1) 0 = z := ⟨_, rfl⟩
  rw [hz1] at C1 hzb ⊢
  rw [hy1] at hzc ⊢
  have HY := Lib.hid hy1
  clear hz1 hy1
  obtain ⟨z0, z1⟩ := hzb
  obtain ⟨y0, y1⟩ := hzc
  have hor := i64_or_join z y z0 (by omega) y0 y1
  go_enter Tryd.func73, Tryd.ntmps73
  go_wp2_with fail
  refine (C1.out).mono ?_
  rintro e w1 ⟨rfl, hb1, ht1⟩
  have C2 := Lib.hid (fone_any gt g t a (k + 1) L C zs w1 ((HT.out).touch ht1 hgt) hb1 (by omega) hC hM hz ((HC.out).touch ht1 hg) hg HN.out)
  have HT1 := Lib.hid ht1
  have x1 := ((HO.out).touch ht1 hgo).reads (i := 0) (x := .func (.func 72) #[] #[.pointer (some ⟨gt, 0, none⟩)]) rfl
  rw [HY.out] at C2
  clear hb1 ht1 x0 C1 HC HO HT HN
  go_wp2_with fail
  refine (C2.out).mono ?_
  rintro e w2 ⟨rfl, hb2, ht2⟩
  have HB2 := Lib.hid hb2
  have HT2 := Lib.hid (HT1.out.trans ht2)
  clear hb2 ht2 x1 C2 HT1
  go_wp2
  go_ret
  exact ⟨rfl, HB2.out, HT2.out⟩

end Go.Proofs.YtifhjmhekapaoaaDoor

/- The walk over frame.readAnnounced. -/
namespace Go.Proofs.YtifhjmhekapaoaaDoor
set_option maxRecDepth 100000
open Go.RowKit
set_option linter.unusedVariables false

theorem body_drew {w : World} {g k L C : Nat} {a : Addr} (h : Body w g a k L C) : Body w.drew g a k L C := by
  obtain ⟨X, h1, h2⟩ := h
  exact ⟨X, h1.drew, h2⟩
theorem i16_sg2 {x y : Int} (hx : isByte x) (hy : isByte y) : wrap64 (IntKind.i16.wrap (x * 256 + y)) = sg2 (x * 256 + y) := by
  unfold isByte at hx hy
  have e : IntKind.i16.wrap (x * 256 + y) = sg2 (x * 256 + y) := by
    simp only [IntKind.wrap, IntKind.bits, IntKind.signed]
    unfold sg2
    simp
    split <;> split <;> omega
  rw [e]
  unfold sg2 wrap64
  split <;> omega
theorem ck_news {w : World} {a : Addr} {zs : List Int} (h : BytesAt w a zs) (hz : 61 ≤ zs.length) : ∀ j v, ((ckOf zs 53).l.map (Value.int .u8))[j]? = some v → w.cell? ((a.add 53).add j) = some v := by
  intro j v hv
  have hj : j < 8 := by
    have := (List.getElem?_eq_some_iff.1 hv).1
    simpa [Ck.l] using this
  rw [add_add, h (53 + j) (by omega)]
  match j, hj, hv with
  | 0, _, hv => exact hv
  | 1, _, hv => exact hv
  | 2, _, hv => exact hv
  | 3, _, hv => exact hv
  | 4, _, hv => exact hv
  | 5, _, hv => exact hv
  | 6, _, hv => exact hv
  | 7, _, hv => exact hv
set_option maxHeartbeats 4000000 in
theorem readAnn_any (gM gB : Nat) (a : Addr) (L C : Nat) (zs : List Int) (hd : Hd) (ts tn : Int) (w : World) (hm : Holds w gM 49 (msA (⟨hd, ts, tn, zeroP, 0, 0, 0, 0, 0, 0, zeroC, 0, zeroP, zeroP, 0⟩ : Ms))) (hb : Body w gB a 44 L C) (hL : 64 ≤ L) (hC : L ≤ C) (hM : C ≤ maxLen) (hz : zs.length = L) (hc : BytesAt w a zs) (hby : ∀ z ∈ zs, isByte z) (hab : a.block ≠ gB) (ham : a.block ≠ gM) (hmb : gM ≠ gB) :
    Calls Tryd.prog 67 #[.pointer (some ⟨gM, 0, none⟩), takeF gB] w fun e w' => e = .returned (.bool (zs.getD 46 0 == 0)) ∧ Holds w' gM 49 (msA (⟨hd, ts, tn, zeroP, sg2 (zs.getD 44 0 * 256 + zs.getD 45 0), zs.getD 47 0, zs.getD 52 0, zs.getD 48 0, zs.getD 49 0, zs.getD 50 0 * 256 + zs.getD 51 0, ckOf zs 53, zs.getD 61 0 * 256 + zs.getD 62 0, hd.p, zeroP, zs.getD 63 0⟩ : Ms)) ∧ Only [gM, gB] w.heap.size w w' := by
  have HB := Lib.hid (Only.refl [gM, gB] w.heap.size w)
  have KM := Lib.hid hm
  have BD := Lib.hid hb
  have BA := Lib.hid hc
  have HN := Lib.hid hby
  have HAB := Lib.hid hab
  have HAM := Lib.hid ham
  have HMB := Lib.hid hmb
  have HBM := Lib.hid (Ne.symm hmb)
  rw [← i16_sg2 (getD_byte hby 44) (getD_byte hby 45)]
  clear hm hb hc hby hab ham hmb
  go_enter Tryd.func67, Tryd.ntmps67
  go_wp2_with (first | (refine big_set rfl _ _ _ rfl gO 0 (oneF gT) rfl rfl KO.out (by kernel_rfl) rfl rfl (of_decide_eq_true (by kernel_rfl)) #[oneF gT] rfl ?_; intro uO nO tO; replace KO := Lib.hid nO; replace KM := Lib.hid ((KM.out).touch tO (Ne.symm HOM.out)); replace KT := Lib.hid ((KT.out).touch tO HOT.out); replace BD := Lib.hid ((BD.out).touch tO (Ne.symm HOB.out)); replace BA := Lib.hid ((BA.out).touch tO HAO.out); replace HB := Lib.hid ((HB.out).touch tO (fun h => by have := LO.out; omega)); clear nO tO) | (refine big_alloc1 rfl _ rfl .nilFunc (by kernel_rfl) rfl ?_; intro gO wO hlO nKO hbKO; have HOB := Lib.hid (show gO ≠ gB by have := (BD.out).inside; omega); have HOM := Lib.hid (show gO ≠ gM by have := (KM.out).inside; omega); have HOT := Lib.hid (show gT ≠ gO by have := (KT.out).inside; omega); have LO := Lib.hid (show w.heap.size ≤ gO from Nat.le_trans (HB.out).size hlO); have HAO := Lib.hid (show a.block ≠ gO by have := (BA.out).inside (by omega); omega); replace KM := Lib.hid ((KM.out).keptB hbKO); replace KT := Lib.hid ((KT.out).keptB hbKO); have KO := Lib.hid nKO; replace BD := Lib.hid ((BD.out).keptB hbKO); replace BA := Lib.hid ((BA.out).keptB hbKO); replace HB := Lib.hid ((HB.out).step hbKO); clear nKO hbKO hlO) | (refine big_box1 rfl _ _ rfl (takeF gB) rfl rfl ?_; intro gT wT hlT nKT hbKT; have HTB := Lib.hid (show gT ≠ gB by have := (BD.out).inside; omega); have HTM := Lib.hid (show gT ≠ gM by have := (KM.out).inside; omega); have LT := Lib.hid (show w.heap.size ≤ gT from hlT); replace KM := Lib.hid ((KM.out).keptB hbKT); have KT := Lib.hid nKT; replace BD := Lib.hid ((BD.out).keptB hbKT); replace BA := Lib.hid ((BA.out).keptB hbKT); replace HB := Lib.hid ((HB.out).step hbKT); clear nKT hbKT hlT))
  refine (ftwo_any gO gT gB _ _ a 44 L C zs _ KO.out KT.out BD.out (by omega) hC hM hz BA.out HAB.out HOB.out HTB.out HN.out).mono ?_
  rintro e w1 ⟨rfl, hbw1, htw1⟩
  replace BD := Lib.hid hbw1
  replace KM := Lib.hid ((KM.out).touch htw1 HMB.out)
  replace KT := Lib.hid ((KT.out).touch htw1 HTB.out)
  replace KO := Lib.hid ((KO.out).touch htw1 HOB.out)
  replace BA := Lib.hid ((BA.out).touch htw1 HAB.out)
  replace HB := Lib.hid ((HB.out).touch htw1 (fun _ => by simp))
  clear hbw1 htw1
  go_wp2_with ((refine big_set rfl 3 _ _ rfl gM 26 (.int .i64 (wrap64 (IntKind.i16.wrap (zs.getD 44 0 * 256 + zs.getD 45 0)))) rfl rfl KM.out (by kernel_rfl) rfl rfl (of_decide_eq_true (by kernel_rfl)) (msA (⟨hd, ts, tn, zeroP, wrap64 (IntKind.i16.wrap (zs.getD 44 0 * 256 + zs.getD 45 0)), 0, 0, 0, 0, 0, zeroC, 0, zeroP, zeroP, 0⟩ : Ms)) (by kernel_rfl) ?_; intro u26 nM tM; replace KM := Lib.hid nM; replace KT := Lib.hid ((KT.out).touch tM HTM.out); replace KO := Lib.hid ((KO.out).touch tM HOM.out); replace BD := Lib.hid ((BD.out).touch tM HBM.out); replace BA := Lib.hid ((BA.out).touch tM HAM.out); replace HB := Lib.hid ((HB.out).touch tM (fun _ => by simp)); clear nM tM; have x0 := (KO.out).reads (i := 0) (x := .func (.func 72) #[] #[.pointer (some ⟨gT, 0, none⟩)]) rfl))
  refine (fone_any gT gB _ a 46 L C zs _ KT.out BD.out (by omega) hC hM hz BA.out HAB.out HN.out).mono ?_
  rintro e w2 ⟨rfl, hbw2, htw2⟩
  replace BD := Lib.hid hbw2
  replace KM := Lib.hid ((KM.out).touch htw2 HMB.out)
  replace KT := Lib.hid ((KT.out).touch htw2 HTB.out)
  replace KO := Lib.hid ((KO.out).touch htw2 HOB.out)
  replace BA := Lib.hid ((BA.out).touch htw2 HAB.out)
  replace HB := Lib.hid ((HB.out).touch htw2 (fun _ => by simp))
  clear hbw2 htw2
  clear x0
  have x0 := (KO.out).reads (i := 0) (x := .func (.func 72) #[] #[.pointer (some ⟨gT, 0, none⟩)]) rfl
  go_wp2_with fail
  refine (fone_any gT gB _ a 47 L C zs _ KT.out BD.out (by omega) hC hM hz BA.out HAB.out HN.out).mono ?_
  rintro e w3 ⟨rfl, hbw3, htw3⟩
  replace BD := Lib.hid hbw3
  replace KM := Lib.hid ((KM.out).touch htw3 HMB.out)
  replace KT := Lib.hid ((KT.out).touch htw3 HTB.out)
  replace KO := Lib.hid ((KO.out).touch htw3 HOB.out)
  replace BA := Lib.hid ((BA.out).touch htw3 HAB.out)
  replace HB := Lib.hid ((HB.out).touch htw3 (fun _ => by simp))
  clear hbw3 htw3
  clear x0
  go_wp2_with ((refine big_set rfl 3 _ _ rfl gM 27 (.int .i64 (zs.getD 47 0)) rfl rfl KM.out (by kernel_rfl) rfl rfl (of_decide_eq_true (by kernel_rfl)) (msA (⟨hd, ts, tn, zeroP, wrap64 (IntKind.i16.wrap (zs.getD 44 0 * 256 + zs.getD 45 0)), zs.getD 47 0, 0, 0, 0, 0, zeroC, 0, zeroP, zeroP, 0⟩ : Ms)) (by kernel_rfl) ?_; intro u27 nM tM; replace KM := Lib.hid nM; replace KT := Lib.hid ((KT.out).touch tM HTM.out); replace KO := Lib.hid ((KO.out).touch tM HOM.out); replace BD := Lib.hid ((BD.out).touch tM HBM.out); replace BA := Lib.hid ((BA.out).touch tM HAM.out); replace HB := Lib.hid ((HB.out).touch tM (fun _ => by simp)); clear nM tM; have x0 := (KO.out).reads (i := 0) (x := .func (.func 72) #[] #[.pointer (some ⟨gT, 0, none⟩)]) rfl))
  refine (fone_any gT gB _ a 48 L C zs _ KT.out BD.out (by omega) hC hM hz BA.out HAB.out HN.out).mono ?_
  rintro e w4 ⟨rfl, hbw4, htw4⟩
  replace BD := Lib.hid hbw4
  replace KM := Lib.hid ((KM.out).touch htw4 HMB.out)
  replace KT := Lib.hid ((KT.out).touch htw4 HTB.out)
  replace KO := Lib.hid ((KO.out).touch htw4 HOB.out)
  replace BA := Lib.hid ((BA.out).touch htw4 HAB.out)
  replace HB := Lib.hid ((HB.out).touch htw4 (fun _ => by simp))
  clear hbw4 htw4
  clear x0
  go_wp2_with ((refine big_set rfl 3 _ _ rfl gM 29 (.int .i64 (zs.getD 48 0)) rfl rfl KM.out (by kernel_rfl) rfl rfl (of_decide_eq_true (by kernel_rfl)) (msA (⟨hd, ts, tn, zeroP, wrap64 (IntKind.i16.wrap (zs.getD 44 0 * 256 + zs.getD 45 0)), zs.getD 47 0, 0, zs.getD 48 0, 0, 0, zeroC, 0, zeroP, zeroP, 0⟩ : Ms)) (by kernel_rfl) ?_; intro u29 nM tM; replace KM := Lib.hid nM; replace KT := Lib.hid ((KT.out).touch tM HTM.out); replace KO := Lib.hid ((KO.out).touch tM HOM.out); replace BD := Lib.hid ((BD.out).touch tM HBM.out); replace BA := Lib.hid ((BA.out).touch tM HAM.out); replace HB := Lib.hid ((HB.out).touch tM (fun _ => by simp)); clear nM tM; have x0 := (KO.out).reads (i := 0) (x := .func (.func 72) #[] #[.pointer (some ⟨gT, 0, none⟩)]) rfl))
  refine (fone_any gT gB _ a 49 L C zs _ KT.out BD.out (by omega) hC hM hz BA.out HAB.out HN.out).mono ?_
  rintro e w5 ⟨rfl, hbw5, htw5⟩
  replace BD := Lib.hid hbw5
  replace KM := Lib.hid ((KM.out).touch htw5 HMB.out)
  replace KT := Lib.hid ((KT.out).touch htw5 HTB.out)
  replace KO := Lib.hid ((KO.out).touch htw5 HOB.out)
  replace BA := Lib.hid ((BA.out).touch htw5 HAB.out)
  replace HB := Lib.hid ((HB.out).touch htw5 (fun _ => by simp))
  clear hbw5 htw5
  clear x0
  go_wp2_with ((refine big_set rfl 3 _ _ rfl gM 30 (.int .i64 (zs.getD 49 0)) rfl rfl KM.out (by kernel_rfl) rfl rfl (of_decide_eq_true (by kernel_rfl)) (msA (⟨hd, ts, tn, zeroP, wrap64 (IntKind.i16.wrap (zs.getD 44 0 * 256 + zs.getD 45 0)), zs.getD 47 0, 0, zs.getD 48 0, zs.getD 49 0, 0, zeroC, 0, zeroP, zeroP, 0⟩ : Ms)) (by kernel_rfl) ?_; intro u30 nM tM; replace KM := Lib.hid nM; replace KT := Lib.hid ((KT.out).touch tM HTM.out); replace KO := Lib.hid ((KO.out).touch tM HOM.out); replace BD := Lib.hid ((BD.out).touch tM HBM.out); replace BA := Lib.hid ((BA.out).touch tM HAM.out); replace HB := Lib.hid ((HB.out).touch tM (fun _ => by simp)); clear nM tM))
  refine (ftwo_any gO gT gB _ _ a 50 L C zs _ KO.out KT.out BD.out (by omega) hC hM hz BA.out HAB.out HOB.out HTB.out HN.out).mono ?_
  rintro e w6 ⟨rfl, hbw6, htw6⟩
  replace BD := Lib.hid hbw6
  replace KM := Lib.hid ((KM.out).touch htw6 HMB.out)
  replace KT := Lib.hid ((KT.out).touch htw6 HTB.out)
  replace KO := Lib.hid ((KO.out).touch htw6 HOB.out)
  replace BA := Lib.hid ((BA.out).touch htw6 HAB.out)
  replace HB := Lib.hid ((HB.out).touch htw6 (fun _ => by simp))
  clear hbw6 htw6
  go_wp2_with ((refine big_set rfl 3 _ _ rfl gM 31 (.int .i64 (zs.getD 50 0 * 256 + zs.getD 51 0)) rfl rfl KM.out (by kernel_rfl) rfl rfl (of_decide_eq_true (by kernel_rfl)) (msA (⟨hd, ts, tn, zeroP, wrap64 (IntKind.i16.wrap (zs.getD 44 0 * 256 + zs.getD 45 0)), zs.getD 47 0, 0, zs.getD 48 0, zs.getD 49 0, zs.getD 50 0 * 256 + zs.getD 51 0, zeroC, 0, zeroP, zeroP, 0⟩ : Ms)) (by kernel_rfl) ?_; intro u31 nM tM; replace KM := Lib.hid nM; replace KT := Lib.hid ((KT.out).touch tM HTM.out); replace KO := Lib.hid ((KO.out).touch tM HOM.out); replace BD := Lib.hid ((BD.out).touch tM HBM.out); replace BA := Lib.hid ((BA.out).touch tM HAM.out); replace HB := Lib.hid ((HB.out).touch tM (fun _ => by simp)); clear nM tM; have x0 := (KO.out).reads (i := 0) (x := .func (.func 72) #[] #[.pointer (some ⟨gT, 0, none⟩)]) rfl))
  refine (fone_any gT gB _ a 52 L C zs _ KT.out BD.out (by omega) hC hM hz BA.out HAB.out HN.out).mono ?_
  rintro e w7 ⟨rfl, hbw7, htw7⟩
  replace BD := Lib.hid hbw7
  replace KM := Lib.hid ((KM.out).touch htw7 HMB.out)
  replace KT := Lib.hid ((KT.out).touch htw7 HTB.out)
  replace KO := Lib.hid ((KO.out).touch htw7 HOB.out)
  replace BA := Lib.hid ((BA.out).touch htw7 HAB.out)
  replace HB := Lib.hid ((HB.out).touch htw7 (fun _ => by simp))
  clear hbw7 htw7
  clear x0
  go_wp2_with ((refine big_set rfl 3 _ _ rfl gM 28 (.int .i64 (zs.getD 52 0)) rfl rfl KM.out (by kernel_rfl) rfl rfl (of_decide_eq_true (by kernel_rfl)) (msA (⟨hd, ts, tn, zeroP, wrap64 (IntKind.i16.wrap (zs.getD 44 0 * 256 + zs.getD 45 0)), zs.getD 47 0, zs.getD 52 0, zs.getD 48 0, zs.getD 49 0, zs.getD 50 0 * 256 + zs.getD 51 0, zeroC, 0, zeroP, zeroP, 0⟩ : Ms)) (by kernel_rfl) ?_; intro u28 nM tM; replace KM := Lib.hid nM; replace KT := Lib.hid ((KT.out).touch tM HTM.out); replace KO := Lib.hid ((KO.out).touch tM HOM.out); replace BD := Lib.hid ((BD.out).touch tM HBM.out); replace BA := Lib.hid ((BA.out).touch tM HAM.out); replace HB := Lib.hid ((HB.out).touch tM (fun _ => by simp)); clear nM tM))
  refine wp_region_noPanic ?_
  refine wp_region_held_drew (S := fun v => v.cell? ⟨gT, 0, none⟩ = some (.func (.func 68) #[] #[.pointer (some ⟨gB, 0, none⟩)])) (by kernel_rfl) ?_ (fun hHeld => ?_)
  · exact ((KT.out).drew).reads (i := 0) rfl
  replace HB := Lib.hid (only_drew HB.out)
  replace KM := Lib.hid ((KM.out).drew)
  replace KT := Lib.hid ((KT.out).drew)
  replace KO := Lib.hid ((KO.out).drew)
  replace BA := Lib.hid ((BA.out).drew)
  replace BD := Lib.hid (body_drew BD.out)
  refine wpAnyH_take (i := 0) (v := .pointer (some ⟨gM, 0, none⟩)) (at_list rfl) (by kernel_rfl) (by kernel_rfl) (by kernel_rfl) (fun _ _ _ h => h) (Or.inl ⟨by rfl, ?_⟩) hHeld ?_
  · intro v hSv
    clear hHeld
    go_simp
  try simp only [Act.put, List.setIfInBounds_toArray, List.set_cons_zero, List.set_cons_succ]
  refine wpAnyH_take (i := 1) (v := .pointer (some ⟨gM, 0, none⟩)) (at_list rfl) (by kernel_rfl) (by kernel_rfl) (by kernel_rfl) (fun _ _ _ h => h) (Or.inl ⟨by rfl, ?_⟩) hHeld ?_
  · intro v hSv
    clear hHeld
    go_simp
  try simp only [Act.put, List.setIfInBounds_toArray, List.set_cons_zero, List.set_cons_succ]
  refine wpAnyH_take (i := 2) (v := .pointer (some ⟨gM, 27, none⟩)) (at_list rfl) (by kernel_rfl) (by kernel_rfl) (by kernel_rfl) (fun _ _ _ h => h) (Or.inl ⟨by rfl, ?_⟩) hHeld ?_
  · intro v hSv
    clear hHeld
    go_simp
  try simp only [Act.put, List.setIfInBounds_toArray, List.set_cons_zero, List.set_cons_succ]
  refine wpAnyH_take (i := 3) (v := .pointer (some ⟨gM, 32, none⟩)) (at_list rfl) (by kernel_rfl) (by kernel_rfl) (by kernel_rfl) (fun _ _ _ h => h) (Or.inl ⟨by rfl, ?_⟩) hHeld ?_
  · intro v hSv
    clear hHeld
    go_simp
  try simp only [Act.put, List.setIfInBounds_toArray, List.set_cons_zero, List.set_cons_succ]
  refine wpAnyH_take (i := 4) (v := .slice (some ⟨gM, 32, none⟩) 8 8) (at_list rfl) (by kernel_rfl) (by kernel_rfl) (by kernel_rfl) (fun _ _ _ h => h) (Or.inl ⟨by rfl, ?_⟩) hHeld ?_
  · intro v hSv
    clear hHeld
    go_simp
  try simp only [Act.put, List.setIfInBounds_toArray, List.set_cons_zero, List.set_cons_succ]
  refine wpAnyH_take (i := 5) (v := .func (.func 68) #[] #[.pointer (some ⟨gB, 0, none⟩)]) (at_list rfl) (by kernel_rfl) (by kernel_rfl) (by kernel_rfl) (fun _ _ _ h => h) (Or.inl ⟨by rfl, ?_⟩) hHeld ?_
  · intro v hSv
    clear hHeld
    go_simp
  try simp only [Act.put, List.setIfInBounds_toArray, List.set_cons_zero, List.set_cons_succ]
  refine wpAnyH_ready (rs := [6]) (by kernel_rfl) (by simp) ?_
  refine AllReadyH.cons (at_list rfl) (fun K hK => ?_) AllReadyH.nil
  clear hHeld
  go_simp
  refine (take_any gB a 53 8 L C _ BD.out (by omega) hC hM (by omega)).mono ?_
  rintro e wG ⟨rfl, hbwG, htwG⟩
  replace BD := Lib.hid hbwG
  replace KM := Lib.hid ((KM.out).touch htwG HMB.out)
  replace KT := Lib.hid ((KT.out).touch htwG HTB.out)
  replace KO := Lib.hid ((KO.out).touch htwG HOB.out)
  replace BA := Lib.hid ((BA.out).touch htwG HAB.out)
  replace HB := Lib.hid ((HB.out).touch htwG (fun _ => by simp))
  clear hbwG htwG
  go_wp2_with fail
  refine hK.out _ _ ?_ (fun hHeld => ?_)
  · exact (KT.out).reads (i := 0) rfl
  clear hK K
  try simp only [Act.put, List.setIfInBounds_toArray, List.set_cons_zero, List.set_cons_succ]
  refine wpAnyH_ready (rs := [7]) (by kernel_rfl) (by simp) ?_
  refine AllReadyH.cons (at_list rfl) (fun K hK => ?_) AllReadyH.nil
  refine step_copy (by rfl) _ _ _ _ rfl 5 Tryd.underlying22 (by kernel_rfl) gM 32 8 8 (a.add 53) 8 (C - 53) rfl rfl KM.out ((ckOf zs 53).l.map (Value.int .u8)) rfl (ck_news BA.out (by omega)) (of_decide_eq_true (by kernel_rfl)) (fun u hu => by obtain ⟨z, _, rfl⟩ := List.mem_map.1 hu; rfl) (msA (⟨hd, ts, tn, zeroP, wrap64 (IntKind.i16.wrap (zs.getD 44 0 * 256 + zs.getD 45 0)), zs.getD 47 0, zs.getD 52 0, zs.getD 48 0, zs.getD 49 0, zs.getD 50 0 * 256 + zs.getD 51 0, ckOf zs 53, 0, zeroP, zeroP, 0⟩ : Ms)) (by kernel_rfl) ?_
  intro uG nM tM
  replace KM := Lib.hid nM
  replace KT := Lib.hid ((KT.out).touch tM HTM.out)
  replace KO := Lib.hid ((KO.out).touch tM HOM.out)
  replace BD := Lib.hid ((BD.out).touch tM HBM.out)
  replace BA := Lib.hid ((BA.out).touch tM HAM.out)
  replace HB := Lib.hid ((HB.out).touch tM (fun _ => by simp))
  clear nM tM hHeld
  refine hK.out _ _ ?_ (fun hHeld => ?_)
  · exact (KT.out).reads (i := 0) rfl
  clear hK K hHeld
  try simp only [Act.put]
  refine wpAnyH_done (by kernel_rfl) ?_ _
  refine NoPanic.normal ?_
  go_wp2_with fail
  refine (ftwo_any gO gT gB _ _ a 61 L C zs _ KO.out KT.out BD.out (by omega) hC hM hz BA.out HAB.out HOB.out HTB.out HN.out).mono ?_
  rintro e w8 ⟨rfl, hbw8, htw8⟩
  replace BD := Lib.hid hbw8
  replace KM := Lib.hid ((KM.out).touch htw8 HMB.out)
  replace KT := Lib.hid ((KT.out).touch htw8 HTB.out)
  replace KO := Lib.hid ((KO.out).touch htw8 HOB.out)
  replace BA := Lib.hid ((BA.out).touch htw8 HAB.out)
  replace HB := Lib.hid ((HB.out).touch htw8 (fun _ => by simp))
  clear hbw8 htw8
  go_wp2_with ((refine big_set rfl 3 _ _ rfl gM 40 (.int .i64 (zs.getD 61 0 * 256 + zs.getD 62 0)) rfl rfl KM.out (by kernel_rfl) rfl rfl (of_decide_eq_true (by kernel_rfl)) (msA (⟨hd, ts, tn, zeroP, wrap64 (IntKind.i16.wrap (zs.getD 44 0 * 256 + zs.getD 45 0)), zs.getD 47 0, zs.getD 52 0, zs.getD 48 0, zs.getD 49 0, zs.getD 50 0 * 256 + zs.getD 51 0, ckOf zs 53, zs.getD 61 0 * 256 + zs.getD 62 0, zeroP, zeroP, 0⟩ : Ms)) (by kernel_rfl) ?_; intro u40 nM tM; replace KM := Lib.hid nM; replace KT := Lib.hid ((KT.out).touch tM HTM.out); replace KO := Lib.hid ((KO.out).touch tM HOM.out); replace BD := Lib.hid ((BD.out).touch tM HBM.out); replace BA := Lib.hid ((BA.out).touch tM HAM.out); replace HB := Lib.hid ((HB.out).touch tM (fun _ => by simp)); clear nM tM; have x0 := (KO.out).reads (i := 0) (x := .func (.func 72) #[] #[.pointer (some ⟨gT, 0, none⟩)]) rfl))
  refine (fone_any gT gB _ a 63 L C zs _ KT.out BD.out (by omega) hC hM hz BA.out HAB.out HN.out).mono ?_
  rintro e w9 ⟨rfl, hbw9, htw9⟩
  replace BD := Lib.hid hbw9
  replace KM := Lib.hid ((KM.out).touch htw9 HMB.out)
  replace KT := Lib.hid ((KT.out).touch htw9 HTB.out)
  replace KO := Lib.hid ((KO.out).touch htw9 HOB.out)
  replace BA := Lib.hid ((BA.out).touch htw9 HAB.out)
  replace HB := Lib.hid ((HB.out).touch htw9 (fun _ => by simp))
  clear hbw9 htw9
  clear x0
  go_wp2_with (first | (refine big_store rfl 26 _ _ rfl gM 41 [.int .u8 hd.p.c.b0, .int .u8 hd.p.c.b1, .int .u8 hd.p.c.b2, .int .u8 hd.p.c.b3, .int .u8 hd.p.c.b4, .int .u8 hd.p.c.b5, .int .u8 hd.p.c.b6, .int .u8 hd.p.c.b7, .int .i64 hd.p.n] rfl rfl KM.out (by kernel_rfl) (by kernel_rfl) (of_decide_eq_true (by kernel_rfl)) (msA (⟨hd, ts, tn, zeroP, wrap64 (IntKind.i16.wrap (zs.getD 44 0 * 256 + zs.getD 45 0)), zs.getD 47 0, zs.getD 52 0, zs.getD 48 0, zs.getD 49 0, zs.getD 50 0 * 256 + zs.getD 51 0, ckOf zs 53, zs.getD 61 0 * 256 + zs.getD 62 0, hd.p, zeroP, zs.getD 63 0⟩ : Ms)) (by kernel_rfl) ?_; intro uP nM tM; replace KM := Lib.hid nM; replace HB := Lib.hid ((HB.out).touch tM (fun _ => by simp)); clear nM tM) | (refine big_load rfl 26 _ rfl gM 4 rfl KM.out [.int .u8 hd.p.c.b0, .int .u8 hd.p.c.b1, .int .u8 hd.p.c.b2, .int .u8 hd.p.c.b3, .int .u8 hd.p.c.b4, .int .u8 hd.p.c.b5, .int .u8 hd.p.c.b6, .int .u8 hd.p.c.b7, .int .i64 hd.p.n] rfl Tryd.underlying26 rfl (by kernel_rfl) ?_) | (refine big_set rfl 3 _ _ rfl gM 59 (.int .i64 (zs.getD 63 0)) rfl rfl KM.out (by kernel_rfl) rfl rfl (of_decide_eq_true (by kernel_rfl)) (msA (⟨hd, ts, tn, zeroP, wrap64 (IntKind.i16.wrap (zs.getD 44 0 * 256 + zs.getD 45 0)), zs.getD 47 0, zs.getD 52 0, zs.getD 48 0, zs.getD 49 0, zs.getD 50 0 * 256 + zs.getD 51 0, ckOf zs 53, zs.getD 61 0 * 256 + zs.getD 62 0, zeroP, zeroP, zs.getD 63 0⟩ : Ms)) (by kernel_rfl) ?_; intro u59 nM tM; replace KM := Lib.hid nM; replace KT := Lib.hid ((KT.out).touch tM HTM.out); replace KO := Lib.hid ((KO.out).touch tM HOM.out); replace BD := Lib.hid ((BD.out).touch tM HBM.out); replace BA := Lib.hid ((BA.out).touch tM HAM.out); replace HB := Lib.hid ((HB.out).touch tM (fun _ => by simp)); clear nM tM))
  go_ret
  exact ⟨rfl, KM.out, HB.out⟩

end Go.Proofs.YtifhjmhekapaoaaDoor

/- The walk over frame.read. -/
namespace Go.Proofs.YtifhjmhekapaoaaDoor
set_option maxRecDepth 100000
open Go.RowKit
set_option linter.unusedVariables false

theorem ten_cells {w : World} {a : Addr} {zs : List Int} (h : BytesAt w a zs) {k : Nat} (hk : k + 10 ≤ zs.length) : BytesAt w (a.add k) ((zs.drop k).take 10) :=
  h.sub k (fun i hi => by
    rw [List.length_take, List.length_drop] at hi
    rw [List.getElem?_take, if_pos (by omega), List.getElem?_drop])
theorem time_parts (zs : List Int) : ((zs.drop 34).take 10).take 6 = (zs.drop 34).take 6 ∧ ((zs.drop 34).take 10).drop 6 = (zs.drop 40).take 4 := by
  constructor
  · rw [List.take_take]; rfl
  · rw [List.drop_take, List.drop_drop]
theorem fget_yes (a : Addr) (L C : Nat) (zs : List Int) (w : World) (hz : zs.length = L) (hL : 44 ≤ L) (hby : ∀ z ∈ zs, isByte z) (hc : BytesAt w a zs) (ht : rightB (tsOf zs) (tnOf zs) = true) :
    Calls Tryd.prog 66 #[.slice (some (a.add 34)) 10 (C - 34)] w fun e w' => e = .returned (.tuple #[.agg #[.int .i64 (tsOf zs), .int .i64 (tnOf zs)], .int .i64 0]) ∧ Below w.heap.size w w' := by
  have h := get_ten (a.add 34) (C - 34) ((zs.drop 34).take 10) w (by rw [List.length_take, List.length_drop]; omega) (sub_byte hby 34 10) (fun i hi => ten_cells hc (by omega) i (by rw [List.length_take, List.length_drop]; omega))
  rw [(time_parts zs).1, (time_parts zs).2] at h
  refine h.mono ?_
  rintro e w' ⟨he, hb⟩
  refine ⟨he.trans ?_, hb⟩
  show stampR (rightB (tsOf zs) (tnOf zs)) (tsOf zs) (tnOf zs) = _
  rw [ht]
  rfl
theorem fget_no (a : Addr) (L C : Nat) (zs : List Int) (w : World) (hz : zs.length = L) (hL : 44 ≤ L) (hby : ∀ z ∈ zs, isByte z) (hc : BytesAt w a zs) (ht : rightB (tsOf zs) (tnOf zs) = false) :
    Calls Tryd.prog 66 #[.slice (some (a.add 34)) 10 (C - 34)] w fun e w' => e = .returned (.tuple #[.agg #[.int .i64 0, .int .i64 0], .int .i64 20]) ∧ Below w.heap.size w w' := by
  have h := get_ten (a.add 34) (C - 34) ((zs.drop 34).take 10) w (by rw [List.length_take, List.length_drop]; omega) (sub_byte hby 34 10) (fun i hi => ten_cells hc (by omega) i (by rw [List.length_take, List.length_drop]; omega))
  rw [(time_parts zs).1, (time_parts zs).2] at h
  refine h.mono ?_
  rintro e w' ⟨he, hb⟩
  refine ⟨he.trans ?_, hb⟩
  show stampR (rightB (tsOf zs) (tnOf zs)) (tsOf zs) (tnOf zs) = _
  rw [ht]
  rfl
theorem fidget (a : Addr) (L C : Nat) (zs : List Int) (w : World) (hz : zs.length = L) (hL : 54 ≤ L) (hby : ∀ z ∈ zs, isByte z) (hc : BytesAt w a zs) :
    Calls Tryd.prog 22 #[.slice (some (a.add 44)) 10 (C - 44)] w fun e w' => e = .returned (.tuple #[.agg #[.int .u8 (getP ((zs.drop 44).take 10)).c.b0, .int .u8 (getP ((zs.drop 44).take 10)).c.b1, .int .u8 (getP ((zs.drop 44).take 10)).c.b2, .int .u8 (getP ((zs.drop 44).take 10)).c.b3, .int .u8 (getP ((zs.drop 44).take 10)).c.b4, .int .u8 (getP ((zs.drop 44).take 10)).c.b5, .int .u8 (getP ((zs.drop 44).take 10)).c.b6, .int .u8 (getP ((zs.drop 44).take 10)).c.b7, .int .i64 (getP ((zs.drop 44).take 10)).n], .bool true]) ∧ Below w.heap.size w w' :=
  idget_ten (a.add 44) (C - 44) ((zs.drop 44).take 10) w (by rw [List.length_take, List.length_drop]; omega) (sub_byte hby 44 10) (ten_cells hc (by omega))
set_option maxHeartbeats 4000000 in
theorem read_no (gB : Nat) (a : Addr) (L C : Nat) (zs : List Int) (hd : Hd) (w : World) (hb : Body w gB a 34 L C) (hL : 44 ≤ L) (hC : L ≤ C) (hM : C ≤ maxLen) (hz : zs.length = L) (hc : BytesAt w a zs) (hby : ∀ z ∈ zs, isByte z) (hab : a.block ≠ gB) (ht : rightB (tsOf zs) (tnOf zs) = false) :
    Calls Tryd.prog 48 #[.agg #[.int .i64 hd.t, .int .i64 hd.d, .int .i64 hd.f, .int .i64 hd.c, .int .u8 hd.p.c.b0, .int .u8 hd.p.c.b1, .int .u8 hd.p.c.b2, .int .u8 hd.p.c.b3, .int .u8 hd.p.c.b4, .int .u8 hd.p.c.b5, .int .u8 hd.p.c.b6, .int .u8 hd.p.c.b7, .int .i64 hd.p.n, .int .i64 hd.s, .int .i64 hd.l], .func (.func 68) #[] #[.pointer (some ⟨gB, 0, none⟩)]] w fun e w' => e = .returned (.tuple #[.agg (msA zeroM), .bool false]) ∧ Only [gB] w.heap.size w w' := by
  have HB := Lib.hid (Only.refl [gB] w.heap.size w)
  have BD := Lib.hid hb
  have BA := Lib.hid hc
  have HN := Lib.hid hby
  have HAB := Lib.hid hab
  have HT := Lib.hid ht
  clear hb hc hby hab ht
  go_enter Tryd.func48, Tryd.ntmps48
  go_wp2_with (first | (refine big_alloc rfl 49 rfl (msA zeroM) (by kernel_rfl) ?_; intro gKR wKR hlKR nKR hbKR; have KR := Lib.hid nKR; have LKR := Lib.hid (show w.heap.size ≤ gKR from Nat.le_trans (HB.out).size hlKR); have HBKR := Lib.hid (show gB ≠ gKR by have := (BD.out).inside; omega); have HAKR := Lib.hid (show a.block ≠ gKR by have := (BA.out).inside (by omega); omega); have NKHKR := Lib.hid (show gKH ≠ gKR by have := (KH.out).inside; omega); replace KH := Lib.hid ((KH.out).keptB hbKR); replace BD := Lib.hid ((BD.out).keptB hbKR); replace BA := Lib.hid ((BA.out).keptB hbKR); replace HB := Lib.hid ((HB.out).step hbKR); clear nKR hbKR hlKR) | (refine big_box rfl 28 _ rfl (#[.int .i64 hd.t, .int .i64 hd.d, .int .i64 hd.f, .int .i64 hd.c, .int .u8 hd.p.c.b0, .int .u8 hd.p.c.b1, .int .u8 hd.p.c.b2, .int .u8 hd.p.c.b3, .int .u8 hd.p.c.b4, .int .u8 hd.p.c.b5, .int .u8 hd.p.c.b6, .int .u8 hd.p.c.b7, .int .i64 hd.p.n, .int .i64 hd.s, .int .i64 hd.l]) rfl (by kernel_rfl) ?_; intro gKH wKH hlKH nKH hbKH; have KH := Lib.hid nKH; have LKH := Lib.hid (show w.heap.size ≤ gKH from Nat.le_trans (HB.out).size hlKH); have HBKH := Lib.hid (show gB ≠ gKH by have := (BD.out).inside; omega); have HAKH := Lib.hid (show a.block ≠ gKH by have := (BA.out).inside (by omega); omega); replace BD := Lib.hid ((BD.out).keptB hbKH); replace BA := Lib.hid ((BA.out).keptB hbKH); replace HB := Lib.hid ((HB.out).step hbKH); clear nKH hbKH hlKH))
  refine (take_any gB a 34 10 L C _ BD.out (by omega) hC hM (by omega)).mono ?_
  rintro e w1 ⟨rfl, hb1, ht1⟩
  replace BD := Lib.hid hb1
  replace KH := Lib.hid ((KH.out).touch ht1 (Ne.symm HBKH.out))
  replace KR := Lib.hid ((KR.out).touch ht1 (Ne.symm HBKR.out))
  replace BA := Lib.hid ((BA.out).touch ht1 HAB.out)
  replace HB := Lib.hid ((HB.out).touch ht1 (fun _ => by simp))
  clear hb1 ht1
  go_wp2_with fail
  refine (fget_no a L C zs _ hz (by omega) HN.out BA.out HT.out).mono ?_
  rintro e w2 ⟨rfl, hw2⟩
  replace KH := Lib.hid ((KH.out).keptB hw2)
  replace KR := Lib.hid ((KR.out).keptB hw2)
  replace BD := Lib.hid ((BD.out).keptB hw2)
  replace BA := Lib.hid ((BA.out).keptB hw2)
  replace HB := Lib.hid ((HB.out).step hw2)
  clear hw2
  go_wp2_with (first | (refine big_fill rfl 49 _ _ rfl gKR (msA zeroM) rfl rfl KR.out (by kernel_rfl) (by kernel_rfl) (by kernel_rfl) ?_; intro vKR3 nKR tKR; replace KR := Lib.hid nKR; replace KH := Lib.hid ((KH.out).touch tKR NKHKR.out); replace KS := Lib.hid ((KS.out).touch tKR (Ne.symm NKRKS.out)); replace BD := Lib.hid ((BD.out).touch tKR HBKR.out); replace BA := Lib.hid ((BA.out).touch tKR HAKR.out); replace HB := Lib.hid ((HB.out).touch tKR (fun h => by have := LKR.out; omega)); clear nKR tKR) | (refine big_build rfl 49 _ rfl (msA zeroM) (by kernel_rfl) ?_) | (refine big_fill rfl 47 _ _ rfl gKS (#[.int .i64 0, .int .i64 0]) rfl rfl KS.out (by kernel_rfl) (by kernel_rfl) (by kernel_rfl) ?_; intro vKS0 nKS tKS; replace KS := Lib.hid nKS; replace KH := Lib.hid ((KH.out).touch tKS NKHKS.out); replace KR := Lib.hid ((KR.out).touch tKS NKRKS.out); replace BD := Lib.hid ((BD.out).touch tKS HBKS.out); replace BA := Lib.hid ((BA.out).touch tKS HAKS.out); replace HB := Lib.hid ((HB.out).touch tKS (fun h => by have := LKS.out; omega)); clear nKS tKS) | (refine big_alloc rfl 47 rfl (#[.int .i64 0, .int .i64 0]) (by kernel_rfl) ?_; intro gKS wKS hlKS nKS hbKS; have KS := Lib.hid nKS; have LKS := Lib.hid (show w.heap.size ≤ gKS from Nat.le_trans (HB.out).size hlKS); have HBKS := Lib.hid (show gB ≠ gKS by have := (BD.out).inside; omega); have HAKS := Lib.hid (show a.block ≠ gKS by have := (BA.out).inside (by omega); omega); have NKHKS := Lib.hid (show gKH ≠ gKS by have := (KH.out).inside; omega); have NKRKS := Lib.hid (show gKR ≠ gKS by have := (KR.out).inside; omega); replace KH := Lib.hid ((KH.out).keptB hbKS); replace KR := Lib.hid ((KR.out).keptB hbKS); replace BD := Lib.hid ((BD.out).keptB hbKS); replace BA := Lib.hid ((BA.out).keptB hbKS); replace HB := Lib.hid ((HB.out).step hbKS); clear nKS hbKS hlKS))
  refine bodyPost_ret (results_two rfl _ _ gKR _ (msA zeroM) (.bool false) _ rfl rfl KR.out Tryd.underlying49 rfl (by kernel_rfl)) rfl ⟨rfl, HB.out⟩
set_option maxHeartbeats 4000000 in
theorem read_0 (gB : Nat) (a : Addr) (L C : Nat) (zs : List Int) (hd : Hd) (w : World) (hb : Body w gB a 34 L C) (hL : 44 ≤ L) (hC : L ≤ C) (hM : C ≤ maxLen) (hz : zs.length = L) (hc : BytesAt w a zs) (hby : ∀ z ∈ zs, isByte z) (hab : a.block ≠ gB) (ht : rightB (tsOf zs) (tnOf zs) = true) (h9 : ¬ hd.t = 9) (h11 : ¬ hd.t = 11) :
    Calls Tryd.prog 48 #[.agg #[.int .i64 hd.t, .int .i64 hd.d, .int .i64 hd.f, .int .i64 hd.c, .int .u8 hd.p.c.b0, .int .u8 hd.p.c.b1, .int .u8 hd.p.c.b2, .int .u8 hd.p.c.b3, .int .u8 hd.p.c.b4, .int .u8 hd.p.c.b5, .int .u8 hd.p.c.b6, .int .u8 hd.p.c.b7, .int .i64 hd.p.n, .int .i64 hd.s, .int .i64 hd.l], .func (.func 68) #[] #[.pointer (some ⟨gB, 0, none⟩)]] w fun e w' => e = .returned (.tuple #[.agg (msA (⟨hd, tsOf zs, tnOf zs, zeroP, 0, 0, 0, 0, 0, 0, zeroC, 0, zeroP, zeroP, 0⟩ : Ms)), .bool true]) ∧ Only [gB] w.heap.size w w' := by
  have HB := Lib.hid (Only.refl [gB] w.heap.size w)
  have BD := Lib.hid hb
  have BA := Lib.hid hc
  have HN := Lib.hid hby
  have HAB := Lib.hid hab
  have HT := Lib.hid ht
  clear hb hc hby hab ht
  have d9 : (hd.t == 9) = false := by simp [h9]
  have d11 : (hd.t == 11) = false := by simp [h11]
  clear h9 h11
  go_enter Tryd.func48, Tryd.ntmps48
  go_wp2_with (first | (refine big_alloc rfl 49 rfl (msA zeroM) (by kernel_rfl) ?_; intro gKR wKR hlKR nKR hbKR; have KR := Lib.hid nKR; have LKR := Lib.hid (show w.heap.size ≤ gKR from Nat.le_trans (HB.out).size hlKR); have HBKR := Lib.hid (show gB ≠ gKR by have := (BD.out).inside; omega); have HAKR := Lib.hid (show a.block ≠ gKR by have := (BA.out).inside (by omega); omega); have NKHKR := Lib.hid (show gKH ≠ gKR by have := (KH.out).inside; omega); replace KH := Lib.hid ((KH.out).keptB hbKR); replace BD := Lib.hid ((BD.out).keptB hbKR); replace BA := Lib.hid ((BA.out).keptB hbKR); replace HB := Lib.hid ((HB.out).step hbKR); clear nKR hbKR hlKR) | (refine big_box rfl 28 _ rfl (#[.int .i64 hd.t, .int .i64 hd.d, .int .i64 hd.f, .int .i64 hd.c, .int .u8 hd.p.c.b0, .int .u8 hd.p.c.b1, .int .u8 hd.p.c.b2, .int .u8 hd.p.c.b3, .int .u8 hd.p.c.b4, .int .u8 hd.p.c.b5, .int .u8 hd.p.c.b6, .int .u8 hd.p.c.b7, .int .i64 hd.p.n, .int .i64 hd.s, .int .i64 hd.l]) rfl (by kernel_rfl) ?_; intro gKH wKH hlKH nKH hbKH; have KH := Lib.hid nKH; have LKH := Lib.hid (show w.heap.size ≤ gKH from Nat.le_trans (HB.out).size hlKH); have HBKH := Lib.hid (show gB ≠ gKH by have := (BD.out).inside; omega); have HAKH := Lib.hid (show a.block ≠ gKH by have := (BA.out).inside (by omega); omega); replace BD := Lib.hid ((BD.out).keptB hbKH); replace BA := Lib.hid ((BA.out).keptB hbKH); replace HB := Lib.hid ((HB.out).step hbKH); clear nKH hbKH hlKH))
  refine (take_any gB a 34 10 L C _ BD.out (by omega) hC hM (by omega)).mono ?_
  rintro e w1 ⟨rfl, hb1, ht1⟩
  replace BD := Lib.hid hb1
  replace KH := Lib.hid ((KH.out).touch ht1 (Ne.symm HBKH.out))
  replace KR := Lib.hid ((KR.out).touch ht1 (Ne.symm HBKR.out))
  replace BA := Lib.hid ((BA.out).touch ht1 HAB.out)
  replace HB := Lib.hid ((HB.out).touch ht1 (fun _ => by simp))
  clear hb1 ht1
  go_wp2_with fail
  refine (fget_yes a L C zs _ hz (by omega) HN.out BA.out HT.out).mono ?_
  rintro e w2 ⟨rfl, hw2⟩
  replace KH := Lib.hid ((KH.out).keptB hw2)
  replace KR := Lib.hid ((KR.out).keptB hw2)
  replace BD := Lib.hid ((BD.out).keptB hw2)
  replace BA := Lib.hid ((BA.out).keptB hw2)
  replace HB := Lib.hid ((HB.out).step hw2)
  clear hw2
  go_wp2_with (first | (refine big_fill rfl 49 _ _ rfl gKR (msA (⟨hd, tsOf zs, tnOf zs, zeroP, 0, 0, 0, 0, 0, 0, zeroC, 0, zeroP, zeroP, 0⟩ : Ms)) rfl rfl KR.out (by kernel_rfl) (by kernel_rfl) (by kernel_rfl) ?_; intro vKR4 nKR tKR; replace KR := Lib.hid nKR; replace KH := Lib.hid ((KH.out).touch tKR NKHKR.out); replace KS := Lib.hid ((KS.out).touch tKR (Ne.symm NKRKS.out)); replace KM := Lib.hid ((KM.out).touch tKR (Ne.symm NKRKM.out)); replace BD := Lib.hid ((BD.out).touch tKR HBKR.out); replace BA := Lib.hid ((BA.out).touch tKR HAKR.out); replace HB := Lib.hid ((HB.out).touch tKR (fun h => by have := LKR.out; omega)); clear nKR tKR) | (refine big_whole rfl 49 _ rfl gKM rfl KM.out Tryd.underlying49 rfl (by kernel_rfl) ?_) | (refine big_fill rfl 49 _ _ rfl gKM (msA (⟨hd, tsOf zs, tnOf zs, zeroP, 0, 0, 0, 0, 0, 0, zeroC, 0, zeroP, zeroP, 0⟩ : Ms)) rfl rfl KM.out (by kernel_rfl) (by kernel_rfl) (by kernel_rfl) ?_; intro vKM0 nKM tKM; replace KM := Lib.hid nKM; replace KH := Lib.hid ((KH.out).touch tKM NKHKM.out); replace KR := Lib.hid ((KR.out).touch tKM NKRKM.out); replace KS := Lib.hid ((KS.out).touch tKM NKSKM.out); replace BD := Lib.hid ((BD.out).touch tKM HBKM.out); replace BA := Lib.hid ((BA.out).touch tKM HAKM.out); replace HB := Lib.hid ((HB.out).touch tKM (fun h => by have := LKM.out; omega)); clear nKM tKM; have x0 := (KH.out).reads (i := 0) (x := .int .i64 hd.t) rfl) | (refine big_alloc rfl 49 rfl (msA zeroM) (by kernel_rfl) ?_; intro gKM wKM hlKM nKM hbKM; have KM := Lib.hid nKM; have LKM := Lib.hid (show w.heap.size ≤ gKM from Nat.le_trans (HB.out).size hlKM); have HBKM := Lib.hid (show gB ≠ gKM by have := (BD.out).inside; omega); have HAKM := Lib.hid (show a.block ≠ gKM by have := (BA.out).inside (by omega); omega); have NKHKM := Lib.hid (show gKH ≠ gKM by have := (KH.out).inside; omega); have NKRKM := Lib.hid (show gKR ≠ gKM by have := (KR.out).inside; omega); have NKSKM := Lib.hid (show gKS ≠ gKM by have := (KS.out).inside; omega); replace KH := Lib.hid ((KH.out).keptB hbKM); replace KR := Lib.hid ((KR.out).keptB hbKM); replace KS := Lib.hid ((KS.out).keptB hbKM); replace BD := Lib.hid ((BD.out).keptB hbKM); replace BA := Lib.hid ((BA.out).keptB hbKM); replace HB := Lib.hid ((HB.out).step hbKM); clear nKM hbKM hlKM) | (refine big_build rfl 49 _ rfl (msA (⟨hd, tsOf zs, tnOf zs, zeroP, 0, 0, 0, 0, 0, 0, zeroC, 0, zeroP, zeroP, 0⟩ : Ms)) (by kernel_rfl) ?_) | (refine big_whole rfl 47 _ rfl gKS rfl KS.out Tryd.underlying47 rfl (by kernel_rfl) ?_) | (refine big_whole rfl 28 _ rfl gKH rfl KH.out Tryd.underlying28 rfl (by kernel_rfl) ?_) | (refine big_fill rfl 47 _ _ rfl gKS (#[.int .i64 (tsOf zs), .int .i64 (tnOf zs)]) rfl rfl KS.out (by kernel_rfl) (by kernel_rfl) (by kernel_rfl) ?_; intro vKS0 nKS tKS; replace KS := Lib.hid nKS; replace KH := Lib.hid ((KH.out).touch tKS NKHKS.out); replace KR := Lib.hid ((KR.out).touch tKS NKRKS.out); replace BD := Lib.hid ((BD.out).touch tKS HBKS.out); replace BA := Lib.hid ((BA.out).touch tKS HAKS.out); replace HB := Lib.hid ((HB.out).touch tKS (fun h => by have := LKS.out; omega)); clear nKS tKS) | (refine big_alloc rfl 47 rfl (#[.int .i64 0, .int .i64 0]) (by kernel_rfl) ?_; intro gKS wKS hlKS nKS hbKS; have KS := Lib.hid nKS; have LKS := Lib.hid (show w.heap.size ≤ gKS from Nat.le_trans (HB.out).size hlKS); have HBKS := Lib.hid (show gB ≠ gKS by have := (BD.out).inside; omega); have HAKS := Lib.hid (show a.block ≠ gKS by have := (BA.out).inside (by omega); omega); have NKHKS := Lib.hid (show gKH ≠ gKS by have := (KH.out).inside; omega); have NKRKS := Lib.hid (show gKR ≠ gKS by have := (KR.out).inside; omega); replace KH := Lib.hid ((KH.out).keptB hbKS); replace KR := Lib.hid ((KR.out).keptB hbKS); replace BD := Lib.hid ((BD.out).keptB hbKS); replace BA := Lib.hid ((BA.out).keptB hbKS); replace HB := Lib.hid ((HB.out).step hbKS); clear nKS hbKS hlKS))
  refine bodyPost_ret (results_two rfl _ _ gKR _ (msA (⟨hd, tsOf zs, tnOf zs, zeroP, 0, 0, 0, 0, 0, 0, zeroC, 0, zeroP, zeroP, 0⟩ : Ms)) (.bool true) _ rfl rfl KR.out Tryd.underlying49 rfl (by kernel_rfl)) rfl ⟨rfl, HB.out⟩
set_option maxHeartbeats 4000000 in
theorem read_9 (gB : Nat) (a : Addr) (L C : Nat) (zs : List Int) (hd : Hd) (w : World) (hb : Body w gB a 34 L C) (hL : 54 ≤ L) (hC : L ≤ C) (hM : C ≤ maxLen) (hz : zs.length = L) (hc : BytesAt w a zs) (hby : ∀ z ∈ zs, isByte z) (hab : a.block ≠ gB) (ht : rightB (tsOf zs) (tnOf zs) = true) (h9 : hd.t = 9) :
    Calls Tryd.prog 48 #[.agg #[.int .i64 hd.t, .int .i64 hd.d, .int .i64 hd.f, .int .i64 hd.c, .int .u8 hd.p.c.b0, .int .u8 hd.p.c.b1, .int .u8 hd.p.c.b2, .int .u8 hd.p.c.b3, .int .u8 hd.p.c.b4, .int .u8 hd.p.c.b5, .int .u8 hd.p.c.b6, .int .u8 hd.p.c.b7, .int .i64 hd.p.n, .int .i64 hd.s, .int .i64 hd.l], .func (.func 68) #[] #[.pointer (some ⟨gB, 0, none⟩)]] w fun e w' => e = .returned (.tuple #[.agg (msA (⟨hd, tsOf zs, tnOf zs, getP ((zs.drop 44).take 10), 0, 0, 0, 0, 0, 0, zeroC, 0, zeroP, zeroP, 0⟩ : Ms)), .bool true]) ∧ Only [gB] w.heap.size w w' := by
  have HB := Lib.hid (Only.refl [gB] w.heap.size w)
  have BD := Lib.hid hb
  have BA := Lib.hid hc
  have HN := Lib.hid hby
  have HAB := Lib.hid hab
  have HT := Lib.hid ht
  clear hb hc hby hab ht
  have d9 : (hd.t == 9) = true := by simp [h9]
  clear h9
  go_enter Tryd.func48, Tryd.ntmps48
  go_wp2_with (first | (refine big_alloc rfl 49 rfl (msA zeroM) (by kernel_rfl) ?_; intro gKR wKR hlKR nKR hbKR; have KR := Lib.hid nKR; have LKR := Lib.hid (show w.heap.size ≤ gKR from Nat.le_trans (HB.out).size hlKR); have HBKR := Lib.hid (show gB ≠ gKR by have := (BD.out).inside; omega); have HAKR := Lib.hid (show a.block ≠ gKR by have := (BA.out).inside (by omega); omega); have NKHKR := Lib.hid (show gKH ≠ gKR by have := (KH.out).inside; omega); replace KH := Lib.hid ((KH.out).keptB hbKR); replace BD := Lib.hid ((BD.out).keptB hbKR); replace BA := Lib.hid ((BA.out).keptB hbKR); replace HB := Lib.hid ((HB.out).step hbKR); clear nKR hbKR hlKR) | (refine big_box rfl 28 _ rfl (#[.int .i64 hd.t, .int .i64 hd.d, .int .i64 hd.f, .int .i64 hd.c, .int .u8 hd.p.c.b0, .int .u8 hd.p.c.b1, .int .u8 hd.p.c.b2, .int .u8 hd.p.c.b3, .int .u8 hd.p.c.b4, .int .u8 hd.p.c.b5, .int .u8 hd.p.c.b6, .int .u8 hd.p.c.b7, .int .i64 hd.p.n, .int .i64 hd.s, .int .i64 hd.l]) rfl (by kernel_rfl) ?_; intro gKH wKH hlKH nKH hbKH; have KH := Lib.hid nKH; have LKH := Lib.hid (show w.heap.size ≤ gKH from Nat.le_trans (HB.out).size hlKH); have HBKH := Lib.hid (show gB ≠ gKH by have := (BD.out).inside; omega); have HAKH := Lib.hid (show a.block ≠ gKH by have := (BA.out).inside (by omega); omega); replace BD := Lib.hid ((BD.out).keptB hbKH); replace BA := Lib.hid ((BA.out).keptB hbKH); replace HB := Lib.hid ((HB.out).step hbKH); clear nKH hbKH hlKH))
  refine (take_any gB a 34 10 L C _ BD.out (by omega) hC hM (by omega)).mono ?_
  rintro e w1 ⟨rfl, hb1, ht1⟩
  replace BD := Lib.hid hb1
  replace KH := Lib.hid ((KH.out).touch ht1 (Ne.symm HBKH.out))
  replace KR := Lib.hid ((KR.out).touch ht1 (Ne.symm HBKR.out))
  replace BA := Lib.hid ((BA.out).touch ht1 HAB.out)
  replace HB := Lib.hid ((HB.out).touch ht1 (fun _ => by simp))
  clear hb1 ht1
  go_wp2_with fail
  refine (fget_yes a L C zs _ hz (by omega) HN.out BA.out HT.out).mono ?_
  rintro e w2 ⟨rfl, hw2⟩
  replace KH := Lib.hid ((KH.out).keptB hw2)
  replace KR := Lib.hid ((KR.out).keptB hw2)
  replace BD := Lib.hid ((BD.out).keptB hw2)
  replace BA := Lib.hid ((BA.out).keptB hw2)
  replace HB := Lib.hid ((HB.out).step hw2)
  clear hw2
  go_wp2_with (first | (refine big_fill rfl 49 _ _ rfl gKM (msA (⟨hd, tsOf zs, tnOf zs, zeroP, 0, 0, 0, 0, 0, 0, zeroC, 0, zeroP, zeroP, 0⟩ : Ms)) rfl rfl KM.out (by kernel_rfl) (by kernel_rfl) (by kernel_rfl) ?_; intro vKM0 nKM tKM; replace KM := Lib.hid nKM; replace KH := Lib.hid ((KH.out).touch tKM NKHKM.out); replace KR := Lib.hid ((KR.out).touch tKM NKRKM.out); replace KS := Lib.hid ((KS.out).touch tKM NKSKM.out); replace BD := Lib.hid ((BD.out).touch tKM HBKM.out); replace BA := Lib.hid ((BA.out).touch tKM HAKM.out); replace HB := Lib.hid ((HB.out).touch tKM (fun h => by have := LKM.out; omega)); clear nKM tKM; have x0 := (KH.out).reads (i := 0) (x := .int .i64 hd.t) rfl) | (refine big_alloc rfl 49 rfl (msA zeroM) (by kernel_rfl) ?_; intro gKM wKM hlKM nKM hbKM; have KM := Lib.hid nKM; have LKM := Lib.hid (show w.heap.size ≤ gKM from Nat.le_trans (HB.out).size hlKM); have HBKM := Lib.hid (show gB ≠ gKM by have := (BD.out).inside; omega); have HAKM := Lib.hid (show a.block ≠ gKM by have := (BA.out).inside (by omega); omega); have NKHKM := Lib.hid (show gKH ≠ gKM by have := (KH.out).inside; omega); have NKRKM := Lib.hid (show gKR ≠ gKM by have := (KR.out).inside; omega); have NKSKM := Lib.hid (show gKS ≠ gKM by have := (KS.out).inside; omega); replace KH := Lib.hid ((KH.out).keptB hbKM); replace KR := Lib.hid ((KR.out).keptB hbKM); replace KS := Lib.hid ((KS.out).keptB hbKM); replace BD := Lib.hid ((BD.out).keptB hbKM); replace BA := Lib.hid ((BA.out).keptB hbKM); replace HB := Lib.hid ((HB.out).step hbKM); clear nKM hbKM hlKM) | (refine big_build rfl 49 _ rfl (msA (⟨hd, tsOf zs, tnOf zs, zeroP, 0, 0, 0, 0, 0, 0, zeroC, 0, zeroP, zeroP, 0⟩ : Ms)) (by kernel_rfl) ?_) | (refine big_whole rfl 47 _ rfl gKS rfl KS.out Tryd.underlying47 rfl (by kernel_rfl) ?_) | (refine big_whole rfl 28 _ rfl gKH rfl KH.out Tryd.underlying28 rfl (by kernel_rfl) ?_) | (refine big_fill rfl 47 _ _ rfl gKS (#[.int .i64 (tsOf zs), .int .i64 (tnOf zs)]) rfl rfl KS.out (by kernel_rfl) (by kernel_rfl) (by kernel_rfl) ?_; intro vKS0 nKS tKS; replace KS := Lib.hid nKS; replace KH := Lib.hid ((KH.out).touch tKS NKHKS.out); replace KR := Lib.hid ((KR.out).touch tKS NKRKS.out); replace BD := Lib.hid ((BD.out).touch tKS HBKS.out); replace BA := Lib.hid ((BA.out).touch tKS HAKS.out); replace HB := Lib.hid ((HB.out).touch tKS (fun h => by have := LKS.out; omega)); clear nKS tKS) | (refine big_alloc rfl 47 rfl (#[.int .i64 0, .int .i64 0]) (by kernel_rfl) ?_; intro gKS wKS hlKS nKS hbKS; have KS := Lib.hid nKS; have LKS := Lib.hid (show w.heap.size ≤ gKS from Nat.le_trans (HB.out).size hlKS); have HBKS := Lib.hid (show gB ≠ gKS by have := (BD.out).inside; omega); have HAKS := Lib.hid (show a.block ≠ gKS by have := (BA.out).inside (by omega); omega); have NKHKS := Lib.hid (show gKH ≠ gKS by have := (KH.out).inside; omega); have NKRKS := Lib.hid (show gKR ≠ gKS by have := (KR.out).inside; omega); replace KH := Lib.hid ((KH.out).keptB hbKS); replace KR := Lib.hid ((KR.out).keptB hbKS); replace BD := Lib.hid ((BD.out).keptB hbKS); replace BA := Lib.hid ((BA.out).keptB hbKS); replace HB := Lib.hid ((HB.out).step hbKS); clear nKS hbKS hlKS))
  refine (take_any gB a 44 10 L C _ BD.out (by omega) hC hM (by omega)).mono ?_
  rintro e w3 ⟨rfl, hb3, ht3⟩
  clear x0
  replace BD := Lib.hid hb3
  replace KH := Lib.hid ((KH.out).touch ht3 (Ne.symm HBKH.out))
  replace KR := Lib.hid ((KR.out).touch ht3 (Ne.symm HBKR.out))
  replace KS := Lib.hid ((KS.out).touch ht3 (Ne.symm HBKS.out))
  replace KM := Lib.hid ((KM.out).touch ht3 (Ne.symm HBKM.out))
  replace BA := Lib.hid ((BA.out).touch ht3 HAB.out)
  replace HB := Lib.hid ((HB.out).touch ht3 (fun _ => by simp))
  clear hb3 ht3
  go_wp2_with fail
  refine (fidget a L C zs _ hz (by omega) HN.out BA.out).mono ?_
  rintro e w4 ⟨rfl, hw4⟩
  replace KH := Lib.hid ((KH.out).keptB hw4)
  replace KR := Lib.hid ((KR.out).keptB hw4)
  replace KS := Lib.hid ((KS.out).keptB hw4)
  replace KM := Lib.hid ((KM.out).keptB hw4)
  replace BD := Lib.hid ((BD.out).keptB hw4)
  replace BA := Lib.hid ((BA.out).keptB hw4)
  replace HB := Lib.hid ((HB.out).step hw4)
  clear hw4
  go_wp2_with (first | (refine big_fill rfl 49 _ _ rfl gKR (msA (⟨hd, tsOf zs, tnOf zs, getP ((zs.drop 44).take 10), 0, 0, 0, 0, 0, 0, zeroC, 0, zeroP, zeroP, 0⟩ : Ms)) rfl rfl KR.out (by kernel_rfl) (by kernel_rfl) (by kernel_rfl) ?_; intro vKR4 nKR tKR; replace KR := Lib.hid nKR; replace KH := Lib.hid ((KH.out).touch tKR NKHKR.out); replace KS := Lib.hid ((KS.out).touch tKR (Ne.symm NKRKS.out)); replace KM := Lib.hid ((KM.out).touch tKR (Ne.symm NKRKM.out)); replace BD := Lib.hid ((BD.out).touch tKR HBKR.out); replace BA := Lib.hid ((BA.out).touch tKR HAKR.out); replace HB := Lib.hid ((HB.out).touch tKR (fun h => by have := LKR.out; omega)); clear nKR tKR) | (refine big_whole rfl 49 _ rfl gKM rfl KM.out Tryd.underlying49 rfl (by kernel_rfl) ?_) | (refine big_store rfl 26 _ _ rfl gKM 17 [.int .u8 (getP ((zs.drop 44).take 10)).c.b0, .int .u8 (getP ((zs.drop 44).take 10)).c.b1, .int .u8 (getP ((zs.drop 44).take 10)).c.b2, .int .u8 (getP ((zs.drop 44).take 10)).c.b3, .int .u8 (getP ((zs.drop 44).take 10)).c.b4, .int .u8 (getP ((zs.drop 44).take 10)).c.b5, .int .u8 (getP ((zs.drop 44).take 10)).c.b6, .int .u8 (getP ((zs.drop 44).take 10)).c.b7, .int .i64 (getP ((zs.drop 44).take 10)).n] rfl rfl KM.out (by kernel_rfl) (by kernel_rfl) (of_decide_eq_true (by kernel_rfl)) (msA (⟨hd, tsOf zs, tnOf zs, getP ((zs.drop 44).take 10), 0, 0, 0, 0, 0, 0, zeroC, 0, zeroP, zeroP, 0⟩ : Ms)) (by kernel_rfl) ?_; intro vKM5 nKM tKM; replace KM := Lib.hid nKM; replace KH := Lib.hid ((KH.out).touch tKM NKHKM.out); replace KR := Lib.hid ((KR.out).touch tKM NKRKM.out); replace KS := Lib.hid ((KS.out).touch tKM NKSKM.out); replace BD := Lib.hid ((BD.out).touch tKM HBKM.out); replace BA := Lib.hid ((BA.out).touch tKM HAKM.out); replace HB := Lib.hid ((HB.out).touch tKM (fun h => by have := LKM.out; omega)); clear nKM tKM))
  refine bodyPost_ret (results_two rfl _ _ gKR _ (msA (⟨hd, tsOf zs, tnOf zs, getP ((zs.drop 44).take 10), 0, 0, 0, 0, 0, 0, zeroC, 0, zeroP, zeroP, 0⟩ : Ms)) (.bool true) _ rfl rfl KR.out Tryd.underlying49 rfl (by kernel_rfl)) rfl ⟨rfl, HB.out⟩
set_option maxHeartbeats 4000000 in
theorem read_11 (gB : Nat) (a : Addr) (L C : Nat) (zs : List Int) (hd : Hd) (w : World) (hb : Body w gB a 34 L C) (hL : 64 ≤ L) (hC : L ≤ C) (hM : C ≤ maxLen) (hz : zs.length = L) (hc : BytesAt w a zs) (hby : ∀ z ∈ zs, isByte z) (hab : a.block ≠ gB) (ht : rightB (tsOf zs) (tnOf zs) = true) (h9 : ¬ hd.t = 9) (h11 : hd.t = 11) :
    Calls Tryd.prog 48 #[.agg #[.int .i64 hd.t, .int .i64 hd.d, .int .i64 hd.f, .int .i64 hd.c, .int .u8 hd.p.c.b0, .int .u8 hd.p.c.b1, .int .u8 hd.p.c.b2, .int .u8 hd.p.c.b3, .int .u8 hd.p.c.b4, .int .u8 hd.p.c.b5, .int .u8 hd.p.c.b6, .int .u8 hd.p.c.b7, .int .i64 hd.p.n, .int .i64 hd.s, .int .i64 hd.l], .func (.func 68) #[] #[.pointer (some ⟨gB, 0, none⟩)]] w fun e w' => e = .returned (.tuple #[.agg (msA (⟨hd, tsOf zs, tnOf zs, zeroP, sg2 (zs.getD 44 0 * 256 + zs.getD 45 0), zs.getD 47 0, zs.getD 52 0, zs.getD 48 0, zs.getD 49 0, zs.getD 50 0 * 256 + zs.getD 51 0, ckOf zs 53, zs.getD 61 0 * 256 + zs.getD 62 0, hd.p, zeroP, zs.getD 63 0⟩ : Ms)), .bool (zs.getD 46 0 == 0)]) ∧ Only [gB] w.heap.size w w' := by
  have HB := Lib.hid (Only.refl [gB] w.heap.size w)
  have BD := Lib.hid hb
  have BA := Lib.hid hc
  have HN := Lib.hid hby
  have HAB := Lib.hid hab
  have HT := Lib.hid ht
  clear hb hc hby hab ht
  have d9 : (hd.t == 9) = false := by simp [h9]
  have d11 : (hd.t == 11) = true := by simp [h11]
  clear h9 h11
  go_enter Tryd.func48, Tryd.ntmps48
  go_wp2_with (first | (refine big_alloc rfl 49 rfl (msA zeroM) (by kernel_rfl) ?_; intro gKR wKR hlKR nKR hbKR; have KR := Lib.hid nKR; have LKR := Lib.hid (show w.heap.size ≤ gKR from Nat.le_trans (HB.out).size hlKR); have HBKR := Lib.hid (show gB ≠ gKR by have := (BD.out).inside; omega); have HAKR := Lib.hid (show a.block ≠ gKR by have := (BA.out).inside (by omega); omega); have NKHKR := Lib.hid (show gKH ≠ gKR by have := (KH.out).inside; omega); replace KH := Lib.hid ((KH.out).keptB hbKR); replace BD := Lib.hid ((BD.out).keptB hbKR); replace BA := Lib.hid ((BA.out).keptB hbKR); replace HB := Lib.hid ((HB.out).step hbKR); clear nKR hbKR hlKR) | (refine big_box rfl 28 _ rfl (#[.int .i64 hd.t, .int .i64 hd.d, .int .i64 hd.f, .int .i64 hd.c, .int .u8 hd.p.c.b0, .int .u8 hd.p.c.b1, .int .u8 hd.p.c.b2, .int .u8 hd.p.c.b3, .int .u8 hd.p.c.b4, .int .u8 hd.p.c.b5, .int .u8 hd.p.c.b6, .int .u8 hd.p.c.b7, .int .i64 hd.p.n, .int .i64 hd.s, .int .i64 hd.l]) rfl (by kernel_rfl) ?_; intro gKH wKH hlKH nKH hbKH; have KH := Lib.hid nKH; have LKH := Lib.hid (show w.heap.size ≤ gKH from Nat.le_trans (HB.out).size hlKH); have HBKH := Lib.hid (show gB ≠ gKH by have := (BD.out).inside; omega); have HAKH := Lib.hid (show a.block ≠ gKH by have := (BA.out).inside (by omega); omega); replace BD := Lib.hid ((BD.out).keptB hbKH); replace BA := Lib.hid ((BA.out).keptB hbKH); replace HB := Lib.hid ((HB.out).step hbKH); clear nKH hbKH hlKH))
  refine (take_any gB a 34 10 L C _ BD.out (by omega) hC hM (by omega)).mono ?_
  rintro e w1 ⟨rfl, hb1, ht1⟩
  replace BD := Lib.hid hb1
  replace KH := Lib.hid ((KH.out).touch ht1 (Ne.symm HBKH.out))
  replace KR := Lib.hid ((KR.out).touch ht1 (Ne.symm HBKR.out))
  replace BA := Lib.hid ((BA.out).touch ht1 HAB.out)
  replace HB := Lib.hid ((HB.out).touch ht1 (fun _ => by simp))
  clear hb1 ht1
  go_wp2_with fail
  refine (fget_yes a L C zs _ hz (by omega) HN.out BA.out HT.out).mono ?_
  rintro e w2 ⟨rfl, hw2⟩
  replace KH := Lib.hid ((KH.out).keptB hw2)
  replace KR := Lib.hid ((KR.out).keptB hw2)
  replace BD := Lib.hid ((BD.out).keptB hw2)
  replace BA := Lib.hid ((BA.out).keptB hw2)
  replace HB := Lib.hid ((HB.out).step hw2)
  clear hw2
  go_wp2_with (first | (refine big_fill rfl 49 _ _ rfl gKM (msA (⟨hd, tsOf zs, tnOf zs, zeroP, 0, 0, 0, 0, 0, 0, zeroC, 0, zeroP, zeroP, 0⟩ : Ms)) rfl rfl KM.out (by kernel_rfl) (by kernel_rfl) (by kernel_rfl) ?_; intro vKM0 nKM tKM; replace KM := Lib.hid nKM; replace KH := Lib.hid ((KH.out).touch tKM NKHKM.out); replace KR := Lib.hid ((KR.out).touch tKM NKRKM.out); replace KS := Lib.hid ((KS.out).touch tKM NKSKM.out); replace BD := Lib.hid ((BD.out).touch tKM HBKM.out); replace BA := Lib.hid ((BA.out).touch tKM HAKM.out); replace HB := Lib.hid ((HB.out).touch tKM (fun h => by have := LKM.out; omega)); clear nKM tKM; have x0 := (KH.out).reads (i := 0) (x := .int .i64 hd.t) rfl) | (refine big_alloc rfl 49 rfl (msA zeroM) (by kernel_rfl) ?_; intro gKM wKM hlKM nKM hbKM; have KM := Lib.hid nKM; have LKM := Lib.hid (show w.heap.size ≤ gKM from Nat.le_trans (HB.out).size hlKM); have HBKM := Lib.hid (show gB ≠ gKM by have := (BD.out).inside; omega); have HAKM := Lib.hid (show a.block ≠ gKM by have := (BA.out).inside (by omega); omega); have NKHKM := Lib.hid (show gKH ≠ gKM by have := (KH.out).inside; omega); have NKRKM := Lib.hid (show gKR ≠ gKM by have := (KR.out).inside; omega); have NKSKM := Lib.hid (show gKS ≠ gKM by have := (KS.out).inside; omega); replace KH := Lib.hid ((KH.out).keptB hbKM); replace KR := Lib.hid ((KR.out).keptB hbKM); replace KS := Lib.hid ((KS.out).keptB hbKM); replace BD := Lib.hid ((BD.out).keptB hbKM); replace BA := Lib.hid ((BA.out).keptB hbKM); replace HB := Lib.hid ((HB.out).step hbKM); clear nKM hbKM hlKM) | (refine big_build rfl 49 _ rfl (msA (⟨hd, tsOf zs, tnOf zs, zeroP, 0, 0, 0, 0, 0, 0, zeroC, 0, zeroP, zeroP, 0⟩ : Ms)) (by kernel_rfl) ?_) | (refine big_whole rfl 47 _ rfl gKS rfl KS.out Tryd.underlying47 rfl (by kernel_rfl) ?_) | (refine big_whole rfl 28 _ rfl gKH rfl KH.out Tryd.underlying28 rfl (by kernel_rfl) ?_) | (refine big_fill rfl 47 _ _ rfl gKS (#[.int .i64 (tsOf zs), .int .i64 (tnOf zs)]) rfl rfl KS.out (by kernel_rfl) (by kernel_rfl) (by kernel_rfl) ?_; intro vKS0 nKS tKS; replace KS := Lib.hid nKS; replace KH := Lib.hid ((KH.out).touch tKS NKHKS.out); replace KR := Lib.hid ((KR.out).touch tKS NKRKS.out); replace BD := Lib.hid ((BD.out).touch tKS HBKS.out); replace BA := Lib.hid ((BA.out).touch tKS HAKS.out); replace HB := Lib.hid ((HB.out).touch tKS (fun h => by have := LKS.out; omega)); clear nKS tKS) | (refine big_alloc rfl 47 rfl (#[.int .i64 0, .int .i64 0]) (by kernel_rfl) ?_; intro gKS wKS hlKS nKS hbKS; have KS := Lib.hid nKS; have LKS := Lib.hid (show w.heap.size ≤ gKS from Nat.le_trans (HB.out).size hlKS); have HBKS := Lib.hid (show gB ≠ gKS by have := (BD.out).inside; omega); have HAKS := Lib.hid (show a.block ≠ gKS by have := (BA.out).inside (by omega); omega); have NKHKS := Lib.hid (show gKH ≠ gKS by have := (KH.out).inside; omega); have NKRKS := Lib.hid (show gKR ≠ gKS by have := (KR.out).inside; omega); replace KH := Lib.hid ((KH.out).keptB hbKS); replace KR := Lib.hid ((KR.out).keptB hbKS); replace BD := Lib.hid ((BD.out).keptB hbKS); replace BA := Lib.hid ((BA.out).keptB hbKS); replace HB := Lib.hid ((HB.out).step hbKS); clear nKS hbKS hlKS))
  refine (readAnn_any gKM gB a L C zs hd (tsOf zs) (tnOf zs) _ KM.out BD.out hL hC hM hz BA.out HN.out HAB.out HAKM.out (Ne.symm HBKM.out)).mono ?_
  rintro e w5 ⟨rfl, nKM, h5⟩
  clear x0
  replace KM := Lib.hid nKM
  replace KR := Lib.hid ((KR.out).only h5 (by have := NKRKM.out; have := HBKR.out; simp; omega))
  replace HB := Lib.hid ((HB.out).trans h5 (fun x hx hlt => by have := LKM.out; simp at hx ⊢; omega))
  clear nKM h5 BD BA KH KS
  go_wp2_with (first | (refine big_fill rfl 49 _ _ rfl gKR (msA (⟨hd, tsOf zs, tnOf zs, zeroP, sg2 (zs.getD 44 0 * 256 + zs.getD 45 0), zs.getD 47 0, zs.getD 52 0, zs.getD 48 0, zs.getD 49 0, zs.getD 50 0 * 256 + zs.getD 51 0, ckOf zs 53, zs.getD 61 0 * 256 + zs.getD 62 0, hd.p, zeroP, zs.getD 63 0⟩ : Ms)) rfl rfl KR.out (by kernel_rfl) (by kernel_rfl) (by kernel_rfl) ?_; intro vR nKR tKR; replace KR := Lib.hid nKR; replace HB := Lib.hid ((HB.out).touch tKR (fun h => by have := LKR.out; omega)); clear nKR tKR) | (refine big_whole rfl 49 _ rfl gKM rfl KM.out Tryd.underlying49 rfl (by kernel_rfl) ?_))
  refine bodyPost_ret (results_two rfl _ _ gKR _ (msA (⟨hd, tsOf zs, tnOf zs, zeroP, sg2 (zs.getD 44 0 * 256 + zs.getD 45 0), zs.getD 47 0, zs.getD 52 0, zs.getD 48 0, zs.getD 49 0, zs.getD 50 0 * 256 + zs.getD 51 0, ckOf zs 53, zs.getD 61 0 * 256 + zs.getD 62 0, hd.p, zeroP, zs.getD 63 0⟩ : Ms)) (.bool (zs.getD 46 0 == 0)) _ rfl rfl KR.out Tryd.underlying49 rfl (by kernel_rfl)) rfl ⟨rfl, HB.out⟩

end Go.Proofs.YtifhjmhekapaoaaDoor
