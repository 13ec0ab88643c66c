/- The walk over stamp.Get. -/
import Derived.Test.YtaeefaembfgfhaaStampWire
namespace Go.Proofs.Ytaeefaembfgfhaa
open Go.RowKit
set_option linter.unusedVariables false

theorem splice_all (L cs : List Value) (h : cs.length = L.length) : splice L 0 cs = cs := by
  simp [splice, h]

/-- how a stamp and an error are told -/
def stampR (B : Bool) (s n : Int) : Ending := .returned (.tuple #[.agg #[.int .i64 (told B s), .int .i64 (told B n)], .int .i64 (if B then 0 else 20)])

set_option maxHeartbeats 400000 in
theorem get_short (A : Option Addr) (L C : Nat) (w : World) (hL : L ≠ 10) (hm : L ≤ maxLen) :
    Calls Try.prog 22 #[.slice A L C] w fun e w' => e = stampR false 0 0 ∧ Below w.heap.size w w' := by
  unfold maxLen at hm
  have hL' : ((L : Int) != 10) = true := by simp; omega
  go_enter Try.func22, Try.ntmps22
  go_wp2
  refine bodyPost_ret (v := .tuple #[.agg #[.int .i64 0, .int .i64 0], .int .i64 20]) (by simp [results, Try.results22, go_sem]) rfl ⟨rfl, ?_⟩
  exact bstep (bnew _ _) (bnew _ _)

theorem cells_of {zs : List Int} {w : World} {g : Nat} {t : TypeId} (h : Holds w g t (byteCells zs)) {o : Nat} {ys : List Int} (hy : ∀ i, i < ys.length → zs[o + i]? = ys[i]?) :
    ∀ i, i < ys.length → w.cell? ((⟨g, o, none⟩ : Addr).add i) = some (.int .u8 (ys.getD i 0)) := by
  intro i hi
  rw [Addr.add_lit]
  refine h.reads ?_
  have := hy i hi
  simp [byteCells, this, List.getD, List.getElem?_eq_getElem hi]

set_option maxHeartbeats 400000 in
theorem get_ten (a : Addr) (C : Nat) (zs : List Int) (w : World) (hl : zs.length = 10) (hb : ∀ z ∈ zs, isByte z)
    (hc : ∀ i, i < 10 → w.cell? (a.add i) = some (.int .u8 (zs.getD i 0))) :
    Calls Try.prog 22 #[.slice (some a) 10 C] w fun e w' => e = stampR (rightB (beN (zs.take 6)) (beN (zs.drop 6))) (beN (zs.take 6)) (beN (zs.drop 6)) ∧ Below w.heap.size w w' := by
  have HC : Hid (∀ j v, (zs.map (Value.int .u8))[j]? = some v → (((w.alloc (.cells #[.int .i64 0, .int .i64 0] 24)).alloc (.cells #[.int .u8 0, .int .u8 0, .int .u8 0, .int .u8 0, .int .u8 0, .int .u8 0, .int .u8 0, .int .u8 0, .int .u8 0, .int .u8 0] 58)).cell? (a.add j) = some v)) := by
    intro j v hv
    have hj : j < 10 := by
      have := (List.getElem?_eq_some_iff.1 hv).1
      simp at this; omega
    have hcj := hc j hj
    have hlt := World.block_lt_of_cell? w _ hcj
    rw [(bstep (bnew w _) (bnew _ _)).cell hlt, hcj]
    simp only [List.getElem?_map] at hv
    rw [List.getD, List.getElem?_eq_getElem (by omega)]
    rw [List.getElem?_eq_getElem (by omega)] at hv
    simpa using hv
  have HL := Lib.hid hl
  have HBy := Lib.hid hb
  obtain ⟨cs, HCS⟩ : ∃ cs, Hid (cs = zs.map (Value.int .u8)) := ⟨_, Lib.hid rfl⟩
  rw [← HCS.out] at HC
  have HN : Hid (cs.length = 10) := by rw [Hid, HCS.out]; simp [hl]
  have H1 : Hid (∀ v ∈ cs, v.oneCell' = true) := by
    rw [Hid, HCS.out]; intro v hv; simp at hv; obtain ⟨z, _, rfl⟩ := hv; rfl
  clear hc hl hb
  obtain ⟨x, HX⟩ : ∃ x, Hid (beN (zs.take 6) = x) := ⟨_, Lib.hid rfl⟩
  obtain ⟨y, HY⟩ : ∃ x, Hid (beN (zs.drop 6) = x) := ⟨_, Lib.hid rfl⟩
  rw [HX.out, HY.out]
  obtain ⟨B, HR⟩ : ∃ B, Hid (rightB x y = B) := ⟨_, Lib.hid rfl⟩
  rw [HR.out]
  go_enter Try.func22, Try.ntmps22
  have HF : Hid (0 + cs.length ≤ [Value.int .u8 0, .int .u8 0, .int .u8 0, .int .u8 0, .int .u8 0, .int .u8 0, .int .u8 0, .int .u8 0, .int .u8 0, .int .u8 0].length) := by rw [Hid, HN.out]; decide
  have HG := Lib.hid (Holds.fresh (w.alloc (.cells #[.int .i64 0, .int .i64 0] 24)) 58 #[.int .u8 0, .int .u8 0, .int .u8 0, .int .u8 0, .int .u8 0, .int .u8 0, .int .u8 0, .int .u8 0, .int .u8 0, .int .u8 0] (g := w.heap.size + 1) (by simp))
  have HZ := Lib.hid (((Holds.fresh w 24 #[.int .i64 0, .int .i64 0] rfl).laid (.cells #[.int .u8 0, .int .u8 0, .int .u8 0, .int .u8 0, .int .u8 0, .int .u8 0, .int .u8 0, .int .u8 0, .int .u8 0, .int .u8 0] 58)))
  have HBn := Lib.hid (bstep (bnew w (.cells #[.int .i64 0, .int .i64 0] 24)) (bnew _ (.cells #[.int .u8 0, .int .u8 0, .int .u8 0, .int .u8 0, .int .u8 0, .int .u8 0, .int .u8 0, .int .u8 0, .int .u8 0, .int .u8 0] 58)))
  go_wp2_with (with_reducible refine wpList_copy_splice rfl (.tmp 10) (.tmp 11) 38 38 rfl 5 Try.underlying38 (by kernel_rfl) _ _ _ _ _ _ rfl rfl (w.heap.size + 1) 0 [.int .u8 0, .int .u8 0, .int .u8 0, .int .u8 0, .int .u8 0, .int .u8 0, .int .u8 0, .int .u8 0, .int .u8 0, .int .u8 0] 58 ?_ cs ?_ ?_ ?_ H1.out (w.heap.size + 1) _ (Below.refl _ _) (Nat.le_refl _) ?_)
  · exact HG.out
  · exact HN.out
  · first | exact fun _ => HC.out | exact fun _ => ⟨rfl, a, rfl, HC.out⟩
  · exact HF.out
  intro w2 HG2 hB2
  have KG : Hid (Holds w2 (w.heap.size + 1) 58 (byteCells zs)) := by
    have h := HG2.out
    rw [splice_all _ _ (by rw [HN.out]; rfl), HCS.out] at h
    exact h
  have KZ := Lib.hid ((HZ.out).kept hB2 (by omega))
  have HB2 := Lib.hid ((HBn.out).trans (hB2.mono (by omega)))
  have c0 := (KZ.out).reads (i := 0) rfl
  clear HG2 hB2 HC HCS HN H1 HF HG HZ HBn
  have hlt := (KG.out).inside
  have KD := Lib.hid (KG.out).drew
  have KE := Lib.hid ((KG.out).laid (.cells #[.int .i64 0, .int .i64 0] 24)).drew
  have R1 : Hid (∀ v, Holds v (w.heap.size + 1) 58 (byteCells zs) → Calls Try.prog 36 #[.slice (some ⟨w.heap.size + 1, 0, none⟩) 6 10] v fun e w' => e = .returned (.int .i64 x) ∧ v = w') := by
    intro v hv
    have h := read_any ⟨w.heap.size + 1, 0, none⟩ 10 (zs.take 6) v (by rw [List.length_take]; omega) (fun z hz => HBy.out z (List.mem_of_mem_take hz)) (cells_of hv (fun i hi => by
      rw [List.length_take] at hi
      rw [List.getElem?_take, if_pos (by omega), Nat.zero_add]))
    rw [List.length_take, HL.out, HX.out] at h
    exact h
  have R2 : Hid (∀ v, Holds v (w.heap.size + 1) 58 (byteCells zs) → Calls Try.prog 36 #[.slice (some ⟨w.heap.size + 1, 6, none⟩) 4 4] v fun e w' => e = .returned (.int .i64 y) ∧ v = w') := by
    intro v hv
    have h := read_any ⟨w.heap.size + 1, 6, none⟩ 4 (zs.drop 6) v (by rw [List.length_drop, HL.out]; omega) (fun z hz => HBy.out z (List.mem_of_mem_drop hz)) (cells_of hv (fun i hi => by
      rw [List.getElem?_drop]))
    rw [List.length_drop, HL.out, HY.out] at h
    exact h
  clear KG
  go_wp2
  go_region_held3 (fun w' => w'.cell? ⟨w.heap.size, 0, none⟩ = some (.int .i64 0)) (first | go_keep)
    (first | (go_at_call 36; (with_reducible refine (R1.out _ ?_).mono ?_); (first | (with_reducible exact KD.out) | (with_reducible exact KE.out)); rintro e w' ⟨rfl, rfl⟩) | (go_at_call 36; (with_reducible refine (R2.out _ ?_).mono ?_); (first | (with_reducible exact KD.out) | (with_reducible exact KE.out)); rintro e w' ⟨rfl, rfl⟩))
  all_goals
    have KZ3 := Lib.hid ((KZ.out).laid (.cells #[.int .i64 x, .int .i64 y] 24)).drew
    have KS3 := Lib.hid (Holds.fresh w2 24 #[.int .i64 x, .int .i64 y] rfl).drew
    have HB3 := Lib.hid (bdrew (bstep HB2.out (bnew w2 (.cells #[.int .i64 x, .int .i64 y] 24))))
    clear R1 R2 KD KE c0 KZ HB2
    generalize (w2.alloc (.cells #[.int .i64 x, .int .i64 y] 24)).drew = W3 at *
    have c0 := (KS3.out).reads (i := 0) rfl
    have c1 := (KS3.out).reads (i := 1) rfl
    have k0 := (KZ3.out).reads (i := 0) rfl
    go_wp2_with fail
    refine (right_any x y _).mono ?_
    rintro e w4 ⟨rfl, hb4⟩
    rw [HR.out]
    have KZ4 := Lib.hid ((KZ3.out).kept hb4 (KZ3.out).inside)
    have KS4 := Lib.hid ((KS3.out).kept hb4 (KS3.out).inside)
    have HB4 := Lib.hid (bstep HB3.out hb4)
    clear c0 c1 k0 KZ3 KS3 HB3 hb4
    have c0 := (KS4.out).reads (i := 0) rfl
    have c1 := (KS4.out).reads (i := 1) rfl
    have k0 := (KZ4.out).reads (i := 0) rfl
    have k1 := (KZ4.out).reads (i := 1) rfl
    have f0 := (KZ4.out).open_ 0
    have f1 := (KZ4.out).open_ 1
    cases B
    · go_wp2
      refine bodyPost_ret (v := .tuple #[.agg #[.int .i64 0, .int .i64 0], .int .i64 20]) (by simp [results, Try.results22, go_sem, k0, k1]) rfl ⟨rfl, ?_⟩
      exact ((HB4.out).setCell (Nat.le_refl _) _).setCell (Nat.le_refl _) _
    · go_wp2
      refine bodyPost_ret (v := .tuple #[.agg #[.int .i64 x, .int .i64 y], .int .i64 0]) (by simp [results, Try.results22, go_sem, k0, k1]) rfl ⟨rfl, ?_⟩
      exact ((HB4.out).setCell (Nat.le_refl _) _).setCell (Nat.le_refl _) _

end Go.Proofs.Ytaeefaembfgfhaa
