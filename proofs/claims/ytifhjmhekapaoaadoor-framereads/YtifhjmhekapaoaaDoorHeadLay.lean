/- The walk over head.lay: pieces one behind the other. -/
import Derived.Test.YtifhjmhekapaoaaDoorHeadRows
namespace Go.Proofs.YtifhjmhekapaoaaDoor
set_option maxRecDepth 100000
open Go.RowKit
set_option linter.unusedVariables false

/-- a piece: where it lies, and its bytes -/
def pcV (p : Nat × List Int) : Value := .slice (some ⟨p.1, 0, none⟩) p.2.length p.2.length
def flatL (ps : List (Nat × List Int)) : List Int := ps.flatMap (·.2)
theorem flatL_take {ps : List (Nat × List Int)} {k : Nat} (hk : k < ps.length) : flatL (ps.take (k + 1)) = flatL (ps.take k) ++ ps[k].2 := by
  rw [List.take_succ_eq_append_getElem hk]
  simp only [flatL, List.flatMap_append, List.flatMap_cons, List.flatMap_nil, List.append_nil]
theorem flatL_le (ps : List (Nat × List Int)) (k : Nat) : (flatL (ps.take k)).length ≤ (flatL ps).length := by
  have h : flatL ps = flatL (ps.take k) ++ flatL (ps.drop k) := by
    simp only [flatL, ← List.flatMap_append, List.take_append_drop]
  rw [h, List.length_append]; omega
theorem made_34 : madeCells #[.int .u8 0] 34 = #[.int .u8 0, .int .u8 0, .int .u8 0, .int .u8 0, .int .u8 0, .int .u8 0, .int .u8 0, .int .u8 0, .int .u8 0, .int .u8 0, .int .u8 0, .int .u8 0, .int .u8 0, .int .u8 0, .int .u8 0, .int .u8 0, .int .u8 0, .int .u8 0, .int .u8 0, .int .u8 0, .int .u8 0, .int .u8 0, .int .u8 0, .int .u8 0, .int .u8 0, .int .u8 0, .int .u8 0, .int .u8 0, .int .u8 0, .int .u8 0, .int .u8 0, .int .u8 0, .int .u8 0, .int .u8 0] := by kernel_rfl
theorem make_34 (w : World) : (Instr.makeSlice 22 (.int .i64 0) (.int .i64 34)).run Tryd.prog w = .ok (.slice (some ⟨w.heap.size, 0, none⟩) 0 34) (w.alloc (.cells #[.int .u8 0, .int .u8 0, .int .u8 0, .int .u8 0, .int .u8 0, .int .u8 0, .int .u8 0, .int .u8 0, .int .u8 0, .int .u8 0, .int .u8 0, .int .u8 0, .int .u8 0, .int .u8 0, .int .u8 0, .int .u8 0, .int .u8 0, .int .u8 0, .int .u8 0, .int .u8 0, .int .u8 0, .int .u8 0, .int .u8 0, .int .u8 0, .int .u8 0, .int .u8 0, .int .u8 0, .int .u8 0, .int .u8 0, .int .u8 0, .int .u8 0, .int .u8 0, .int .u8 0, .int .u8 0] 5)) := by
  rw [← made_34]; exact make_bytes 0 34 (by omega) (by omega) (by omega) w
/-- what a round of lay keeps -/
def LayIn (w : World) (ps : List (Nat × List Int)) (k : Nat) (b : Value) (v : World) : Prop :=
  b = .slice (some ⟨w.heap.size, 0, none⟩) (flatL (ps.take k)).length 34 ∧ v.ownsRow w.heap.size 5 1 b (flatL (ps.take k)).length ((flatL (ps.take k)).map (Value.int .u8)) ∧ Below w.heap.size w v
/-- a row that is owned whole is known whole -/
theorem owned_whole {w : World} {base g n : Nat} {t : TypeId} {zs : List Int} (h : w.ownsRow base t 1 (.slice (some ⟨g, 0, none⟩) n n) n (zs.map (Value.int .u8))) : Holds w g t (byteCells zs) := by
  rcases h.2 with ⟨h0, _⟩ | ⟨g', cap', cur, hv, hbg, hg, hnc, hcm, hcs, htake⟩
  · cases h0
  · cases hv
    rw [Holds, hg]
    have : cur.toList = zs.map (Value.int .u8) := by
      rw [← htake, List.take_of_length_le]
      rw [Array.length_toList, hcs]; omega
    have h2 : cur = byteCells zs := by
      rw [byteCells, ← this]
    rw [h2]

set_option maxHeartbeats 1000000 in
theorem lay_any (B C n : Nat) (T : TypeId) (ps : List (Nat × List Int)) (w : World) (hn : ps.length = n) (hn2 : n ≤ 100) (hblk : Holds w B T (ps.map pcV).toArray) (hps : ∀ p ∈ ps, 0 < p.2.length ∧ Holds w p.1 5 (byteCells p.2)) (htot : (flatL ps).length = 34) :
    Calls Tryd.prog 55 #[.slice (some ⟨B, 0, none⟩) n C] w fun e w' => ∃ g, w.heap.size ≤ g ∧ e = .returned (.slice (some ⟨g, 0, none⟩) 34 34) ∧ Holds w' g 5 (byteCells (flatL ps)) ∧ Below w.heap.size w w' := by
  subst hn
  have HBK := Lib.hid hblk
  have HPS := Lib.hid hps
  have HT := Lib.hid htot
  clear hblk hps htot
  obtain ⟨i0, hi0, hz0, hz1, hz2⟩ := info_parts info_byte
  have hmk := make_34
  go_enter Tryd.func55, Tryd.ntmps55
  go_wp2
  clear hmk
  go_loopw [3, 9] (fun b i v => ∃ k : Nat, k ≤ ps.length ∧ i = .int .i64 k ∧ LayIn w ps k b v) (fun _ i _ => ps.length - (intOf i).toNat)
  case atStart =>
    refine ⟨0, by omega, rfl, rfl, ⟨by simp [flatL], .inr ⟨w.heap.size, 34, _, rfl, Nat.le_refl _, heap_alloc_at _ _ rfl, by simp [flatL], by unfold maxLen; omega, rfl, by simp [flatL]⟩⟩, ?_⟩
    exact bnew _ _
  case round =>
    obtain ⟨k, hk, rfl, rfl, HO, HB⟩ := hrel
    replace HB := Lib.hid HB
    replace HO := Lib.hid HO
    have hT := HT.out
    have hle := flatL_le ps k
    by_cases hlt : k < ps.length
    · have hmem := HPS.out ps[k] (List.getElem_mem hlt)
      have hblk2 : Hid (Holds wr ps[k].1 5 (byteCells ps[k].2)) := Lib.hid (hmem.2.kept HB.out hmem.2.inside)
      have hcell : Hid (wr.cell? ⟨B, k, none⟩ = some (pcV ps[k])) := Lib.hid (((HBK.out).kept HB.out (HBK.out).inside).reads (i := k) (by simp [List.getElem?_eq_getElem hlt]))
      have HF := Lib.hid (flatL_take hlt)
      have hle2 := flatL_le ps (k + 1)
      rw [HF.out, List.length_append] at hle2
      have hpos := hmem.1
      clear hmem
      obtain ⟨q, hq⟩ : ∃ q, ps[k] = q := ⟨_, rfl⟩
      rw [hq] at hblk2 hcell HF hle2 hpos
      obtain ⟨gp, zs⟩ := q
      clear hq
      have c1 : wr.cell? ⟨B, k, none⟩ = some (.slice (some ⟨gp, 0, none⟩) zs.length zs.length) := hcell.out
      clear hcell
      obtain ⟨m, hm⟩ : ∃ m, (flatL (ps.take k)).length = m := ⟨_, rfl⟩
      have HM := Lib.hid hm
      rw [hm] at HO hle2 ⊢
      clear hm hle
      change m + zs.length ≤ _ at hle2
      change 0 < zs.length at hpos
      go_wp2_with (at_builtin; refine wpList_append_own_spare _ rfl _ _ 22 rfl w.heap.size 5 i0 1 Tryd.underlying22 hi0 hz1 w.heap.size m 34 _ rfl HO.out ⟨gp, 0, none⟩ zs.length zs.length (zs.map (Value.int .u8)) rfl (by simp) (World.news_of_block hblk2.out) (by simp [Value.oneCell']) (by omega) ?_; intro w1 hown1 hgrow)
      go_roundw
      case rel =>
        refine ⟨k + 1, by omega, by go_num, ?_, ?_, ?_⟩
        · rw [HF.out, List.length_append, HM.out]
        · rw [HF.out, List.length_append, HM.out, List.map_append]
          exact hown1
        · exact (HB.out).grown hgrow (HB.out).size (fun g hg => by cases hg; exact Nat.le_refl _)
      case measure => simp [intOf]; omega
    · obtain rfl : k = ps.length := by omega
      rw [List.take_of_length_le (Nat.le_refl _)] at HO ⊢
      rw [HT.out] at HO ⊢
      clear hT hle
      go_wp2
      go_ret
      exact ⟨_, Nat.le_refl _, rfl, owned_whole HO.out, HB.out⟩

end Go.Proofs.YtifhjmhekapaoaaDoor
