/- The walk over RankGrands. -/
import Derived.Test.YtifhjmhekapaoaaRankAlive
import Derived.Test.YtifhjmhekapaoaaRankGrandMath
import Derived.Deep.AppendLies
namespace Go.Proofs.Ytifhjmhekapaoaa
set_option maxRecDepth 100000
open Go.RowKit
set_option linter.unusedVariables false

/-- the cells of sets -/
def setsL (l : List Rs) : List Value := l.flatMap fun s => (rsA s).toList
theorem setsL_length (l : List Rs) : (setsL l).length = l.length * 32 := by
  induction l with
  | nil => rfl
  | cons a l ih =>
    have h1 : (rsA a).toList.length = 32 := rfl
    simp only [setsL, List.flatMap_cons, List.length_append, List.length_cons] at ih ⊢
    rw [h1, ih]
    omega
theorem setsL_append (l : List Rs) (a : Rs) : setsL (l ++ [a]) = setsL l ++ setsL [a] := by
  unfold setsL; rw [List.flatMap_append]
theorem one_cells (s : Rs) : ∀ u ∈ setsL [s], u.oneCell' = true := by
  have h : (setsL [s]).all (·.oneCell') = true := rfl
  exact fun u hu => List.all_eq_true.1 h u hu
/-- a row that is owned is read as its sets -/
theorem own_sets {w : World} {base g n cap : Nat} {e : TypeId} {l : List Rs} (h : w.ownsRow base e 32 (.slice (some ⟨g, 0, none⟩) n cap) n (setsL l)) : l.length = n ∧ SetsAt w g 0 l := by
  have hl : l.length = n := by have := h.1; rw [setsL_length] at this; omega
  refine ⟨hl, ?_⟩
  rcases h.2 with ⟨h0, _⟩ | ⟨g', cap', cur, hv, _, hb, _, _, _, hcur⟩
  · cases h0
  · cases hv
    intro k s hk
    have hkn : k < n := by
      rw [← hl]
      by_cases hk' : k < l.length
      · exact hk'
      · rw [List.getElem?_eq_none (by omega)] at hk; cases hk
    have hr := rows_at (f := fun s : Rs => (rsA s).toList) (c := 32) (fun _ => rfl) l k s hk
    have e1 : l.flatMap (fun s => (rsA s).toList) = cur.toList.take (n * 32) := hcur.symm
    rw [e1, List.drop_take, List.take_take, show min 32 (n * 32 - k * 32) = 32 by omega] at hr
    rw [Nat.zero_add]
    exact Holds.range (show Holds w g e cur from hb) (o := k * 32) hr
theorem info_set : (Try.prog.info? 29).map (fun i => (i.zero, i.size, i.bytes)) = some (some (.agg (rsA zeroR)), 32, 88) := by kernel_rfl
/-- a set behind sets -/
theorem big_appendS {w : World} {ops : Array Oper} {rest : List Oper} {op : Oper} {a : Act} {Q : Exit → Act → World → Prop} (hw : Region.wanted op (yielded ops a.tmps) = true) (s x : Operand)
    (ho : op.op = .call { callee := .builtin .append, args := #[s, x], argTypes := #[35, 35] }) (base : Nat) {v : Value} {n : Nat} {l : List Rs} (hs : a.eval s = v) (hown : w.ownsRow base 29 32 v n (setsL l))
    (g : Nat) (y : Rs) (hx : a.eval x = .slice (some ⟨g, 0, none⟩) 1 1) (hy : Holds w g 29 (setsA [y])) (h63 : n + 1 ≤ 1000) (hbase : base ≤ w.heap.size)
    (h : ∀ v' w', w'.ownsRow base 29 32 v' (n + 1) (setsL (l ++ [y])) → Below base w w' → wpList Try.prog ops Q rest (a.put op.dst v') w') :
    wpList Try.prog ops Q (op :: rest) a w := by
  obtain ⟨i0, hi0, hx0⟩ := Option.map_eq_some_iff.1 info_set
  simp only [Prod.mk.injEq] at hx0
  obtain ⟨hz0, hz1, hz2⟩ := hx0
  refine BigFrame.wpList_want hw fun K hK => wp_append_lies w s x _ ho base 29 i0 _ 32 88 Try.underlying35 hi0 hz0 hz1 hz2 rfl (by omega) v n _ hs hown ⟨g, 0, none⟩ 1 1 (setsL [y]) hx rfl ?_ (one_cells y) (by omega) (by unfold maxLen; omega) (by omega) hbase _ rfl ?_
  · intro j u hu
    have := sets_at hy 0 y rfl j u (by simpa [setsL] using hu)
    simpa [Addr.add_mid] using this
  · intro g' cap w' hown' hgr hat hlt
    refine hK _ _ (h _ w' (by rw [setsL_append]; exact hown') ?_)
    refine (Below.refl base w).grown hgr hbase ?_
    intro k hk
    rcases hown.2 with ⟨h0, _⟩ | ⟨g2, cap', cur, hv, hbg, _⟩
    · rw [h0] at hk; simp [Value.ownBlock] at hk
    · rw [hv] at hk
      simp [Value.ownBlock] at hk
      omega
theorem range_sub {w : World} {g o d : Nat} {cs ls : List Value} (h : w.rangeAt g o cs) (hl : (cs.drop d).take ls.length = ls) : w.rangeAt g (o + d) ls := by
  intro j x hx
  rw [Nat.add_assoc]
  refine h (d + j) x ?_
  rw [← hl, List.getElem?_take] at hx
  split at hx
  · rw [List.getElem?_drop] at hx; exact hx
  · cases hx
theorem SetsAt.kept {w v : World} {B g o : Nat} {l : List Rs} (h : SetsAt w g o l) (hb : Below B w v) (hg : g < B) : SetsAt v g o l := h.block_ (hb.block g hg)
theorem own_below_ {w u : World} {base size n : Nat} {e : TypeId} {v : Value} {xs : List Value} (h : w.ownsRow base e size v n xs) (hb : Below w.heap.size w u) : u.ownsRow base e size v n xs := own_below h hb
set_option maxHeartbeats 4000000 in
theorem grands7_many (A : Option Addr) (L C : Nat) (w : World) (h : 40 < L) :
    Calls Try.prog 6 #[.slice A L C] w fun e w' => e = .returned (.bool true) ∧ Below w.heap.size w w' := by
  have HB := Lib.hid (Below.refl w.heap.size w)
  have d0 : decide ((40 : Int) < (L : Int)) = true := by simp; omega
  go_enter Try.func6, Try.ntmps6
  go_wp2_with fail
  refine (alive7_any _).mono ?_
  rintro e wz ⟨rfl, hz⟩
  replace HB := Lib.hid (bstep HB.out hz)
  clear hz
  go_wp2
  go_ret
  exact ⟨rfl, HB.out⟩
set_option maxHeartbeats 4000000 in
theorem grands7_nil (A : Option Addr) (C : Nat) (w : World) :
    Calls Try.prog 6 #[.slice A 0 C] w fun e w' => e = .returned (.bool true) ∧ Below w.heap.size w w' := by
  have HB := Lib.hid (Below.refl w.heap.size w)
  go_enter Try.func6, Try.ntmps6
  go_wp2_with fail
  refine (alive7_any _).mono ?_
  rintro e wz ⟨rfl, hz⟩
  replace HB := Lib.hid (bstep HB.out hz)
  clear hz
  go_wp2
  go_ret
  exact ⟨rfl, HB.out⟩
set_option maxHeartbeats 4000000 in
theorem grands7_main (l : List Rs) (g o L C : Nat) (w : World) (ho : ∀ s ∈ l, s.ok) (hn : l.length = L) (hL : L ≤ 40) (hL1 : 1 ≤ L) (h : SetsAt w g o l) (hg : g < w.heap.size) :
    Calls Try.prog 6 #[.slice (some ⟨g, o, none⟩) L C] w fun e w' => e = .returned (.bool true) ∧ Below w.heap.size w w' := by
  have HB := Lib.hid (Below.refl w.heap.size w)
  have K1 := Lib.hid h
  have HO := Lib.hid ho
  have HN := Lib.hid hn
  have HG : Hid (g < w.heap.size) := Lib.hid hg
  clear h ho hn hg
  have d0 : decide ((40 : Int) < (L : Int)) = false := decide_eq_false (by omega)
  have d1 : decide ((L : Int) < 1) = false := decide_eq_false (by omega)
  go_enter Try.func6, Try.ntmps6
  go_wp2
  go_loopw [20] (fun i v => ∃ k : Nat, k ≤ L ∧ i = .int .i64 k ∧ Hid (∀ (p q : Nat) (a b : Rs), q < p → p < k → l[p]? = some a → l[q]? = some b → eqC a.gr b.gr = false) ∧ Hid (SetsAt v g o l) ∧ Hid (Below w.heap.size w v)) (fun i _ => L - (intOf i).toNat)
  case atStart => exact ⟨0, by omega, rfl, Lib.hid (by intro p q a b _ h; omega), K1, HB⟩
  case round =>
    clear K1 HB
    rename_i V
    obtain ⟨k, hk, rfl, HU, K1, HB⟩ := hrel
    by_cases hlt : k < L
    · have hd : decide ((k : Int) < (L : Int)) = true := by simpa using hlt
      obtain ⟨a, ha⟩ : ∃ a, l[k]? = some a := ⟨_, List.getElem?_eq_getElem (show k < l.length by rw [HN.out]; exact hlt)⟩
      have HA := Lib.hid ha
      have HK := Lib.hid hlt
      clear ha
      go_wp2
      go_loopw [24] (fun i v => ∃ m : Nat, m ≤ k ∧ i = .int .i64 m ∧ Hid (∀ (q : Nat) (b : Rs), q < m → l[q]? = some b → eqC a.gr b.gr = false) ∧ Hid (SetsAt v g o l) ∧ Hid (Below w.heap.size w v)) (fun i _ => k - (intOf i).toNat)
      case atStart => exact ⟨0, by omega, rfl, Lib.hid (by intro q b h; omega), K1, HB⟩
      case round =>
        clear K1 HB
        rename_i V2
        obtain ⟨m, hm, rfl, HQ, K1, HB⟩ := hrel
        by_cases hlt2 : m < k
        · have hd2 : decide ((m : Int) < (k : Int)) = true := by simpa using hlt2
          obtain ⟨b, hb⟩ : ∃ b, l[m]? = some b := ⟨_, List.getElem?_eq_getElem (show m < l.length by rw [HN.out]; omega)⟩
          have HBb := Lib.hid hb
          have HKb := Lib.hid (show m < L by omega)
          clear hb
          cases he : eqC a.gr b.gr
          · have HE := Lib.hid he
            clear he
            go_wp2
            refine wp_region_noPanic ?_
            refine wp_region_held_drew (S := fun v => Below w.heap.size w v ∧ SetsAt v g o l) (by kernel_rfl) ?_ (fun hHeld => ?_)
            · exact ⟨bdrew HB.out, (K1.out).drew⟩
            clear HB K1
            refine wpAnyH_take (i := 0) (v := .slice (some ⟨g, o, none⟩) L C) (at_list rfl) (by kernel_rfl) (by kernel_rfl) (by kernel_rfl) (fun _ _ _ h => h) (Or.inl ⟨by rfl, ?_⟩) hHeld ?_
            · intro v hSv
              clear hHeld
              go_simp
            try simp only [Act.put, List.setIfInBounds_toArray, List.set_cons_zero, List.set_cons_succ]
            refine wpAnyH_take (i := 1) (v := .int .i64 k) (at_list rfl) (by kernel_rfl) (by kernel_rfl) (by kernel_rfl) (fun _ _ _ h => h) (Or.inl ⟨by rfl, ?_⟩) hHeld ?_
            · intro v hSv
              clear hHeld
              go_simp
            try simp only [Act.put, List.setIfInBounds_toArray, List.set_cons_zero, List.set_cons_succ]
            refine wpAnyH_take (i := 2) (v := .pointer (some ⟨g, o + k * 32, none⟩)) (at_list rfl) (by kernel_rfl) (by kernel_rfl) (by kernel_rfl) (fun _ _ _ h => h) (yields_index (by rfl) 35 _ _ rfl g o L C k 32 rfl rfl HK.out Try.underlying35 (by kernel_rfl)) hHeld ?_
            try simp only [Act.put, List.setIfInBounds_toArray, List.set_cons_zero, List.set_cons_succ]
            refine wpAnyH_take (i := 3) (v := .pointer (some ⟨g, o + k * 32 + 5, none⟩)) (at_list rfl) (by kernel_rfl) (by kernel_rfl) (by kernel_rfl) (fun _ _ _ h => h) (Or.inl ⟨by rfl, ?_⟩) hHeld ?_
            · intro v hSv
              clear hHeld
              go_simp
            try simp only [Act.put, List.setIfInBounds_toArray, List.set_cons_zero, List.set_cons_succ]
            refine wpAnyH_take (i := 4) (v := .agg #[.int .u8 a.gr.b0, .int .u8 a.gr.b1, .int .u8 a.gr.b2, .int .u8 a.gr.b3, .int .u8 a.gr.b4, .int .u8 a.gr.b5, .int .u8 a.gr.b6, .int .u8 a.gr.b7]) (at_list rfl) (by kernel_rfl) (by kernel_rfl) (by kernel_rfl) (fun _ _ _ h => h) (yieldsIf_load_mid (by rfl) 25 _ rfl g (o + k * 32 + 5) rfl [.int .u8 a.gr.b0, .int .u8 a.gr.b1, .int .u8 a.gr.b2, .int .u8 a.gr.b3, .int .u8 a.gr.b4, .int .u8 a.gr.b5, .int .u8 a.gr.b6, .int .u8 a.gr.b7] _ (fun v hv => range_sub (hv.2 k a HA.out) (d := 5) rfl) Try.underlying25 rfl (by kernel_rfl)) hHeld ?_
            try simp only [Act.put, List.setIfInBounds_toArray, List.set_cons_zero, List.set_cons_succ]
            refine wpAnyH_take (i := 5) (v := .slice (some ⟨g, o, none⟩) L C) (at_list rfl) (by kernel_rfl) (by kernel_rfl) (by kernel_rfl) (fun _ _ _ h => h) (Or.inl ⟨by rfl, ?_⟩) hHeld ?_
            · intro v hSv
              clear hHeld
              go_simp
            try simp only [Act.put, List.setIfInBounds_toArray, List.set_cons_zero, List.set_cons_succ]
            refine wpAnyH_take (i := 6) (v := .int .i64 m) (at_list rfl) (by kernel_rfl) (by kernel_rfl) (by kernel_rfl) (fun _ _ _ h => h) (Or.inl ⟨by rfl, ?_⟩) hHeld ?_
            · intro v hSv
              clear hHeld
              go_simp
            try simp only [Act.put, List.setIfInBounds_toArray, List.set_cons_zero, List.set_cons_succ]
            refine wpAnyH_take (i := 7) (v := .pointer (some ⟨g, o + m * 32, none⟩)) (at_list rfl) (by kernel_rfl) (by kernel_rfl) (by kernel_rfl) (fun _ _ _ h => h) (yields_index (by rfl) 35 _ _ rfl g o L C m 32 rfl rfl HKb.out Try.underlying35 (by kernel_rfl)) hHeld ?_
            try simp only [Act.put, List.setIfInBounds_toArray, List.set_cons_zero, List.set_cons_succ]
            refine wpAnyH_take (i := 8) (v := .pointer (some ⟨g, o + m * 32 + 5, none⟩)) (at_list rfl) (by kernel_rfl) (by kernel_rfl) (by kernel_rfl) (fun _ _ _ h => h) (Or.inl ⟨by rfl, ?_⟩) hHeld ?_
            · intro v hSv
              clear hHeld
              go_simp
            try simp only [Act.put, List.setIfInBounds_toArray, List.set_cons_zero, List.set_cons_succ]
            refine wpAnyH_take (i := 9) (v := .agg #[.int .u8 b.gr.b0, .int .u8 b.gr.b1, .int .u8 b.gr.b2, .int .u8 b.gr.b3, .int .u8 b.gr.b4, .int .u8 b.gr.b5, .int .u8 b.gr.b6, .int .u8 b.gr.b7]) (at_list rfl) (by kernel_rfl) (by kernel_rfl) (by kernel_rfl) (fun _ _ _ h => h) (yieldsIf_load_mid (by rfl) 25 _ rfl g (o + m * 32 + 5) rfl [.int .u8 b.gr.b0, .int .u8 b.gr.b1, .int .u8 b.gr.b2, .int .u8 b.gr.b3, .int .u8 b.gr.b4, .int .u8 b.gr.b5, .int .u8 b.gr.b6, .int .u8 b.gr.b7] _ (fun v hv => range_sub (hv.2 m b HBb.out) (d := 5) rfl) Try.underlying25 rfl (by kernel_rfl)) hHeld ?_
            try simp only [Act.put, List.setIfInBounds_toArray, List.set_cons_zero, List.set_cons_succ]
            refine wpAnyH_take (i := 10) (v := .bool false) (at_list rfl) (by kernel_rfl) (by kernel_rfl) (by kernel_rfl) (fun _ _ _ h => h) (yields_cmp (by rfl) .eql 25 _ _ _ rfl (#[.int .u8 a.gr.b0, .int .u8 a.gr.b1, .int .u8 a.gr.b2, .int .u8 a.gr.b3, .int .u8 a.gr.b4, .int .u8 a.gr.b5, .int .u8 a.gr.b6, .int .u8 a.gr.b7]) (#[.int .u8 b.gr.b0, .int .u8 b.gr.b1, .int .u8 b.gr.b2, .int .u8 b.gr.b3, .int .u8 b.gr.b4, .int .u8 b.gr.b5, .int .u8 b.gr.b6, .int .u8 b.gr.b7]) rfl rfl (by kernel_rfl) false (fun v => (eql_clock a.gr b.gr v).trans (by rw [HE.out]))) hHeld ?_
            try simp only [Act.put, List.setIfInBounds_toArray, List.set_cons_zero, List.set_cons_succ]
            refine wpAnyH_done (by kernel_rfl) ?_ _
            refine NoPanic.normal ?_
            have HB := Lib.hid hHeld.1
            have K1 := Lib.hid hHeld.2
            clear hHeld
            go_wp2
            go_roundw
            case rel =>
              refine ⟨m + 1, by omega, by go_num, Lib.hid ?_, K1, HB⟩
              intro q c hq hc
              by_cases hqm : q = m
              · subst hqm
                rw [HBb.out] at hc
                rw [← Option.some.inj hc]
                exact HE.out
              · exact HQ.out q c (by omega) hc
            case measure => simp [intOf]; omega
          · have HE := Lib.hid he
            clear he
            go_wp2
            refine wp_region_noPanic ?_
            refine wp_region_held_drew (S := fun v => Below w.heap.size w v ∧ SetsAt v g o l) (by kernel_rfl) ?_ (fun hHeld => ?_)
            · exact ⟨bdrew HB.out, (K1.out).drew⟩
            clear HB K1
            refine wpAnyH_take (i := 0) (v := .slice (some ⟨g, o, none⟩) L C) (at_list rfl) (by kernel_rfl) (by kernel_rfl) (by kernel_rfl) (fun _ _ _ h => h) (Or.inl ⟨by rfl, ?_⟩) hHeld ?_
            · intro v hSv
              clear hHeld
              go_simp
            try simp only [Act.put, List.setIfInBounds_toArray, List.set_cons_zero, List.set_cons_succ]
            refine wpAnyH_take (i := 1) (v := .int .i64 k) (at_list rfl) (by kernel_rfl) (by kernel_rfl) (by kernel_rfl) (fun _ _ _ h => h) (Or.inl ⟨by rfl, ?_⟩) hHeld ?_
            · intro v hSv
              clear hHeld
              go_simp
            try simp only [Act.put, List.setIfInBounds_toArray, List.set_cons_zero, List.set_cons_succ]
            refine wpAnyH_take (i := 2) (v := .pointer (some ⟨g, o + k * 32, none⟩)) (at_list rfl) (by kernel_rfl) (by kernel_rfl) (by kernel_rfl) (fun _ _ _ h => h) (yields_index (by rfl) 35 _ _ rfl g o L C k 32 rfl rfl HK.out Try.underlying35 (by kernel_rfl)) hHeld ?_
            try simp only [Act.put, List.setIfInBounds_toArray, List.set_cons_zero, List.set_cons_succ]
            refine wpAnyH_take (i := 3) (v := .pointer (some ⟨g, o + k * 32 + 5, none⟩)) (at_list rfl) (by kernel_rfl) (by kernel_rfl) (by kernel_rfl) (fun _ _ _ h => h) (Or.inl ⟨by rfl, ?_⟩) hHeld ?_
            · intro v hSv
              clear hHeld
              go_simp
            try simp only [Act.put, List.setIfInBounds_toArray, List.set_cons_zero, List.set_cons_succ]
            refine wpAnyH_take (i := 4) (v := .agg #[.int .u8 a.gr.b0, .int .u8 a.gr.b1, .int .u8 a.gr.b2, .int .u8 a.gr.b3, .int .u8 a.gr.b4, .int .u8 a.gr.b5, .int .u8 a.gr.b6, .int .u8 a.gr.b7]) (at_list rfl) (by kernel_rfl) (by kernel_rfl) (by kernel_rfl) (fun _ _ _ h => h) (yieldsIf_load_mid (by rfl) 25 _ rfl g (o + k * 32 + 5) rfl [.int .u8 a.gr.b0, .int .u8 a.gr.b1, .int .u8 a.gr.b2, .int .u8 a.gr.b3, .int .u8 a.gr.b4, .int .u8 a.gr.b5, .int .u8 a.gr.b6, .int .u8 a.gr.b7] _ (fun v hv => range_sub (hv.2 k a HA.out) (d := 5) rfl) Try.underlying25 rfl (by kernel_rfl)) hHeld ?_
            try simp only [Act.put, List.setIfInBounds_toArray, List.set_cons_zero, List.set_cons_succ]
            refine wpAnyH_take (i := 5) (v := .slice (some ⟨g, o, none⟩) L C) (at_list rfl) (by kernel_rfl) (by kernel_rfl) (by kernel_rfl) (fun _ _ _ h => h) (Or.inl ⟨by rfl, ?_⟩) hHeld ?_
            · intro v hSv
              clear hHeld
              go_simp
            try simp only [Act.put, List.setIfInBounds_toArray, List.set_cons_zero, List.set_cons_succ]
            refine wpAnyH_take (i := 6) (v := .int .i64 m) (at_list rfl) (by kernel_rfl) (by kernel_rfl) (by kernel_rfl) (fun _ _ _ h => h) (Or.inl ⟨by rfl, ?_⟩) hHeld ?_
            · intro v hSv
              clear hHeld
              go_simp
            try simp only [Act.put, List.setIfInBounds_toArray, List.set_cons_zero, List.set_cons_succ]
            refine wpAnyH_take (i := 7) (v := .pointer (some ⟨g, o + m * 32, none⟩)) (at_list rfl) (by kernel_rfl) (by kernel_rfl) (by kernel_rfl) (fun _ _ _ h => h) (yields_index (by rfl) 35 _ _ rfl g o L C m 32 rfl rfl HKb.out Try.underlying35 (by kernel_rfl)) hHeld ?_
            try simp only [Act.put, List.setIfInBounds_toArray, List.set_cons_zero, List.set_cons_succ]
            refine wpAnyH_take (i := 8) (v := .pointer (some ⟨g, o + m * 32 + 5, none⟩)) (at_list rfl) (by kernel_rfl) (by kernel_rfl) (by kernel_rfl) (fun _ _ _ h => h) (Or.inl ⟨by rfl, ?_⟩) hHeld ?_
            · intro v hSv
              clear hHeld
              go_simp
            try simp only [Act.put, List.setIfInBounds_toArray, List.set_cons_zero, List.set_cons_succ]
            refine wpAnyH_take (i := 9) (v := .agg #[.int .u8 b.gr.b0, .int .u8 b.gr.b1, .int .u8 b.gr.b2, .int .u8 b.gr.b3, .int .u8 b.gr.b4, .int .u8 b.gr.b5, .int .u8 b.gr.b6, .int .u8 b.gr.b7]) (at_list rfl) (by kernel_rfl) (by kernel_rfl) (by kernel_rfl) (fun _ _ _ h => h) (yieldsIf_load_mid (by rfl) 25 _ rfl g (o + m * 32 + 5) rfl [.int .u8 b.gr.b0, .int .u8 b.gr.b1, .int .u8 b.gr.b2, .int .u8 b.gr.b3, .int .u8 b.gr.b4, .int .u8 b.gr.b5, .int .u8 b.gr.b6, .int .u8 b.gr.b7] _ (fun v hv => range_sub (hv.2 m b HBb.out) (d := 5) rfl) Try.underlying25 rfl (by kernel_rfl)) hHeld ?_
            try simp only [Act.put, List.setIfInBounds_toArray, List.set_cons_zero, List.set_cons_succ]
            refine wpAnyH_take (i := 10) (v := .bool true) (at_list rfl) (by kernel_rfl) (by kernel_rfl) (by kernel_rfl) (fun _ _ _ h => h) (yields_cmp (by rfl) .eql 25 _ _ _ rfl (#[.int .u8 a.gr.b0, .int .u8 a.gr.b1, .int .u8 a.gr.b2, .int .u8 a.gr.b3, .int .u8 a.gr.b4, .int .u8 a.gr.b5, .int .u8 a.gr.b6, .int .u8 a.gr.b7]) (#[.int .u8 b.gr.b0, .int .u8 b.gr.b1, .int .u8 b.gr.b2, .int .u8 b.gr.b3, .int .u8 b.gr.b4, .int .u8 b.gr.b5, .int .u8 b.gr.b6, .int .u8 b.gr.b7]) rfl rfl (by kernel_rfl) true (fun v => (eql_clock a.gr b.gr v).trans (by rw [HE.out]))) hHeld ?_
            try simp only [Act.put, List.setIfInBounds_toArray, List.set_cons_zero, List.set_cons_succ]
            refine wpAnyH_done (by kernel_rfl) ?_ _
            refine NoPanic.normal ?_
            have HB := Lib.hid hHeld.1
            have K1 := Lib.hid hHeld.2
            clear hHeld
            go_wp2_with fail
            refine (alive7_any _).mono ?_
            rintro e wz ⟨rfl, hz⟩
            replace HB := Lib.hid (bstep HB.out hz)
            clear hz
            go_wp2
            go_ret
            exact ⟨rfl, HB.out⟩
        · have hd2 : decide ((m : Int) < (k : Int)) = false := by simpa using hlt2
          go_wp2
          go_roundw
          case rel =>
            refine ⟨k + 1, by omega, by go_num, Lib.hid ?_, K1, HB⟩
            intro p q c d hqp hp hc hd'
            by_cases hpk : p = k
            · subst hpk
              rw [HA.out] at hc
              rw [← Option.some.inj hc]
              exact HQ.out q d (by omega) hd'
            · exact HU.out p q c d hqp (by omega) hc hd'
          case measure => simp [intOf]; omega
    · have hd : decide ((k : Int) < (L : Int)) = false := by simpa using hlt
      have hu : unlikeL l := by
        intro p q c d hqp hc hd'
        refine HU.out p q c d hqp ?_ hc hd'
        by_cases hp : p < l.length
        · rw [HN.out] at hp; omega
        · rw [List.getElem?_eq_none (by omega)] at hc; cases hc
      obtain ⟨K, s, hKl, hKs, hKf, hKm, hKr⟩ := grands_first (l := l) (by rintro rfl; have := HN.out; simp at this; omega) hu
      rw [HN.out] at hKl hKr
      have HS := Lib.hid hKs
      have HK := Lib.hid hKl
      have HF := Lib.hid hKf
      have HM := Lib.hid hKm
      have HR := Lib.hid hKr
      clear hu hKs hKf hKm hKr HU
      have e1 : decide ((K : Int) < 0) = false := decide_eq_false (by omega)
      have e2 : decide ((L : Int) ≤ (K : Int)) = false := decide_eq_false (by omega)
      have e3 : decide (L ≤ K) = false := decide_eq_false (by omega)
      go_wp2_with fail
      refine (first7_any l g o L C _ HO.out HN.out (by omega) K1.out).mono ?_
      rintro e c1 ⟨rfl, hc1⟩
      replace K1 := Lib.hid ((K1.out).keptB hc1)
      replace HB := Lib.hid (bstep HB.out hc1)
      clear hc1
      rw [HF.out]
      go_wp2
      go_loopw [53] (fun i v => ∃ j : Nat, j ≤ L ∧ i = .int .i64 j ∧ Hid (SetsAt v g o l) ∧ Hid (Below w.heap.size w v)) (fun i _ => L - (intOf i).toNat)
      case atStart => exact ⟨0, by omega, rfl, K1, HB⟩
      case round =>
        clear K1 HB
        rename_i V3
        obtain ⟨j, hj, rfl, K1, HB⟩ := hrel
        by_cases hlt3 : j < L
        · have hd3 : decide ((j : Int) < (L : Int)) = true := by simpa using hlt3
          obtain ⟨b, hb⟩ : ∃ b, l[j]? = some b := ⟨_, List.getElem?_eq_getElem (show j < l.length by rw [HN.out]; exact hlt3)⟩
          have HBb := Lib.hid hb
          have HKb := Lib.hid hlt3
          by_cases hjK : j = K
          · subst hjK
            clear hb
            go_wp2
            refine wp_region_noPanic ?_
            refine wp_region_held_drew (S := fun v => Below w.heap.size w v ∧ SetsAt v g o l) (by kernel_rfl) ?_ (fun hHeld => ?_)
            · exact ⟨bdrew HB.out, (K1.out).drew⟩
            clear HB K1
            refine wpAnyH_take (i := 0) (v := .int .i64 j) (at_list rfl) (by kernel_rfl) (by kernel_rfl) (by kernel_rfl) (fun _ _ _ h => h) (Or.inl ⟨by rfl, ?_⟩) hHeld ?_
            · intro v hSv
              clear hHeld
              go_simp
            try simp only [Act.put, List.setIfInBounds_toArray, List.set_cons_zero, List.set_cons_succ]
            refine wpAnyH_take (i := 1) (v := .int .i64 j) (at_list rfl) (by kernel_rfl) (by kernel_rfl) (by kernel_rfl) (fun _ _ _ h => h) (Or.inl ⟨by rfl, ?_⟩) hHeld ?_
            · intro v hSv
              clear hHeld
              go_simp
            try simp only [Act.put, List.setIfInBounds_toArray, List.set_cons_zero, List.set_cons_succ]
            refine wpAnyH_take (i := 2) (v := .bool false) (at_list rfl) (by kernel_rfl) (by kernel_rfl) (by kernel_rfl) (fun _ _ _ h => h) (Or.inl ⟨by rfl, ?_⟩) hHeld ?_
            · intro v hSv
              clear hHeld
              go_simp
            try simp only [Act.put, List.setIfInBounds_toArray, List.set_cons_zero, List.set_cons_succ]
            refine wpAnyH_take (i := 3) (v := .bool false) (at_list rfl) (by kernel_rfl) (by kernel_rfl) (by kernel_rfl) (fun _ _ _ h => h) (Or.inl ⟨by rfl, ?_⟩) hHeld ?_
            · intro v hSv
              clear hHeld
              go_simp
            try simp only [Act.put, List.setIfInBounds_toArray, List.set_cons_zero, List.set_cons_succ]
            refine wpAnyH_take (i := 4) (v := undef) (at_list rfl) (by kernel_rfl) (by kernel_rfl) (by kernel_rfl) (fun _ _ _ h => h) (Or.inr ⟨by rfl, rfl⟩) hHeld ?_
            try simp only [Act.put, List.setIfInBounds_toArray, List.set_cons_zero, List.set_cons_succ]
            refine wpAnyH_take (i := 5) (v := undef) (at_list rfl) (by kernel_rfl) (by kernel_rfl) (by kernel_rfl) (fun _ _ _ h => h) (Or.inr ⟨by rfl, rfl⟩) hHeld ?_
            try simp only [Act.put, List.setIfInBounds_toArray, List.set_cons_zero, List.set_cons_succ]
            refine wpAnyH_take (i := 6) (v := undef) (at_list rfl) (by kernel_rfl) (by kernel_rfl) (by kernel_rfl) (fun _ _ _ h => h) (Or.inr ⟨by rfl, rfl⟩) hHeld ?_
            try simp only [Act.put, List.setIfInBounds_toArray, List.set_cons_zero, List.set_cons_succ]
            refine wpAnyH_take (i := 7) (v := undef) (at_list rfl) (by kernel_rfl) (by kernel_rfl) (by kernel_rfl) (fun _ _ _ h => h) (Or.inr ⟨by rfl, rfl⟩) hHeld ?_
            try simp only [Act.put, List.setIfInBounds_toArray, List.set_cons_zero, List.set_cons_succ]
            refine wpAnyH_take (i := 8) (v := undef) (at_list rfl) (by kernel_rfl) (by kernel_rfl) (by kernel_rfl) (fun _ _ _ h => h) (Or.inr ⟨by rfl, rfl⟩) hHeld ?_
            try simp only [Act.put, List.setIfInBounds_toArray, List.set_cons_zero, List.set_cons_succ]
            refine wpAnyH_take (i := 9) (v := undef) (at_list rfl) (by kernel_rfl) (by kernel_rfl) (by kernel_rfl) (fun _ _ _ h => h) (Or.inr ⟨by rfl, rfl⟩) hHeld ?_
            try simp only [Act.put, List.setIfInBounds_toArray, List.set_cons_zero, List.set_cons_succ]
            refine wpAnyH_take (i := 10) (v := undef) (at_list rfl) (by kernel_rfl) (by kernel_rfl) (by kernel_rfl) (fun _ _ _ h => h) (Or.inr ⟨by rfl, rfl⟩) hHeld ?_
            try simp only [Act.put, List.setIfInBounds_toArray, List.set_cons_zero, List.set_cons_succ]
            refine wpAnyH_take (i := 11) (v := undef) (at_list rfl) (by kernel_rfl) (by kernel_rfl) (by kernel_rfl) (fun _ _ _ h => h) (Or.inr ⟨by rfl, rfl⟩) hHeld ?_
            try simp only [Act.put, List.setIfInBounds_toArray, List.set_cons_zero, List.set_cons_succ]
            refine wpAnyH_take (i := 12) (v := undef) (at_list rfl) (by kernel_rfl) (by kernel_rfl) (by kernel_rfl) (fun _ _ _ h => h) (Or.inr ⟨by rfl, rfl⟩) hHeld ?_
            try simp only [Act.put, List.setIfInBounds_toArray, List.set_cons_zero, List.set_cons_succ]
            refine wpAnyH_take (i := 13) (v := undef) (at_list rfl) (by kernel_rfl) (by kernel_rfl) (by kernel_rfl) (fun _ _ _ h => h) (Or.inr ⟨by rfl, rfl⟩) hHeld ?_
            try simp only [Act.put, List.setIfInBounds_toArray, List.set_cons_zero, List.set_cons_succ]
            refine wpAnyH_take (i := 14) (v := .bool false) (at_list rfl) (by kernel_rfl) (by kernel_rfl) (by kernel_rfl) (fun _ _ _ h => h) (Or.inl ⟨by rfl, ?_⟩) hHeld ?_
            · intro v hSv
              clear hHeld
              go_simp
            try simp only [Act.put, List.setIfInBounds_toArray, List.set_cons_zero, List.set_cons_succ]
            refine wpAnyH_done (by kernel_rfl) ?_ _
            refine NoPanic.normal ?_
            have HB := Lib.hid hHeld.1
            have K1 := Lib.hid hHeld.2
            clear hHeld
            go_wp2
            go_roundw
            case rel => exact ⟨j + 1, by omega, by go_num, K1, HB⟩
            case measure => simp [intOf]; omega
          · have hlt4 := HM.out j b hjK hb
            obtain ⟨r, hr⟩ : ∃ r, grandN s b = r := ⟨_, rfl⟩
            rw [hr] at hlt4
            have HRr := Lib.hid hr
            have e5 : decide (0 ≤ r) = false := decide_eq_false (by omega)
            have e6 : ((j : Int) != (K : Int)) = true := by simp; omega
            have e7 : (j != K) = true := by simp [hjK]
            clear hb hr hlt4
            go_wp2
            refine wp_region_noPanic ?_
            refine wp_region_held_drew (S := fun v => Below w.heap.size w v ∧ SetsAt v g o l) (by kernel_rfl) ?_ (fun hHeld => ?_)
            · exact ⟨bdrew HB.out, (K1.out).drew⟩
            clear HB K1
            refine wpAnyH_take (i := 0) (v := .int .i64 j) (at_list rfl) (by kernel_rfl) (by kernel_rfl) (by kernel_rfl) (fun _ _ _ h => h) (Or.inl ⟨by rfl, ?_⟩) hHeld ?_
            · intro v hSv
              clear hHeld
              go_simp
            try simp only [Act.put, List.setIfInBounds_toArray, List.set_cons_zero, List.set_cons_succ]
            refine wpAnyH_take (i := 1) (v := .int .i64 K) (at_list rfl) (by kernel_rfl) (by kernel_rfl) (by kernel_rfl) (fun _ _ _ h => h) (Or.inl ⟨by rfl, ?_⟩) hHeld ?_
            · intro v hSv
              clear hHeld
              go_simp
            try simp only [Act.put, List.setIfInBounds_toArray, List.set_cons_zero, List.set_cons_succ]
            refine wpAnyH_take (i := 2) (v := .bool true) (at_list rfl) (by kernel_rfl) (by kernel_rfl) (by kernel_rfl) (fun _ _ _ h => h) (Or.inl ⟨by rfl, ?_⟩) hHeld ?_
            · intro v hSv
              clear hHeld
              clear hSv
              go_simp
            try simp only [Act.put, List.setIfInBounds_toArray, List.set_cons_zero, List.set_cons_succ]
            refine wpAnyH_take (i := 3) (v := .bool true) (at_list rfl) (by kernel_rfl) (by kernel_rfl) (by kernel_rfl) (fun _ _ _ h => h) (Or.inl ⟨by rfl, ?_⟩) hHeld ?_
            · intro v hSv
              clear hHeld
              go_simp
            try simp only [Act.put, List.setIfInBounds_toArray, List.set_cons_zero, List.set_cons_succ]
            refine wpAnyH_take (i := 4) (v := .slice (some ⟨g, o, none⟩) L C) (at_list rfl) (by kernel_rfl) (by kernel_rfl) (by kernel_rfl) (fun _ _ _ h => h) (Or.inl ⟨by rfl, ?_⟩) hHeld ?_
            · intro v hSv
              clear hHeld
              go_simp
            try simp only [Act.put, List.setIfInBounds_toArray, List.set_cons_zero, List.set_cons_succ]
            refine wpAnyH_take (i := 5) (v := .int .i64 K) (at_list rfl) (by kernel_rfl) (by kernel_rfl) (by kernel_rfl) (fun _ _ _ h => h) (Or.inl ⟨by rfl, ?_⟩) hHeld ?_
            · intro v hSv
              clear hHeld
              go_simp
            try simp only [Act.put, List.setIfInBounds_toArray, List.set_cons_zero, List.set_cons_succ]
            refine wpAnyH_take (i := 6) (v := .pointer (some ⟨g, o + K * 32, none⟩)) (at_list rfl) (by kernel_rfl) (by kernel_rfl) (by kernel_rfl) (fun _ _ _ h => h) (yields_index (by rfl) 35 _ _ rfl g o L C K 32 rfl rfl HK.out Try.underlying35 (by kernel_rfl)) hHeld ?_
            try simp only [Act.put, List.setIfInBounds_toArray, List.set_cons_zero, List.set_cons_succ]
            refine wpAnyH_take (i := 7) (v := .agg (rsA s)) (at_list rfl) (by kernel_rfl) (by kernel_rfl) (by kernel_rfl) (fun _ _ _ h => h) (yieldsIf_load_mid (by rfl) 29 _ rfl g (o + K * 32) rfl (rsA s).toList _ (fun v hv => hv.2 K s HS.out) Try.underlying29 rfl (by kernel_rfl)) hHeld ?_
            try simp only [Act.put, List.setIfInBounds_toArray, List.set_cons_zero, List.set_cons_succ]
            refine wpAnyH_take (i := 8) (v := .slice (some ⟨g, o, none⟩) L C) (at_list rfl) (by kernel_rfl) (by kernel_rfl) (by kernel_rfl) (fun _ _ _ h => h) (Or.inl ⟨by rfl, ?_⟩) hHeld ?_
            · intro v hSv
              clear hHeld
              go_simp
            try simp only [Act.put, List.setIfInBounds_toArray, List.set_cons_zero, List.set_cons_succ]
            refine wpAnyH_take (i := 9) (v := .int .i64 j) (at_list rfl) (by kernel_rfl) (by kernel_rfl) (by kernel_rfl) (fun _ _ _ h => h) (Or.inl ⟨by rfl, ?_⟩) hHeld ?_
            · intro v hSv
              clear hHeld
              go_simp
            try simp only [Act.put, List.setIfInBounds_toArray, List.set_cons_zero, List.set_cons_succ]
            refine wpAnyH_take (i := 10) (v := .pointer (some ⟨g, o + j * 32, none⟩)) (at_list rfl) (by kernel_rfl) (by kernel_rfl) (by kernel_rfl) (fun _ _ _ h => h) (yields_index (by rfl) 35 _ _ rfl g o L C j 32 rfl rfl HKb.out Try.underlying35 (by kernel_rfl)) hHeld ?_
            try simp only [Act.put, List.setIfInBounds_toArray, List.set_cons_zero, List.set_cons_succ]
            refine wpAnyH_take (i := 11) (v := .agg (rsA b)) (at_list rfl) (by kernel_rfl) (by kernel_rfl) (by kernel_rfl) (fun _ _ _ h => h) (yieldsIf_load_mid (by rfl) 29 _ rfl g (o + j * 32) rfl (rsA b).toList _ (fun v hv => hv.2 j b HBb.out) Try.underlying29 rfl (by kernel_rfl)) hHeld ?_
            try simp only [Act.put, List.setIfInBounds_toArray, List.set_cons_zero, List.set_cons_succ]
            refine wpAnyH_ready (rs := [12]) (by kernel_rfl) (by simp) ?_
            refine AllReadyH.cons (at_list rfl) (fun K hK => ?_) AllReadyH.nil
            go_simp
            refine (grand_any s b _).mono ?_
            rintro e v1 ⟨rfl, hv1⟩
            rw [HRr.out]
            go_wp2_with fail
            refine hK.out _ _ ?_ (fun hHeld2 => ?_)
            · exact ⟨bstep hHeld.1 hv1, hHeld.2.keptB hv1⟩
            clear hK hHeld
            have hHeld := hHeld2
            clear hHeld2 hv1
            try simp only [Act.put, List.setIfInBounds_toArray, List.set_cons_zero, List.set_cons_succ]
            refine wpAnyH_take (i := 13) (v := .bool false) (at_list rfl) (by kernel_rfl) (by kernel_rfl) (by kernel_rfl) (fun _ _ _ h => h) (Or.inl ⟨by rfl, ?_⟩) hHeld ?_
            · intro v hSv
              clear hHeld
              go_simp
            try simp only [Act.put, List.setIfInBounds_toArray, List.set_cons_zero, List.set_cons_succ]
            refine wpAnyH_take (i := 14) (v := .bool false) (at_list rfl) (by kernel_rfl) (by kernel_rfl) (by kernel_rfl) (fun _ _ _ h => h) (Or.inl ⟨by rfl, ?_⟩) hHeld ?_
            · intro v hSv
              clear hHeld
              go_simp
            try simp only [Act.put, List.setIfInBounds_toArray, List.set_cons_zero, List.set_cons_succ]
            refine wpAnyH_done (by kernel_rfl) ?_ _
            refine NoPanic.normal ?_
            have HB := Lib.hid hHeld.1
            have K1 := Lib.hid hHeld.2
            clear hHeld
            go_wp2
            go_roundw
            case rel => exact ⟨j + 1, by omega, by go_num, K1, HB⟩
            case measure => simp [intOf]; omega
        · have hd3 : decide ((j : Int) < (L : Int)) = false := by simpa using hlt3
          go_wp2
          go_loopw [7, 8] (fun s i v => ∃ (m r : Nat) (x : Value), m + r = L ∧ x = s ∧ i = .int .i64 ((r : Int) - 1) ∧ Hid (v.ownsRow w.heap.size 29 32 x m (setsL (l.reverse.take m))) ∧ Hid (SetsAt v g o l) ∧ Hid (Below w.heap.size w v)) (fun _ i _ => (intOf i + 1).toNat)
          case atStart => exact ⟨0, L, _, by omega, rfl, by go_num, Lib.hid ⟨by simp [setsL], .inl ⟨rfl, rfl⟩⟩, K1, HB⟩
          case round =>
            clear K1 HB
            rename_i V4
            obtain ⟨m, r, x, hmr, hx, rfl, OW, K1, HB⟩ := hrel
            subst hx
            cases r with
            | succ r =>
              have er : ((r + 1 : Nat) : Int) - 1 = (r : Int) := by omega
              rw [er]
              obtain ⟨b, hb⟩ : ∃ b, l[r]? = some b := ⟨_, List.getElem?_eq_getElem (show r < l.length by rw [HN.out]; omega)⟩
              have HBb := Lib.hid hb
              have HKb := Lib.hid (show r < L by omega)
              have HTK := Lib.hid (take_reverse_step (m := m) (by rw [HN.out]; exact hmr) hb)
              have e8 : decide (0 ≤ (r : Int)) = true := decide_eq_true (by omega)
              clear hb er
              go_wp2_with (first | (refine big_appendS rfl _ _ rfl w.heap.size rfl OW.out gK9 b rfl K9.out (by omega) (HB.out).size ?_; intro x2 w9 ow9 hb9; replace OW := Lib.hid ow9; replace K1 := Lib.hid ((K1.out).kept hb9 HG.out); replace HB := Lib.hid (bbelow HB.out hb9 (Nat.le_refl _)); clear ow9 hb9 K9) | (refine big_slices rfl 35 29 1 _ rfl (setsA [b]) 32 Try.underlying35 rfl rfl rfl (of_decide_eq_true (by kernel_rfl)) (of_decide_eq_true (by kernel_rfl)) (by kernel_rfl) ?_; intro gK9 wK9 hlK9 nK9 hbK9; have K9 := Lib.hid nK9; replace K1 := Lib.hid ((K1.out).keptB hbK9); replace OW := Lib.hid (own_below_ OW.out hbK9); replace HB := Lib.hid (bstep HB.out hbK9); clear hlK9 nK9 hbK9) | (refine big_loadAt rfl 29 _ rfl g (o + r * 32) rfl (rsA b) (K1.out r b HBb.out) Try.underlying29 rfl (by kernel_rfl) ?_) | (refine big_index rfl 35 _ _ rfl g o L C r 32 rfl rfl HKb.out Try.underlying35 (by kernel_rfl) ?_))
              go_roundw
              case rel => exact ⟨m + 1, r, _, by omega, rfl, by go_num, by rw [HTK.out]; exact OW, K1, HB⟩
              case measure => simp [intOf]
            | zero =>
              have hmL : m = L := by omega
              subst hmL
              have e8 : decide (0 ≤ ((0 : Nat) : Int) - 1) = false := decide_eq_false (by omega)
              rw [List.take_of_length_le (by rw [List.length_reverse, HN.out]; omega)] at OW
              obtain ⟨g2, c2, rfl⟩ : ∃ g2 c2, x = .slice (some ⟨g2, 0, none⟩) m c2 := by
                rcases (OW.out).2 with ⟨_, h0⟩ | ⟨g2, c2, _, hx, _⟩
                · omega
                · exact ⟨g2, c2, hx⟩
              have OS := Lib.hid (own_sets OW.out)
              have K7 := Lib.hid (OS.out).2
              have HN7 : Hid (l.reverse.length = m) := Lib.hid (OS.out).1
              have HO7 : Hid (∀ s ∈ l.reverse, s.ok) := Lib.hid (fun s hs => HO.out s (List.mem_reverse.1 hs))
              clear OS OW
              go_wp2_with fail
              refine (alive7_any _).mono ?_
              rintro e c1 ⟨rfl, hc1⟩
              replace K1 := Lib.hid ((K1.out).keptB hc1)
              replace K7 := Lib.hid ((K7.out).keptB hc1)
              replace HB := Lib.hid (bstep HB.out hc1)
              clear hc1
              go_wp2_with fail
              refine (first7_any l.reverse g2 0 m c2 _ HO7.out HN7.out (by omega) K7.out).mono ?_
              rintro e c2 ⟨rfl, hc2⟩
              replace K1 := Lib.hid ((K1.out).keptB hc2)
              replace K7 := Lib.hid ((K7.out).keptB hc2)
              replace HB := Lib.hid (bstep HB.out hc2)
              clear hc2
              rw [HR.out]
              go_wp2
              go_ret
              exact ⟨rfl, HB.out⟩
theorem grands7_walk (A : Option Addr) (L C : Nat) (l : List Rs) (w : World) (h : SetsOk w A L C l) :
    Calls Try.prog 6 #[.slice A L C] w fun e w' => e = .returned (.bool true) ∧ Below w.heap.size w w' := by
  by_cases h40 : 40 < L
  · exact grands7_many A L C w h40
  · by_cases h0 : 0 < L
    · obtain ⟨g, o, rfl, hs⟩ := h.at_ h0
      refine grands7_main l g o L C w h.ok h.len (by omega) (by omega) hs ?_
      have hl := h.len
      cases l with
      | nil => simp at hl; omega
      | cons a l => exact hs.inside (k := 0) rfl
    · obtain rfl : L = 0 := by omega
      exact grands7_nil A C w

end Go.Proofs.Ytifhjmhekapaoaa
