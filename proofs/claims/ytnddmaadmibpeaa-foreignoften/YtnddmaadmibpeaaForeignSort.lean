/- slices.SortFunc over ports, by the library's own contract; slices.SortedFunc of the table's senders. -/
import Derived.Test.YtnddmaadmibpeaaSortLay
import Derived.Test.YtnddmaadmibpeaaForeignSeq
import Derived.Test.YtnddmaadmibpeaaForeignCmp
import Derived.Test.YtnddmaadmibpeaaForeignOne
import Derived.Sort.OwnSorted
namespace Go.Proofs.Ytnddmaadmibpeaa
set_option maxRecDepth 100000
open Go.RowKit Go.Sort Go.Shelf
set_option linter.unusedVariables false

def OkPt := { p : Pt // p.c.ok }
theorem zP_ok : zP.c.ok := zero_ok.g
instance : Inhabited OkPt := ⟨⟨zP, zP_ok⟩⟩
def encO (x : OkPt) : List Value := (ptA x.1).toList
def cfO (x y : OkPt) : Int := cmpP x.1 y.1
theorem swoO : SWO (ltOf cfO) where
  irrefl x := by
    have := cmpP_neg x.1 x.1
    unfold ltOf cfO
    simp only [decide_eq_false_iff_not]
    omega
  trans x y z h1 h2 := by
    unfold ltOf cfO at *
    simp only [decide_eq_true_eq] at *
    exact lt_trans_P x.2 y.2 z.2 h1 h2
  ntrans x y z h1 h2 := by
    unfold ltOf cfO at *
    simp only [decide_eq_false_iff_not] at *
    have a1 := cmpP_neg x.1 y.1
    have a2 := cmpP_neg y.1 z.1
    have a3 := cmpP_neg x.1 z.1
    have := (cmpP_trans z.2 y.2 x.2 (by omega) (by omega)).1
    omega
theorem cmpLaysO (blk off size : Nat) (w : World) : CmpLays Try.prog 26 #[] encO 9 cfO blk off size w := fun m os dk _ x y => by
  have h := ports_grown x.1 y.1 (sortWorldK encO 9 w blk off m dk os) x.2 y.2
  exact h
theorem encO_len (x : OkPt) : (encO x).length = 9 := rfl
theorem encO_one (x : OkPt) : ∀ v ∈ encO x, v.oneCell' = true := pt_cells x.1
theorem aggP (w : World) : (isAgg (sortPort_ren.t 24)).run Try.prog w = .ok true w := Try.isAgg35 w
theorem sizeP (w : World) : (Go.sizeOf (sortPort_ren.t 24)).run Try.prog w = .ok 9 w := Try.sizeOf35 w
/-- ports one behind the other, and the library's word for such a row -/
theorem pts_get {ps : List OkPt} {j : Nat} (hj : j < ps.length * 9) : (ptsL (ps.map (·.1)))[j]? = some ((encO ps.toArray[j / 9]!)[j % 9]!) := by
  have hk : j / 9 < ps.length := by omega
  have hm : j % 9 < 9 := Nat.mod_lt _ (by omega)
  have h := rows_at (f := fun p : Pt => (ptA p).toList) (c := 9) (fun _ => rfl) (ps.map (·.1)) (j / 9) (ps[j / 9].1) (by simp [hk])
  have e1 : (ptsL (ps.map (·.1)))[j]? = ((ptsL (ps.map (·.1))).drop (j / 9 * 9))[j % 9]? := by
    rw [List.getElem?_drop]
    congr 1
    omega
  have e2 : ((ptsL (ps.map (·.1))).drop (j / 9 * 9))[j % 9]? = (((ptsL (ps.map (·.1))).drop (j / 9 * 9)).take 9)[j % 9]? := by
    rw [List.getElem?_take_of_lt hm]
  rw [e1, e2, show ptsL (ps.map (·.1)) = (ps.map (·.1)).flatMap (fun p : Pt => (ptA p).toList) from rfl, h]
  have e3 : ps.toArray[j / 9]! = ps[j / 9] := by simp [hk]
  rw [e3]
  have hl : (encO ps[j / 9]).length = 9 := rfl
  rw [show (ptA ps[j / 9].1).toList = encO ps[j / 9] from rfl, List.getElem?_eq_getElem (by omega)]
  congr 1
  rw [List.getElem!_eq_getElem?_getD, List.getElem?_eq_getElem (by omega)]
  rfl
theorem flat_pts (ps : List OkPt) : (flatK encO 9 ps.toArray).toList = ptsL (ps.map (·.1)) := by
  apply List.ext_getElem?
  intro j
  by_cases hj : j < ps.length * 9
  · rw [pts_get hj]
    have hs : j < (flatK encO 9 ps.toArray).size := by simpa using hj
    rw [Array.getElem?_toList, Array.getElem?_eq_getElem hs]
    congr 1
    have := get_flatK encO 9 ps.toArray j (by simpa using hj)
    rw [← this, getElem!_pos _ j hs]
  · rw [List.getElem?_eq_none (by simp; omega), List.getElem?_eq_none (by rw [ptsL_len]; simp; omega)]
theorem holdsK_of {w : World} {g : Nat} {cur : Array Value} {e : TypeId} {ps : List OkPt} (hb : w.heap[g]? = some (.cells cur e (0, 0))) (ht : cur.toList.take (ps.length * 9) = ptsL (ps.map (·.1))) : HoldsK encO 9 w g 0 ps.toArray := by
  intro j hj
  have hj' : j < ps.length * 9 := by simpa using hj
  refine ⟨?_, by simp [World.frozen?, hb]⟩
  have h1 : cur[j]? = some ((encO ps.toArray[j / 9]!)[j % 9]!) := by
    rw [← pts_get hj', ← ht, List.getElem?_take_of_lt hj', Array.getElem?_toList]
  have h2 : (flatK encO 9 ps.toArray)[j]! = (encO ps.toArray[j / 9]!)[j % 9]! := get_flatK encO 9 ps.toArray j (by simpa using hj')
  rw [h2]
  simp only [World.cell?, hb, Nat.zero_add]
  simp [h1]
theorem heap_sortedK {w : World} {g n : Nat} {os : Array Obj} {cur : Array Value} {e : TypeId} {fr : Nat × Nat} (d : Array OkPt) (hb : w.heap[g]? = some (.cells cur e fr)) :
    (sortWorldK encO 9 w g 0 n d os).heap[g]? = some (.cells (putCells id 0 (flatK encO 9 d) cur) e fr) := by
  have hg : g < w.heap.size := (Array.getElem?_eq_some_iff.1 hb).1
  unfold sortWorldK putRowK
  rw [heap_grow_old _ _ (by simpa using hg)]
  simp [putRow, mapBlock, Sort.ahead, Array.getElem?_modify, hb, onCells]
theorem grown_sortedK {w : World} {g n : Nat} {os : Array Obj} (d : Array OkPt) : w.grownBy (sortWorldK encO 9 w g 0 n d os) (some g) := by
  unfold sortWorldK putRowK
  refine ⟨rfl, rfl, rfl, by simp, fun k hk hne => ?_⟩
  rw [heap_grow_old _ _ (by simpa using hk)]
  have : g ≠ k := fun e => hne (by rw [e])
  simp [putRow, mapBlock, Sort.ahead, Array.getElem?_modify, this]
theorem take_putK (cur F : Array Value) (h : F.size ≤ cur.size) : (putCells id 0 F cur).toList.take F.size = F.toList := by
  apply List.ext_getElem?
  intro j
  by_cases hj : j < F.size
  · rw [List.getElem?_take_of_lt hj, Array.getElem?_toList, Array.getElem?_toList]
    simp [putCells, hj, show j < cur.size by omega]
  · rw [List.getElem?_take_eq_none (by omega), List.getElem?_eq_none (by simp; omega)]
theorem own_base8 {W : World} {base base' : Nat} {e : TypeId} {size : Nat} {v : Value} {k : Nat} {xs : List Value} (h : W.ownsRow base e size v k xs) (hb : base' ≤ base) : W.ownsRow base' e size v k xs := by
  refine ⟨h.1, ?_⟩
  rcases h.2 with hn | ⟨g, cap, cur, hv, hbg, rest⟩
  · exact .inl hn
  · exact .inr ⟨g, cap, cur, hv, Nat.le_trans hb hbg, rest⟩
/-- no port is sorted at once -/
theorem insertion_nil (cap : Nat) (w : World) : Calls Try.prog 43 #[.slice none 0 cap, .int .i64 0, .int .i64 0, .func (.func 26) #[] #[]] w fun e w' => e = .returned (.tuple #[]) ∧ w = w' := by
  go_enter Try.func43, Try.ntmps43
  go_wp2
  refine wp_loop_rounds 1 ?_
  rw [rounds_succ]
  go_wp2
  go_end0
  exact ⟨rfl, rfl⟩
theorem pdq_nil (cap : Nat) (l : Int) (w : World) : Calls Try.prog 38 #[.slice none 0 cap, .int .i64 0, .int .i64 0, .int .i64 l, .func (.func 26) #[] #[]] w fun e w' => e = .returned (.tuple #[]) ∧ w = w' := by
  go_enter Try.func38, Try.ntmps38
  go_wp2
  refine wp_loop_rounds 1 ?_
  rw [rounds_succ]
  go_wp2_with fail
  refine (insertion_nil cap _).mono ?_
  rintro e w1 ⟨rfl, rfl⟩
  go_wp2
  (try simp only [Exit.inBlock, Exit.then]); refine bodyPost_ret (results_none rfl _ _ _) rfl ?_
  exact ⟨rfl, rfl⟩
theorem sort_nil (cap : Nat) (w : World) : Calls Try.prog 29 #[.slice none 0 cap, .func (.func 26) #[] #[]] w fun e w' => e = .returned (.tuple #[]) ∧ w = w' := by
  have hl := len_any 0
  go_enter Try.func29, Try.ntmps29
  go_wp2_with fail
  refine (len_any 0 _ (by omega)).mono ?_
  rintro e w1 ⟨⟨l, rfl⟩, rfl⟩
  go_wp2_with fail
  refine (pdq_nil cap l _).mono ?_
  rintro e w1 ⟨rfl, rfl⟩
  go_wp2
  go_end0
  exact ⟨rfl, rfl⟩
theorem pts_lift {ps : List Pt} (h : ∀ p ∈ ps, p.c.ok) : ∃ qs : List OkPt, qs.map (·.1) = ps := by
  induction ps with
  | nil => exact ⟨[], rfl⟩
  | cons p ps ih =>
    obtain ⟨qs, rfl⟩ := ih fun q hq => h q (by simp [hq])
    exact ⟨⟨p, h p (by simp)⟩ :: qs, rfl⟩
/-- ports are sorted -/
theorem sort_any (v : Value) (base : Nat) (ps : List Pt) (w : World) (hok : ∀ p ∈ ps, p.c.ok) (h12 : ps.length ≤ 12) (hrow : w.ownsRow base 35 9 v ps.length (ptsL ps)) (hnil : v = .slice none 0 0 ↔ ps = []) :
    Calls Try.prog 29 #[v, .func (.func 26) #[] #[]] w fun e w' => e = .returned (.tuple #[]) ∧ ∃ qs : List Pt, qs.Perm ps ∧ qs.Pairwise (fun a b => cmpP a b ≤ 0) ∧ w'.ownsRow base 35 9 v qs.length (ptsL qs) ∧ w.grownBy w' v.ownBlock := by
  by_cases hp : ps = []
  · subst hp
    obtain rfl := hnil.2 rfl
    refine (sort_nil 0 w).mono ?_
    rintro e w' ⟨rfl, rfl⟩
    exact ⟨rfl, [], List.Perm.refl _, List.Pairwise.nil, hrow, rfl, rfl, rfl, Nat.le_refl _, fun _ _ _ => rfl⟩
  · rcases hrow.2 with ⟨h0, _⟩ | ⟨g, cap, cur, rfl, hbase, hb, h1, h2, h3, h4⟩
    · exact absurd (hnil.1 h0) hp
    · obtain ⟨qs, rfl⟩ := pts_lift hok
      have hlen : (qs.map (·.1)).length = qs.length := List.length_map _
      rw [hlen] at h1 h4 hrow h12 ⊢
      have hg : g < w.heap.size := (Array.getElem?_eq_some_iff.1 hb).1
      have hH : HoldsK encO 9 w g 0 qs.toArray := holdsK_of hb h4
      have eg : ∀ args w, (callFunc 26 args).run Try.prog w = .ok (.enter 26 args) w := enters_of Try.func26 (by kernel_rfl) rfl
      have hc := AnyQ.slices_SortFunc_small_sorted sortPort 9 aggP sizeP encO encO_len encO_one cfO 26 #[] swoO g 0 cap qs.toArray w eg (cmpLaysO g 0 _ w) hH hg (by simpa using h12) (fun n W hn => len_any n W hn)
      have hsz : qs.toArray.size = qs.length := by simp
      rw [hsz] at hc
      refine Calls.mono hc ?_
      rintro e w' ⟨rfl, d', n, os, hperm, hsort, rfl⟩
      have hd : d'.size = qs.length := by simpa using hperm.1
      have hpm : d'.toList.Perm qs := by
        have := hperm.2.2
        rw [← hd] at this
        have h2 : List.take d'.size qs = qs := by rw [hd, List.take_length]
        simpa [h2] using this
      refine ⟨rfl, d'.toList.map (·.1), hpm.map _, ?_, ?_, grown_sortedK d'⟩
      · rw [List.pairwise_map, List.pairwise_iff_getElem]
        intro i j hi hj hij
        have hi' : i < d'.size := by simpa using hi
        have hj' : j < d'.size := by simpa using hj
        have := hsort i j (Nat.zero_le _) hij (by omega)
        rw [getElem!_pos _ j hj', getElem!_pos _ i hi'] at this
        unfold ltOf cfO at this
        simp only [decide_eq_false_iff_not] at this
        have a1 := cmpP_neg d'[i].1 d'[j].1
        simp only [Array.getElem_toList]
        omega
      · have hld : d'.toList.length = qs.length := by simpa using hd
        have hfl : (flatK encO 9 d').toList = ptsL (d'.toList.map (·.1)) := by
          have := flat_pts d'.toList
          simpa using this
        have hcap : qs.length * 9 ≤ cap * 9 := Nat.mul_le_mul_right 9 h1
        refine ⟨by rw [ptsL_len, List.length_map], .inr ⟨g, cap, _, by rw [List.length_map, hld], hbase, heap_sortedK d' hb, by rw [List.length_map, hld]; exact h1, h2, by simp [putCells, h3], ?_⟩⟩
        have hs : (flatK encO 9 d').size = (d'.toList.map (·.1)).length * 9 := by rw [size_flatK, hd, List.length_map, hld]
        rw [← hs, take_putK _ _ (by rw [size_flatK, hd, h3]; exact hcap), hfl]

theorem collect_any (Bm m : Nat) (L : List Fe) (w : World) (hl : L.length ≤ 1000) (hm : Holds w Bm 52 #[.map (some m)]) (hM : MapAt w m L) :
    Calls Try.prog 28 #[.func (.func 30) #[] #[.pointer (some ⟨Bm, 0, none⟩)]] w fun e w' => ∃ v ps, e = .returned v ∧ ps.Perm (L.map (·.s.sn)) ∧ w'.ownsRow w.heap.size 35 9 v ps.length (ptsL ps) ∧ (v = .slice none 0 0 ↔ ps = []) ∧ Below w.heap.size w w' := by
  have hc : Calls Try.prog 37 #[.slice none 0 0, .func (.func 30) #[] #[.pointer (some ⟨Bm, 0, none⟩)]] w fun e w' => ∃ v ps, e = .returned v ∧ ps.Perm (L.map (·.s.sn)) ∧ w'.ownsRow w.heap.size 35 9 v ps.length (ptsL ps) ∧ (v = .slice none 0 0 ↔ ps = []) ∧ Below w.heap.size w w' :=
    (callsIn_wide (n := 5)).1 (appendSeq_in Fence.wide 5 trivial rfl (by omega) 30 #[.pointer (some ⟨Bm, 0, none⟩)] trivial (enters_of Try.func30 (by kernel_rfl) rfl) _ L.length hl w (keys_stops Fence.wide 4 trivial rfl (by omega) Bm m L w hm hM))
  have HC := Lib.hid hc
  clear hc hm hM hl
  go_enter Try.func28, Try.ntmps28
  go_wp2_with fail
  refine (HC.out).mono ?_
  rintro e w1 ⟨v, ps, rfl, h1, h2, h3, h4⟩
  have H1 := Lib.hid h1
  have H2 := Lib.hid h2
  have H3 := Lib.hid h3
  have H4 := Lib.hid h4
  clear h1 h2 h3 h4
  go_wp2
  go_ret
  exact ⟨v, ps, rfl, H1.out, H2.out, H3.out, H4.out⟩
/-- the senders of a table, rising -/
def namesE (L : List Fe) : List Pt := L.map (·.s.sn)
theorem names_of {L : List Fe} (h : TabOk L) {qs : List Pt} (hp : qs.Perm (namesE L)) (hs : qs.Pairwise fun a b => cmpP a b ≤ 0) : qs = namesE L := by
  have hok : ∀ q ∈ namesE L, q.c.ok := by
    intro q hq
    obtain ⟨e, he, rfl⟩ := List.mem_map.1 hq
    exact (h.ok e he).s.s
  refine List.Perm.eq_of_pairwise (le := fun a b => cmpP a b ≤ 0) ?_ hs ?_ hp
  · intro a b ha hb h1 h2
    have := cmpP_neg a b
    exact (cmpP_zero (hok a (hp.mem_iff.1 ha)) (hok b hb)).1 (by omega)
  · unfold namesE
    rw [List.pairwise_map]
    exact h.up.imp fun {a b} h => by omega
theorem sorted_any (Bm m : Nat) (L : List Fe) (w : World) (hL : TabOk L) (hm : Holds w Bm 52 #[.map (some m)]) (hM : MapAt w m L) :
    Calls Try.prog 24 #[.func (.func 30) #[] #[.pointer (some ⟨Bm, 0, none⟩)], .func (.func 26) #[] #[]] w fun e w' => ∃ v, e = .returned v ∧ w'.ownsRow w.heap.size 35 9 v (namesE L).length (ptsL (namesE L)) ∧ (v = .slice none 0 0 ↔ namesE L = []) ∧ Below w.heap.size w w' := by
  have HL := Lib.hid hL
  have HM := Lib.hid hM
  have KM := Lib.hid hm
  clear hL hm hM
  go_enter Try.func24, Try.ntmps24
  go_wp2_with fail
  refine (collect_any Bm m L _ (by have := (HL.out).len; omega) KM.out HM.out).mono ?_
  rintro e w1 ⟨v, ps, rfl, h1, h2, h3, h4⟩
  have H1 := Lib.hid h1
  have H2 := Lib.hid h2
  have H3 := Lib.hid h3
  have H4 := Lib.hid h4
  clear h1 h2 h3 h4
  have HP : Hid (∀ p ∈ ps, p.c.ok) := fun p hp => by
    obtain ⟨e, he, rfl⟩ := List.mem_map.1 ((H1.out).mem_iff.1 hp)
    exact ((HL.out).ok e he).s.s
  have HN : Hid (ps.length ≤ 12) := by
    have := (H1.out).length_eq
    rw [List.length_map] at this
    have := (HL.out).len
    show ps.length ≤ 12
    omega
  go_wp2_with fail
  refine (sort_any v _ ps _ HP.out HN.out H2.out H3.out).mono ?_
  rintro e w2 ⟨rfl, qs, h5, h6, h7, h8⟩
  have HQ := Lib.hid (names_of HL.out (h5.trans H1.out) h6)
  have H7 := Lib.hid h7
  have H5 := Lib.hid h5
  have HV := Lib.hid ((H2.out).lt)
  have H8 := Lib.hid h8
  clear h5 h6 h7 h8
  go_wp2
  go_ret
  refine ⟨v, rfl, by rw [← HQ.out]; exact H7.out, ?_, ?_⟩
  · rw [H3.out, ← HQ.out]
    constructor
    · intro h
      rw [h] at H5
      exact (H5.out).eq_nil
    · intro h
      rw [h] at H5
      exact (H5.out).nil_eq.symm
  · exact (H4.out).grown H8.out (H4.out).size fun k hk => ((HV.out) k hk).1
theorem senders_any (p m : Nat) (own : Ck) (win : Int) (L : List Fe) (w : World) (hL : TabOk L) (h : TabAt w p m own win L) :
    Calls Try.prog 18 #[.pointer (some ⟨p, 0, none⟩)] w fun e w' => ∃ v, e = .returned v ∧ w'.ownsRow w.heap.size 35 9 v (namesE L).length (ptsL (namesE L)) ∧ (v = .slice none 0 0 ↔ namesE L = []) ∧ Below w.heap.size w w' := by
  have HL := Lib.hid hL
  have TB := Lib.hid h
  have x9 := (h.tab).reads (i := 9) (x := .map (some m)) rfl
  have HK : Hid (∀ v, Calls Try.prog 25 #[.map (some m)] v fun e w' => e = .returned (.func (.func 30) #[] #[.pointer (some ⟨v.heap.size, 0, none⟩)]) ∧ w' = v.alloc (.cells #[.map (some m)] 52)) := fun v =>
    (callsIn_wide (n := 3)).1 (keys_in Fence.wide 3 trivial rfl m v)
  clear hL h
  go_enter Try.func18, Try.ntmps18
  go_wp2_with fail
  refine (HK.out _).mono ?_
  rintro e w1 ⟨rfl, hw1⟩
  have K1 := Lib.hid (Holds.fresh w 52 #[.map (some m)] rfl)
  have B1 := Lib.hid (bnew w (.cells #[.map (some m)] 52))
  rw [← hw1] at K1 B1
  clear hw1 x9 HK
  replace TB := Lib.hid ((TB.out).keptB B1.out)
  go_wp2_with fail
  refine (sorted_any _ m L _ HL.out K1.out (TB.out).map).mono ?_
  rintro e w2 ⟨v, rfl, h2, h3, h4⟩
  have H2 := Lib.hid h2
  have H3 := Lib.hid h3
  have H4 := Lib.hid h4
  clear h2 h3 h4
  go_wp2
  go_ret
  exact ⟨v, rfl, own_base8 H2.out (B1.out).size, H3.out, bstep B1.out H4.out⟩

end Go.Proofs.Ytnddmaadmibpeaa
