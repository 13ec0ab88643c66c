/- The walk over overLongest. -/
import Derived.Test.YtnddmaadmibpeaaForeignDel
import Derived.Deep.DeepCutAuto
namespace Go.Proofs.Ytnddmaadmibpeaa
set_option maxRecDepth 100000
open Go.RowKit
set_option linter.unusedVariables false

theorem bonly8 {B : Nat} {a w v : World} {s : List Nat} (h : Below B a w) (k : Only s w.heap.size w v) (hB : B ≤ w.heap.size) (hs : ∀ x ∈ s, B ≤ x) : Below B a v :=
  ⟨k.os.trans h.os, k.tape.trans h.tape, k.output.trans h.output, Nat.le_trans h.size k.size, fun i hi => (k.block i (by omega) (fun hx => by have := hs i hx; omega)).trans (h.block i hi)⟩
theorem gone_names {L : List Fe} (h : TabOk L) (st : Int) : goneL L st (namesE L) = (overE L st).map (·.s.sn) := by
  unfold goneL namesE overE
  rw [List.filter_map]
  congr 1
  refine List.filter_congr fun e he => ?_
  show (!keptP L st e.s.sn) = _
  unfold keptP
  rw [atE_of h he]
  by_cases h1 : st ≤ e.t0
  · rw [decide_eq_true h1, decide_eq_false (by omega)]; rfl
  · rw [decide_eq_false h1, decide_eq_true (by omega)]; rfl
theorem names_ok {L : List Fe} (h : TabOk L) : ∀ q ∈ namesE L, ptOk q := by
  intro q hq
  obtain ⟨e, he, rfl⟩ := List.mem_map.1 hq
  exact (h.ok e he).key
theorem names_len (L : List Fe) : (namesE L).length = L.length := List.length_map _
set_option maxHeartbeats 4000000 in
theorem delete8_nil (bt bs p m : Nat) (own : Ck) (win : Int) (L : List Fe) (st : Int) (w : World) :
    Calls Try.prog 35 #[.slice none 0 0, .func (.func 33) #[] #[.pointer (some ⟨bt, 0, none⟩), .pointer (some ⟨bs, 0, none⟩)]] w fun e w' => e = .returned (.slice none 0 0) ∧ Below w.heap.size w w' := by
  have HB := Lib.hid (Below.refl w.heap.size w)
  go_enter Try.func35, Try.ntmps35
  go_wp2_with fail
  refine (index8_nil bt bs p m own win L st 0 _).mono ?_
  rintro e w1 ⟨rfl, h1⟩
  replace HB := Lib.hid (bstep HB.out h1)
  clear h1
  go_wp2
  go_ret
  exact ⟨rfl, HB.out⟩
def oldT (L : List Fe) (st : Int) : Value :=
  match oldE L st with
  | none => .tuple #[.agg (ptA zP), .bool false]
  | some o => .tuple #[.agg (ptA o.s.sn), .bool true]
set_option maxHeartbeats 4000000 in
theorem over8_any (p m : Nat) (own : Ck) (win : Int) (L : List Fe) (now : Int) (w : World) (hL : TabOk L) (h : TabAt w p m own win L) (h0 : 0 ≤ now) (h1 : now ≤ 4611686018427387904) (h2 : 0 ≤ win) (h3 : win ≤ 4398046511104) :
    Calls Try.prog 27 #[.pointer (some ⟨p, 0, none⟩), .int .i64 now] w fun e w' => e = .returned (oldT L (now - win)) ∧ Below w.heap.size w w' := by
  have HB := Lib.hid (Below.refl w.heap.size w)
  have TB := Lib.hid h
  have HL := Lib.hid hL
  clear h hL
  go_enter Try.func27, Try.ntmps27
  go_upto_region 1 with (first | (refine big_alloc rfl 35 rfl (ptA zP) (by kernel_rfl) ?_; intro gK4 wK4 hlK4 nK4 hbK4; have K4 := Lib.hid nK4; have LK4 := Lib.hid (Nat.le_trans (HB.out).size hlK4); have OTBK4 := Lib.hid ((TB.out).off hlK4); have OK2K4 := Lib.hid ((K2.out).off hlK4); replace TB := Lib.hid ((TB.out).keptB hbK4); replace K2 := Lib.hid ((K2.out).keptB hbK4); replace HB := Lib.hid (bstep HB.out hbK4); clear hlK4 nK4 hbK4) | (refine big_box1 rfl 27 _ rfl (.pointer (some ⟨p, 0, none⟩)) rfl rfl ?_; intro gK2 wK2 hlK2 nK2 hbK2; have K2 := Lib.hid nK2; have LK2 := Lib.hid (Nat.le_trans (HB.out).size hlK2); have OTBK2 := Lib.hid ((TB.out).off hlK2); replace TB := Lib.hid ((TB.out).keptB hbK2); replace HB := Lib.hid (bstep HB.out hbK2); clear hlK2 nK2 hbK2))
  have x2 := (K2.out).reads (i := 0) (x := .pointer (some ⟨p, 0, none⟩)) rfl
  have x8 := ((TB.out).tab).reads (i := 8) (x := .int .i64 win) rfl
  go_upto_region 4 with (first | (refine big_set rfl 3 _ _ rfl gK6 0 (.int .i64 (now - win)) rfl rfl K6.out (by kernel_rfl) rfl rfl (of_decide_eq_true (by kernel_rfl)) (#[.int .i64 (now - win)]) (by kernel_rfl) ?_; intro vK60 nK6 htK6; replace K6 := Lib.hid nK6; replace TB := Lib.hid ((TB.out).touch htK6 OTBK6.out); replace K2 := Lib.hid ((K2.out).touch htK6 OK2K6.out); replace K4 := Lib.hid ((K4.out).touch htK6 OK4K6.out); replace HB := Lib.hid (btouch HB.out htK6 LK6.out); clear nK6 htK6) | (refine big_alloc1 rfl 3 rfl (.int .i64 0) (by kernel_rfl) rfl ?_; intro gK6 wK6 hlK6 nK6 hbK6; have K6 := Lib.hid nK6; have LK6 := Lib.hid (Nat.le_trans (HB.out).size hlK6); have OTBK6 := Lib.hid ((TB.out).off hlK6); have OK2K6 := Lib.hid ((K2.out).off hlK6); have OK4K6 := Lib.hid ((K4.out).off hlK6); replace TB := Lib.hid ((TB.out).keptB hbK6); replace K2 := Lib.hid ((K2.out).keptB hbK6); replace K4 := Lib.hid ((K4.out).keptB hbK6); replace HB := Lib.hid (bstep HB.out hbK6); clear hlK6 nK6 hbK6))
  clear x8
  have y2 := (K2.out).reads (i := 0) (x := .pointer (some ⟨p, 0, none⟩)) rfl
  have HC0 := Lib.hid (HB.out).size
  go_wp2_with fail
  clear x2 y2
  refine (senders_any p m own win L _ HL.out TB.out).mono ?_
  rintro e w7 ⟨v, rfl, hr, hn, h7⟩
  have HR := Lib.hid hr
  have HN := Lib.hid hn
  have HT4 := Lib.hid (K4.out).inside
  have HT2 := Lib.hid (K2.out).inside
  have HT6 := Lib.hid (K6.out).inside
  have HTp := Lib.hid ((TB.out).tab).inside
  have HTm := Lib.hid ((TB.out).map).lt
  replace TB := Lib.hid ((TB.out).keptB h7)
  replace K2 := Lib.hid ((K2.out).keptB h7)
  replace K4 := Lib.hid ((K4.out).keptB h7)
  replace K6 := Lib.hid ((K6.out).keptB h7)
  replace HB := Lib.hid (bstep HB.out h7)
  clear hr hn h7
  by_cases he : namesE L = []
  · obtain rfl : v = .slice none 0 0 := (HN.out).2 he
    have HX : Hid (oldE L (now - win) = none) := oldE_none.2 (fun e hm => by have : e.s.sn ∈ namesE L := List.mem_map_of_mem hm; rw [he] at this; cases this)
    clear he
    go_wp2_with fail
    refine (delete8_nil gK2 gK6 p m own win L (now - win) _).mono ?_
    rintro e w8 ⟨rfl, h8⟩
    replace TB := Lib.hid ((TB.out).keptB h8)
    replace K2 := Lib.hid ((K2.out).keptB h8)
    replace K4 := Lib.hid ((K4.out).keptB h8)
    replace K6 := Lib.hid ((K6.out).keptB h8)
    replace HB := Lib.hid (bstep HB.out h8)
    clear h8
    go_wp2_with (first | (refine big_fill rfl 35 _ _ rfl gK4 (ptA zP) rfl rfl K4.out (by kernel_rfl) (by kernel_rfl) (by kernel_rfl) ?_; intro vK49 nK4 htK4; replace K4 := Lib.hid nK4; replace TB := Lib.hid ((TB.out).touch htK4 OTBK4.out); replace K2 := Lib.hid ((K2.out).touch htK4 OK2K4.out); replace K6 := Lib.hid ((K6.out).touch htK4 (Ne.symm OK4K6.out)); replace HB := Lib.hid (btouch HB.out htK4 LK4.out); clear nK4 htK4) | refine big_build rfl 35 _ rfl (ptA zP) (by kernel_rfl) ?_)
    refine bodyPost_ret (v := .tuple #[.agg (ptA zP), .bool false]) (results_two rfl _ _ gK4 _ (ptA zP) (.bool false) _ rfl rfl K4.out Try.underlying35 rfl (by kernel_rfl)) rfl ⟨?_, HB.out⟩
    unfold oldT
    rw [HX.out]
  · rcases (HR.out).2 with ⟨h0, _⟩ | ⟨g, cap, cur, rfl, hbase, hb, hc1, hc2, hc3, hc4⟩
    · exact absurd ((HN.out).1 h0) he
    · have KG : Hid (Holds w7 g 35 cur) := hb
      have HGB := Lib.hid hbase
      have HC1 := Lib.hid hc1
      have HC4 := Lib.hid hc4
      have HC3 : Hid ((namesE L).length * 9 ≤ cur.size) := by rw [Hid, hc3]; exact Nat.mul_le_mul_right 9 hc1
      clear he hbase hb hc1 hc2 hc3 hc4
      have HNE : Hid (gK2 ≠ g ∧ gK6 ≠ g ∧ p ≠ g ∧ m ≠ g) := by
        have a1 := HGB.out; have a2 := HT2.out; have a3 := HT6.out; have a4 := HTp.out; have a5 := HTm.out
        exact ⟨by omega, by omega, by omega, by omega⟩
      have HN4 : Hid (gK4 ≠ g) := by have a1 := HGB.out; have a2 := HT4.out; show gK4 ≠ g; omega
      have HGW : Hid (w.heap.size ≤ g) := by have a1 := HGB.out; have a2 := (K2.out).inside; have a3 := LK2.out; have a4 := HT2.out; show w.heap.size ≤ g; omega
      obtain ⟨n, hn⟩ : ∃ n, (namesE L).length = n := ⟨_, rfl⟩
      have HLN := Lib.hid hn
      have hn9 : n ≤ 5 := by rw [← hn, names_len]; exact (HL.out).len
      rw [hn] at HC1 HC3 HC4 ⊢
      clear hn
      go_wp2_with fail
      refine (delete8_any gK2 gK6 p m own win L (now - win) (namesE L) g n cap cur _ ⟨K2.out, K6.out, TB.out⟩ (names_ok HL.out) HLN.out (by omega) KG.out HC4.out HC3.out HC1.out HNE.out).mono ?_
      rintro e w8 ⟨cur2, rfl, k8, t8, c8, o8⟩
      have HO8 := Lib.hid o8
      replace KG := Lib.hid k8
      replace K4 := Lib.hid ((K4.out).only o8 (by have := HN4.out; simp; omega))
      replace HB := Lib.hid (bonly8 HB.out o8 (HB.out).size (by have := HGW.out; simp; omega))
      have CA := Lib.hid c8
      have HT8 := Lib.hid t8
      clear k8 t8 c8 o8 HO8 K2 K6 TB
      rw [gone_names HL.out] at HT8 ⊢
      cases hov : overE L (now - win) with
      | nil =>
        have HX : Hid (oldE L (now - win) = none) := by unfold oldE; rw [Hid, hov]
        clear hov
        simp only [List.map_nil, List.length_nil]
        go_wp2_with (first | (refine big_fill rfl 35 _ _ rfl gK4 (ptA zP) rfl rfl K4.out (by kernel_rfl) (by kernel_rfl) (by kernel_rfl) ?_; intro v9 n9 t9; replace K4 := Lib.hid n9; replace HB := Lib.hid (btouch HB.out t9 LK4.out); clear n9 t9) | refine big_build rfl 35 _ rfl (ptA zP) (by kernel_rfl) ?_)
        refine bodyPost_ret (v := .tuple #[.agg (ptA zP), .bool false]) (results_two rfl _ _ gK4 _ (ptA zP) (.bool false) _ rfl rfl K4.out Try.underlying35 rfl (by kernel_rfl)) rfl ⟨?_, HB.out⟩
        unfold oldT
        rw [HX.out]
      | cons x l =>
        have HX : Hid (oldE L (now - win) = some (minFrom x l)) := by unfold oldE; rw [Hid, hov]
        have HXL : Hid (∀ e ∈ x :: l, e ∈ L) := fun e he => by rw [← hov] at he; exact (List.mem_filter.1 he).1
        have HLL : Hid (l.length + 1 ≤ 5) := by
          have h1 := List.length_filter_le (fun e : Fe => decide (e.t0 < now - win)) L
          have h2 := (HL.out).len
          have h3 := hov
          unfold overE at h3
          rw [h3] at h1
          simp only [List.length_cons] at h1
          show l.length + 1 ≤ 5
          omega
        rw [hov] at HT8
        clear hov
        simp only [List.map_cons, List.length_cons, List.length_map]
        simp only [List.map_cons, List.length_cons, List.length_map] at HT8
        have HPT : Hid (PtsAt w8 g 0 (x.s.sn :: l.map (·.s.sn))) := fun k q hk => by
          have h1 := rows_at (f := fun p : Pt => (ptA p).toList) (c := 9) (fun _ => rfl) (x.s.sn :: l.map (·.s.sn)) k q hk
          refine Holds.range (KG.out) ?_
          have h2 := HT8.out
          have hk2 : k < (x.s.sn :: l.map (·.s.sn)).length := (List.getElem?_eq_some_iff.1 hk).1
          simp only [List.length_cons, List.length_map] at hk2
          rw [show (x.s.sn :: l.map (·.s.sn)).flatMap (fun p : Pt => (ptA p).toList) = cur2.toList.take ((l.length + 1) * 9) by rw [h2]; rfl, List.drop_take, List.take_take] at h1
          have hm := Nat.mul_le_mul_right 9 (show k + 1 ≤ l.length + 1 by omega)
          rw [show min 9 ((l.length + 1) * 9 - k * 9) = 9 by omega] at h1
          rw [Nat.zero_add]
          exact h1
        have hz : (((l.length + 1 : Nat) : Int) == 0) = false := by simp; omega
        go_wp2_with fail
        refine (min8_any gK2 gK6 p m own win L (now - win) x.s.sn (l.map (·.s.sn)) g (l.length + 1) cap _ CA.out (fun q hq => by
          rcases List.mem_cons.1 hq with rfl | hq
          · exact ((HL.out).ok x (HXL.out x (by simp))).key
          · obtain ⟨e, he, rfl⟩ := List.mem_map.1 hq
            exact ((HL.out).ok e (HXL.out e (by simp [he]))).key) (by simp) (by have := HLL.out; omega) HPT.out).mono ?_
        rintro e w9 ⟨rfl, h9⟩
        rw [minP_from HL.out l x (HXL.out x (by simp)) (fun e he => HXL.out e (by simp [he]))]
        replace K4 := Lib.hid ((K4.out).keptB h9)
        replace HB := Lib.hid (bstep HB.out h9)
        clear h9
        obtain ⟨o, HOO⟩ : ∃ o, Hid (minFrom x l = o) := ⟨_, Lib.hid rfl⟩
        rw [HOO.out] at HX ⊢
        go_wp2_with ((refine big_fill rfl 35 _ _ rfl gK4 (ptA o.s.sn) rfl rfl K4.out (by kernel_rfl) (by kernel_rfl) (by kernel_rfl) ?_; intro v9 n9 t9; replace K4 := Lib.hid n9; replace HB := Lib.hid (btouch HB.out t9 LK4.out); clear n9 t9))
        refine bodyPost_ret (v := .tuple #[.agg (ptA o.s.sn), .bool true]) (results_two rfl _ _ gK4 _ (ptA o.s.sn) (.bool true) _ rfl rfl K4.out Try.underlying35 rfl (by kernel_rfl)) rfl ⟨?_, HB.out⟩
        unfold oldT
        rw [HX.out]

end Go.Proofs.Ytnddmaadmibpeaa
