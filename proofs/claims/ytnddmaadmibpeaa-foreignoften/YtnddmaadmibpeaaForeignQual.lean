/- The walk over Qualified. -/
import Derived.Test.YtnddmaadmibpeaaForeignLong
import Derived.Test.YtnddmaadmibpeaaSetsIn
import Derived.Deep.DeepCutAuto
namespace Go.Proofs.Ytnddmaadmibpeaa
set_option maxRecDepth 100000
open Go.RowKit
set_option linter.unusedVariables false
set_option linter.unusedSimpArgs false

/-- who is told at a time -/
def toldE (L : List Fe) (win now : Int) : List Rs := if now < 0 then [] else qualE L (now - win) now
/-- ports where a slice says -/
def PtsO (w : World) (A : Option Addr) (l : List Pt) : Prop := 0 < l.length → ∃ g, A = some ⟨g, 0, none⟩ ∧ PtsAt w g 0 l
theorem own_kept8 {w u : World} {base size n : Nat} {ty : TypeId} {v : Value} {xs : List Value} (h : w.ownsRow base ty size v n xs) (hb : ∀ b, v.ownBlock = some b → u.heap[b]? = w.heap[b]?) : u.ownsRow base ty size v n xs := by
  refine ⟨h.1, h.2.imp id ?_⟩
  rintro ⟨g', cap, cur, h1, h2, h3, h4⟩
  refine ⟨g', cap, cur, h1, h2, ?_, h4⟩
  rw [hb g' (by rw [h1]; rfl)]
  exact h3
theorem own_lt8 {w : World} {base size n b : Nat} {ty : TypeId} {v : Value} {xs : List Value} (h : w.ownsRow base ty size v n xs) (hb : v.ownBlock = some b) : b < w.heap.size ∧ base ≤ b := by
  rcases h.2 with ⟨h0, _⟩ | ⟨g, cap, cur, h1, h2, h3, _⟩
  · rw [h0] at hb; simp [Value.ownBlock] at hb
  · rw [h1] at hb
    simp [Value.ownBlock] at hb
    subst hb
    refine ⟨?_, h2⟩
    by_cases hg : g < w.heap.size
    · exact hg
    · rw [Array.getElem?_eq_none (by omega)] at h3; cases h3
/-- how memory stands in Qualified's loop -/
structure QAt (v : World) (N B p m : Nat) (own : Ck) (win : Int) (L : List Fe) (A : Option Addr) (x : Value) (F : List Rs) : Prop where
  tab : TabAt v p m own win L
  pts : PtsO v A (namesE L)
  row : v.ownsRow B 37 32 x F.length (setsL8 F)
  low : B ≤ N
  n : N ≤ v.heap.size
  pb : p < B
  mb : m < B
  ab : ∀ g o, A = some ⟨g, o, none⟩ → g < B
  rb : ∀ b, x.ownBlock = some b → b < N
section
variable {v u : World} {N B p m g : Nat} {own : Ck} {win : Int} {L : List Fe} {A : Option Addr} {x : Value} {F : List Rs}
theorem QAt.of (h : QAt v N B p m own win L A x F) (hs : N ≤ u.heap.size) (hb : ∀ b, b < N → u.heap[b]? = v.heap[b]?) : QAt u N B p m own win L A x F := by
  have h1 := h.pb; have h2 := h.mb; have h3 := h.low
  refine ⟨⟨?_, h.tab.map.block_ (hb m (by omega))⟩, ?_, own_kept8 h.row fun b hx => hb b (h.rb b hx), h.low, hs, h.pb, h.mb, h.ab, h.rb⟩
  · have := h.tab.tab
    unfold Holds at this ⊢
    rw [hb p (by omega)]
    exact this
  · intro hl
    obtain ⟨g, ha, hp⟩ := h.pts hl
    exact ⟨g, ha, hp.block_ (hb g (by have := h.ab g 0 ha; omega))⟩
theorem QAt.keptB (h : QAt v N B p m own win L A x F) (hb : Below v.heap.size v u) : QAt u N B p m own win L A x F := h.of (Nat.le_trans h.n hb.size) fun b hl => hb.block b (Nat.lt_of_lt_of_le hl h.n)
theorem QAt.drew (h : QAt v N B p m own win L A x F) : QAt v.drew N B p m own win L A x F := h.of h.n fun b hl => rfl
theorem QAt.off (h : QAt v N B p m own win L A x F) (hg : v.heap.size ≤ g) : N ≤ g := Nat.le_trans h.n hg
theorem QAt.touch (h : QAt v N B p m own win L A x F) (ht : Touch g v u) (hg : N ≤ g) : QAt u N B p m own win L A x F := h.of (by rw [ht.size]; exact h.n) fun b hl => ht.block b (by omega)
theorem QAt.now (h : QAt v N B p m own win L A x F) : QAt v v.heap.size B p m own win L A x F := ⟨h.tab, h.pts, h.row, Nat.le_trans h.low h.n, Nat.le_refl _, h.pb, h.mb, h.ab, fun b hb => (own_lt8 h.row hb).1⟩
theorem QAt.more (h : QAt v N B p m own win L A x F) {x2 : Value} {y : Rs} (ho : u.ownsRow B 37 32 x2 (F.length + 1) (setsL8 (F ++ [y]))) (hb : Below B v u) : QAt u u.heap.size B p m own win L A x2 (F ++ [y]) := by
  refine ⟨⟨?_, h.tab.map.block_ (hb.block m h.mb)⟩, ?_, by rw [List.length_append]; exact ho, Nat.le_trans (Nat.le_trans h.low h.n) hb.size, Nat.le_refl _, h.pb, h.mb, h.ab, fun b hx => (own_lt8 ho hx).1⟩
  · have := h.tab.tab
    unfold Holds at this ⊢
    rw [hb.block p h.pb]
    exact this
  · intro hl
    obtain ⟨g, ha, hp⟩ := h.pts hl
    exact ⟨g, ha, hp.block_ (hb.block g (h.ab g 0 ha))⟩
end
theorem qual_step8 {L : List Fe} {j : Nat} {d : Fe} {st now : Int} (hd : L[j]? = some d) : qualE (L.take (j + 1)) st now = qualE (L.take j) st now ++ (if oftenE d st now then [d.s] else []) := by
  unfold qualE
  rw [List.take_add_one, hd]
  simp only [Option.toList_some, List.filter_append, List.map_append]
  congr 1
  cases h : oftenE d st now <;> simp [List.filter, h]
theorem qual_len8 (L : List Fe) (j : Nat) (st now : Int) : (qualE (L.take j) st now).length ≤ L.length := by
  unfold qualE
  rw [List.length_map]
  refine Nat.le_trans (List.length_filter_le _ _) ?_
  rw [List.length_take]; omega
theorem bbelow8 {B C : Nat} {a w v : World} (h : Below C a w) (k : Below B w v) (hB : C ≤ B) : Below C a v :=
  ⟨k.os.trans h.os, k.tape.trans h.tape, k.output.trans h.output, Nat.le_trans h.size k.size, fun i hi => (k.block i (by omega)).trans (h.block i hi)⟩
theorem yields_look8 {S : World → Prop} {ops : Array Oper} {op : Oper} {a : Act} {mb : Nat} {L : List Fe} {p : Pt} {d : Fe} (hd : atE L p = d) (hw : Region.wanted op (yielded ops a.tmps) = true) (m p' : Operand) (ho : op.op = .lookup 52 m p' false) (hm : a.eval m = .map (some mb)) (hp : a.eval p' = .agg (ptA p)) (hS : ∀ w, S w → MapAt w mb L) (ok : ptOk p) :
    YieldsIf Try.prog ops S op (.agg (feA d)) a := by
  subst hd
  exact yields_look hw m p' ho hm hp hS ok
set_option maxHeartbeats 4000000 in
theorem qual8_any (p m : Nat) (own : Ck) (win : Int) (L : List Fe) (now : Int) (w : World) (hL : TabOk L) (h : TabAt w p m own win L) (h1 : now ≤ 9223372036854775807) (h2 : 0 ≤ win) (h3 : win ≤ 4398046511104) :
    Calls Try.prog 13 #[.pointer (some ⟨p, 0, none⟩), .int .i64 now] w fun e w' => ∃ v, e = .returned v ∧ SetsIn w' v (toldE L win now) ∧ Below w.heap.size w w' := by
  have HB := Lib.hid (Below.refl w.heap.size w)
  have TB := Lib.hid h
  have HL := Lib.hid hL
  clear h hL
  by_cases hneg : now < 0
  · have HX : Hid (toldE L win now = []) := if_pos hneg
    have dn : decide (now < 0) = true := decide_eq_true hneg
    clear hneg
    go_enter Try.func13, Try.ntmps13
    go_wp2
    go_ret
    exact ⟨_, rfl, by rw [HX.out]; exact ⟨none, 0, 0, rfl, rfl, fun h => absurd h (by omega)⟩, HB.out⟩
  · have HX : Hid (toldE L win now = qualE L (now - win) now) := if_neg hneg
    have dn : decide (now < 0) = false := decide_eq_false hneg
    have H0 : Hid (0 ≤ now) := by rw [Hid]; omega
    have HLen := Lib.hid (HL.out).len
    clear hneg
    go_enter Try.func13, Try.ntmps13
    go_wp2_with fail
    refine (senders_any p m own win L _ HL.out TB.out).mono ?_
    rintro e w1 ⟨v, rfl, hr, hn, h1⟩
    have HPB : Hid (p < w.heap.size ∧ m < w.heap.size) := ⟨((TB.out).tab).inside, ((TB.out).map).lt⟩
    replace TB := Lib.hid ((TB.out).keptB h1)
    replace HB := Lib.hid (bstep HB.out h1)
    have HV : Hid (∃ A cap, v = .slice A (namesE L).length cap ∧ PtsO w1 A (namesE L) ∧ ∀ g o, A = some ⟨g, o, none⟩ → g < w1.heap.size) := by
      rcases hr.2 with ⟨rfl, h0⟩ | ⟨g, cap, cur, rfl, hbase, hb, hc1, hc2, hc3, hc4⟩
      · exact ⟨none, 0, by rw [h0], fun hl => absurd hl (by omega), fun g o ha => by cases ha⟩
      · refine ⟨some ⟨g, 0, none⟩, cap, rfl, fun hl => ⟨g, rfl, ?_⟩, fun g2 o ha => ?_⟩
        · intro k q hk
          have r1 := rows_at (f := fun p : Pt => (ptA p).toList) (c := 9) (fun _ => rfl) (namesE L) k q hk
          refine Holds.range (show Holds w1 g 35 cur from hb) ?_
          have hk2 : k < (namesE L).length := (List.getElem?_eq_some_iff.1 hk).1
          rw [show (namesE L).flatMap (fun p : Pt => (ptA p).toList) = cur.toList.take ((namesE L).length * 9) by rw [hc4]; rfl, List.drop_take, List.take_take] at r1
          have hm := Nat.mul_le_mul_right 9 (show k + 1 ≤ (namesE L).length by omega)
          rw [show min 9 ((namesE L).length * 9 - k * 9) = 9 by omega] at r1
          rw [Nat.zero_add]
          exact r1
        · cases ha
          exact (show Holds w1 g 35 cur from hb).inside
    clear hr hn h1
    obtain ⟨A, cap, rfl, hpt, hab⟩ := HV.out
    clear HV
    obtain ⟨B, hB⟩ : ∃ B, w1.heap.size = B := ⟨_, rfl⟩
    have HWB := Lib.hid (show w.heap.size ≤ B by rw [← hB]; exact (HB.out).size)
    have QA : Hid (∃ N F, qualE (L.take 0) (now - win) now = F ∧ QAt w1 N B p m own win L A (.slice none 0 0) F) := ⟨w1.heap.size, [], by simp [qualE], TB.out, hpt, ⟨by simp [setsL8], .inl ⟨rfl, rfl⟩⟩, Nat.le_of_eq hB.symm, Nat.le_refl _, by have := (HPB.out).1; have := HWB.out; omega, by have := (HPB.out).2; have := HWB.out; omega, fun g o ha => by rw [← hB]; exact hab g o ha, fun b hb => by simp [Value.ownBlock] at hb⟩
    clear TB hpt hab HPB hB
    obtain ⟨n, hn⟩ : ∃ n, (namesE L).length = n := ⟨_, rfl⟩
    rw [hn]
    have HLN : Hid (L.length = n) := by rw [Hid, ← hn, names_len]
    have HN5 : n ≤ 5 := by have := HLN.out; have := HLen.out; omega
    clear hn
    go_wp2
    go_loopg [5, 14] n (fun gh s i v => ∃ (j : Nat) (x : Value), j + gh = n ∧ x = s ∧ i = .int .i64 j ∧ Hid (∃ N F, qualE (L.take j) (now - win) now = F ∧ QAt v N B p m own win L A x F) ∧ Hid (Below w.heap.size w v))
    case atStart => exact ⟨0, _, by omega, rfl, rfl, QA, HB⟩
    case round =>
      clear QA HB
      obtain ⟨j, x, hj, hx, rfl, QA, HB⟩ := hrel
      subst hx
      obtain ⟨N, F, hF, qa⟩ := QA.out
      clear QA
      have QA := Lib.hid qa
      have HF := Lib.hid hF
      clear qa hF
      cases gk with
      | zero =>
        obtain rfl : j = n := by omega
        have hd : decide ((j : Int) < (j : Int)) = false := by simp
        have HE : Hid (qualE L (now - win) now = F) := by
          have h1 := HF.out
          rw [List.take_of_length_le (by have := HLN.out; omega)] at h1
          exact h1
        go_wp2
        go_ret
        exact ⟨_, rfl, by rw [HX.out, HE.out]; exact own_sets8 (QA.out).row, HB.out⟩
      | succ g1 =>
        have hlt : j < n := by omega
        have hd : decide ((j : Int) < (n : Int)) = true := by simpa using hlt
        obtain ⟨d, hde⟩ : ∃ d, L[j]? = some d := ⟨_, List.getElem?_eq_getElem (show j < L.length by have := HLN.out; omega)⟩
        have HK := Lib.hid hlt
        have HQN : Hid ((namesE L)[j]? = some d.s.sn) := by unfold namesE; rw [Hid, List.getElem?_map, hde]; rfl
        have HOK : Hid (ptOk d.s.sn) := ((HL.out).ok d (List.mem_of_getElem? hde)).key
        have HAT : Hid (atE L d.s.sn = d) := atE_of HL.out (List.mem_of_getElem? hde)
        have HQS := Lib.hid (qual_step8 (st := now - win) (now := now) hde)
        have HCT : Hid (F.length + 1 ≤ 1000) := by rw [Hid, ← HF.out]; have := qual_len8 L j (now - win) now; have := HLen.out; omega
        rw [HF.out] at HQS
        obtain ⟨g, rfl, hp⟩ := (QA.out).pts (by rw [names_len]; have := HLN.out; omega)
        have HP := Lib.hid (hp j d.s.sn HQN.out)
        clear hde hp hlt
        go_upto_region 7 with (first | (refine big_fill rfl 35 _ _ rfl gK7 (ptA d.s.sn) rfl rfl K7.out (by kernel_rfl) (by kernel_rfl) (by kernel_rfl) ?_; intro vK70 nK7 htK7; replace K7 := Lib.hid nK7; replace QA := Lib.hid ((QA.out).touch htK7 OQAK7.out); replace HB := Lib.hid (btouch HB.out htK7 LK7.out); clear nK7 htK7) | (refine big_alloc rfl 35 rfl (ptA zP) (by kernel_rfl) ?_; intro gK7 wK7 hlK7 nK7 hbK7; have K7 := Lib.hid nK7; have LK7 := Lib.hid (Nat.le_trans (HB.out).size hlK7); have OQAK7 := Lib.hid ((QA.out).off hlK7); replace QA := Lib.hid ((QA.out).keptB hbK7); replace HB := Lib.hid (bstep HB.out hbK7); clear hlK7 nK7 hbK7) | (refine big_loadAt rfl 35 _ rfl g (0 + j * 9) rfl (ptA d.s.sn) HP.out Try.underlying35 rfl (by kernel_rfl) ?_) | (refine big_index rfl 56 _ _ rfl g 0 n cap j 9 rfl rfl HK.out Try.underlying56 (by kernel_rfl) ?_))
        clear HP
        refine wp_region_held_drew (S := fun v => Below w.heap.size w v ∧ QAt v N B p m own win L (some ⟨g, 0, none⟩) x F ∧ Holds v gK7 35 (ptA d.s.sn) ∧ True) (by kernel_rfl) ?_ (fun hHeld => ?_)
        · exact ⟨bdrew HB.out, (QA.out).drew, (K7.out).drew, trivial⟩
        clear HB QA K7
        refine wpAnyH_take (i := 0) (v := .pointer (some ⟨p, 0, none⟩)) (at_list rfl) (by kernel_rfl) (by kernel_rfl) (by kernel_rfl) (fun _ _ _ h => h) (Or.inl ⟨by rfl, ?_⟩) hHeld ?_
        · intro v hSv
          clear hHeld
          go_simp
        try simp only [Act.put, List.setIfInBounds_toArray, List.set_cons_zero, List.set_cons_succ]
        refine wpAnyH_take (i := 1) (v := .pointer (some ⟨p, 0, none⟩)) (at_list rfl) (by kernel_rfl) (by kernel_rfl) (by kernel_rfl) (fun _ _ _ h => h) (Or.inl ⟨by rfl, ?_⟩) hHeld ?_
        · intro v hSv
          clear hHeld
          go_simp
        try simp only [Act.put, List.setIfInBounds_toArray, List.set_cons_zero, List.set_cons_succ]
        refine wpAnyH_take (i := 2) (v := .pointer (some ⟨p, 9, none⟩)) (at_list rfl) (by kernel_rfl) (by kernel_rfl) (by kernel_rfl) (fun _ _ _ h => h) (Or.inl ⟨by rfl, ?_⟩) hHeld ?_
        · intro v hSv
          clear hHeld
          go_simp
        try simp only [Act.put, List.setIfInBounds_toArray, List.set_cons_zero, List.set_cons_succ]
        refine wpAnyH_take (i := 3) (v := .map (some m)) (at_list rfl) (by kernel_rfl) (by kernel_rfl) (by kernel_rfl) (fun _ _ _ h => h) (Or.inl ⟨by rfl, ?_⟩) hHeld ?_
        · intro v hSv
          clear hHeld
          have q9 := Holds.reads ((hSv.2.1).tab.tab) (i := 9) (x := .map (some m)) rfl
          clear hSv
          go_simp
        try simp only [Act.put, List.setIfInBounds_toArray, List.set_cons_zero, List.set_cons_succ]
        refine wpAnyH_take (i := 4) (v := .agg (ptA d.s.sn)) (at_list rfl) (by kernel_rfl) (by kernel_rfl) (by kernel_rfl) (fun _ _ _ h => h) (yields_whole (by rfl) 35 _ rfl gK7 rfl (fun v hv => hv.2.2.1) Try.underlying35 rfl (by kernel_rfl)) hHeld ?_
        try simp only [Act.put, List.setIfInBounds_toArray, List.set_cons_zero, List.set_cons_succ]
        refine wpAnyH_take (i := 5) (v := .agg (feA d)) (at_list rfl) (by kernel_rfl) (by kernel_rfl) (by kernel_rfl) (fun _ _ _ h => h) (yields_look8 HAT.out (by rfl) _ _ rfl rfl rfl (fun v hv => (hv.2.1).tab.map) HOK.out) hHeld ?_
        try simp only [Act.put, List.setIfInBounds_toArray, List.set_cons_zero, List.set_cons_succ]
        refine wpAnyH_ready (rs := [6]) (by kernel_rfl) (by simp) ?_
        refine AllReadyH.cons (at_list rfl) (fun K hK => ?_) AllReadyH.nil
        refine step_alloc (by rfl) 60 rfl (feA zeroFe) (by kernel_rfl) ?_
        intro gK8 wK8 hlK8 nK8 hbK8
        have K8 := Lib.hid nK8
        have LK8 := Lib.hid (Nat.le_trans (hHeld.1).size hlK8)
        have OQAK8 := Lib.hid ((hHeld.2.1).off hlK8)
        have OK7K8 := Lib.hid ((hHeld.2.2.1).off hlK8)
        refine hK.out _ _ ?_ (fun hHeld2 => ?_)
        · exact ⟨bstep hHeld.1 hbK8, (hHeld.2.1).keptB hbK8, (hHeld.2.2.1).keptB hbK8, trivial⟩
        clear hK K hHeld
        have hHeld := hHeld2
        clear hHeld2
        try simp only [Act.put]
        clear hlK8 nK8 hbK8
        try simp only [List.setIfInBounds_toArray, List.set_cons_zero, List.set_cons_succ]
        refine wpAnyH_ready (rs := [7]) (by kernel_rfl) (by simp) ?_
        refine AllReadyH.cons (at_list rfl) (fun K hK => ?_) AllReadyH.nil
        refine step_fill (by rfl) 60 _ _ rfl gK8 (feA d) rfl rfl K8.out (by kernel_rfl) (by kernel_rfl) (by kernel_rfl) ?_
        intro vK80 nK8 htK8
        replace K8 := Lib.hid nK8
        refine hK.out _ _ ?_ (fun hHeld2 => ?_)
        · exact ⟨btouch hHeld.1 htK8 LK8.out, (hHeld.2.1).touch htK8 OQAK8.out, (hHeld.2.2.1).touch htK8 OK7K8.out, trivial⟩
        clear hK K hHeld
        have hHeld := hHeld2
        clear hHeld2
        try simp only [Act.put]
        clear nK8 htK8
        try simp only [List.setIfInBounds_toArray, List.set_cons_zero, List.set_cons_succ]
        refine wpAnyH_done (by kernel_rfl) ?_ _
        have HB := Lib.hid hHeld.1
        have QA := Lib.hid hHeld.2.1
        have K7 := Lib.hid hHeld.2.2.1
        clear hHeld
        clear K7 LK7 OQAK7 OK7K8
        cases ho : oftenE d (now - win) now
        · have HO := Lib.hid ho
          clear ho
          rw [HO.out] at HQS
          go_upto_region 8 with fail
          refine wp_region_held_drew (S := fun v => Below w.heap.size w v ∧ QAt v N B p m own win L (some ⟨g, 0, none⟩) x F ∧ Holds v gK8 60 (feA d) ∧ True) (by kernel_rfl) ?_ (fun hHeld => ?_)
          · exact ⟨bdrew HB.out, (QA.out).drew, (K8.out).drew, trivial⟩
          clear HB QA K8
          refine wpAnyH_take (i := 0) (v := .agg (feA d)) (at_list rfl) (by kernel_rfl) (by kernel_rfl) (by kernel_rfl) (fun _ _ _ h => h) (yields_whole (by rfl) 60 _ rfl gK8 rfl (fun v hv => hv.2.2.1) Try.underlying60 rfl (by kernel_rfl)) hHeld ?_
          try simp only [Act.put, List.setIfInBounds_toArray, List.set_cons_zero, List.set_cons_succ]
          refine wpAnyH_take (i := 1) (v := .int .i64 now) (at_list rfl) (by kernel_rfl) (by kernel_rfl) (by kernel_rfl) (fun _ _ _ h => h) (Or.inl ⟨by rfl, ?_⟩) hHeld ?_
          · intro v hSv
            clear hHeld
            go_simp
          try simp only [Act.put, List.setIfInBounds_toArray, List.set_cons_zero, List.set_cons_succ]
          refine wpAnyH_take (i := 2) (v := .pointer (some ⟨p, 0, none⟩)) (at_list rfl) (by kernel_rfl) (by kernel_rfl) (by kernel_rfl) (fun _ _ _ h => h) (Or.inl ⟨by rfl, ?_⟩) hHeld ?_
          · intro v hSv
            clear hHeld
            go_simp
          try simp only [Act.put, List.setIfInBounds_toArray, List.set_cons_zero, List.set_cons_succ]
          refine wpAnyH_take (i := 3) (v := .pointer (some ⟨p, 0, none⟩)) (at_list rfl) (by kernel_rfl) (by kernel_rfl) (by kernel_rfl) (fun _ _ _ h => h) (Or.inl ⟨by rfl, ?_⟩) hHeld ?_
          · intro v hSv
            clear hHeld
            go_simp
          try simp only [Act.put, List.setIfInBounds_toArray, List.set_cons_zero, List.set_cons_succ]
          refine wpAnyH_take (i := 4) (v := .pointer (some ⟨p, 8, none⟩)) (at_list rfl) (by kernel_rfl) (by kernel_rfl) (by kernel_rfl) (fun _ _ _ h => h) (Or.inl ⟨by rfl, ?_⟩) hHeld ?_
          · intro v hSv
            clear hHeld
            go_simp
          try simp only [Act.put, List.setIfInBounds_toArray, List.set_cons_zero, List.set_cons_succ]
          refine wpAnyH_take (i := 5) (v := .int .i64 win) (at_list rfl) (by kernel_rfl) (by kernel_rfl) (by kernel_rfl) (fun _ _ _ h => h) (Or.inl ⟨by rfl, ?_⟩) hHeld ?_
          · intro v hSv
            clear hHeld
            have q8 := Holds.reads ((hSv.2.1).tab.tab) (i := 8) (x := .int .i64 win) rfl
            clear hSv
            go_simp
          try simp only [Act.put, List.setIfInBounds_toArray, List.set_cons_zero, List.set_cons_succ]
          refine wpAnyH_take (i := 6) (v := .int .i64 (now - win)) (at_list rfl) (by kernel_rfl) (by kernel_rfl) (by kernel_rfl) (fun _ _ _ h => h) (Or.inl ⟨by rfl, ?_⟩) hHeld ?_
          · intro v hSv
            clear hHeld
            clear hSv
            have hl := H0.out
            go_simp
            rw [IntKind.wrap_i64]
            omega
          try simp only [Act.put, List.setIfInBounds_toArray, List.set_cons_zero, List.set_cons_succ]
          refine wpAnyH_take (i := 7) (v := .int .i64 now) (at_list rfl) (by kernel_rfl) (by kernel_rfl) (by kernel_rfl) (fun _ _ _ h => h) (Or.inl ⟨by rfl, ?_⟩) hHeld ?_
          · intro v hSv
            clear hHeld
            go_simp
          try simp only [Act.put, List.setIfInBounds_toArray, List.set_cons_zero, List.set_cons_succ]
          refine wpAnyH_ready (rs := [8]) (by kernel_rfl) (by simp) ?_
          refine AllReadyH.cons (at_list rfl) (fun K hK => ?_) AllReadyH.nil
          go_simp
          refine (often8_any d (now - win) now _).mono ?_
          rintro e v1 ⟨rfl, hv1⟩
          rw [HO.out]
          go_wp2_with fail
          refine hK.out _ _ ?_ (fun hHeld2 => ?_)
          · exact ⟨bstep hHeld.1 hv1, (hHeld.2.1).keptB hv1, (hHeld.2.2.1).keptB hv1, trivial⟩
          clear hK K hHeld
          have hHeld := hHeld2
          clear hHeld2 hv1
          try simp only [Act.put, List.setIfInBounds_toArray, List.set_cons_zero, List.set_cons_succ]
          refine wpAnyH_done (by kernel_rfl) ?_ _
          have HB := Lib.hid hHeld.1
          have QA := Lib.hid hHeld.2.1
          have K8 := Lib.hid hHeld.2.2.1
          clear hHeld
          have HQE : Hid (qualE (L.take (j + 1)) (now - win) now = F) := by rw [Hid, HQS.out]; simp
          go_wp2
          go_roundg g1
          case measure => omega
          case rel => exact ⟨j + 1, x, by omega, rfl, by go_num, Lib.hid ⟨N, F, HQE.out, QA.out⟩, HB⟩
        · have HO := Lib.hid ho
          clear ho
          rw [HO.out] at HQS
          go_upto_region 8 with fail
          refine wp_region_held_drew (S := fun v => Below w.heap.size w v ∧ QAt v N B p m own win L (some ⟨g, 0, none⟩) x F ∧ Holds v gK8 60 (feA d) ∧ True) (by kernel_rfl) ?_ (fun hHeld => ?_)
          · exact ⟨bdrew HB.out, (QA.out).drew, (K8.out).drew, trivial⟩
          clear HB QA K8
          refine wpAnyH_take (i := 0) (v := .agg (feA d)) (at_list rfl) (by kernel_rfl) (by kernel_rfl) (by kernel_rfl) (fun _ _ _ h => h) (yields_whole (by rfl) 60 _ rfl gK8 rfl (fun v hv => hv.2.2.1) Try.underlying60 rfl (by kernel_rfl)) hHeld ?_
          try simp only [Act.put, List.setIfInBounds_toArray, List.set_cons_zero, List.set_cons_succ]
          refine wpAnyH_take (i := 1) (v := .int .i64 now) (at_list rfl) (by kernel_rfl) (by kernel_rfl) (by kernel_rfl) (fun _ _ _ h => h) (Or.inl ⟨by rfl, ?_⟩) hHeld ?_
          · intro v hSv
            clear hHeld
            go_simp
          try simp only [Act.put, List.setIfInBounds_toArray, List.set_cons_zero, List.set_cons_succ]
          refine wpAnyH_take (i := 2) (v := .pointer (some ⟨p, 0, none⟩)) (at_list rfl) (by kernel_rfl) (by kernel_rfl) (by kernel_rfl) (fun _ _ _ h => h) (Or.inl ⟨by rfl, ?_⟩) hHeld ?_
          · intro v hSv
            clear hHeld
            go_simp
          try simp only [Act.put, List.setIfInBounds_toArray, List.set_cons_zero, List.set_cons_succ]
          refine wpAnyH_take (i := 3) (v := .pointer (some ⟨p, 0, none⟩)) (at_list rfl) (by kernel_rfl) (by kernel_rfl) (by kernel_rfl) (fun _ _ _ h => h) (Or.inl ⟨by rfl, ?_⟩) hHeld ?_
          · intro v hSv
            clear hHeld
            go_simp
          try simp only [Act.put, List.setIfInBounds_toArray, List.set_cons_zero, List.set_cons_succ]
          refine wpAnyH_take (i := 4) (v := .pointer (some ⟨p, 8, none⟩)) (at_list rfl) (by kernel_rfl) (by kernel_rfl) (by kernel_rfl) (fun _ _ _ h => h) (Or.inl ⟨by rfl, ?_⟩) hHeld ?_
          · intro v hSv
            clear hHeld
            go_simp
          try simp only [Act.put, List.setIfInBounds_toArray, List.set_cons_zero, List.set_cons_succ]
          refine wpAnyH_take (i := 5) (v := .int .i64 win) (at_list rfl) (by kernel_rfl) (by kernel_rfl) (by kernel_rfl) (fun _ _ _ h => h) (Or.inl ⟨by rfl, ?_⟩) hHeld ?_
          · intro v hSv
            clear hHeld
            have q8 := Holds.reads ((hSv.2.1).tab.tab) (i := 8) (x := .int .i64 win) rfl
            clear hSv
            go_simp
          try simp only [Act.put, List.setIfInBounds_toArray, List.set_cons_zero, List.set_cons_succ]
          refine wpAnyH_take (i := 6) (v := .int .i64 (now - win)) (at_list rfl) (by kernel_rfl) (by kernel_rfl) (by kernel_rfl) (fun _ _ _ h => h) (Or.inl ⟨by rfl, ?_⟩) hHeld ?_
          · intro v hSv
            clear hHeld
            clear hSv
            have hl := H0.out
            go_simp
            rw [IntKind.wrap_i64]
            omega
          try simp only [Act.put, List.setIfInBounds_toArray, List.set_cons_zero, List.set_cons_succ]
          refine wpAnyH_take (i := 7) (v := .int .i64 now) (at_list rfl) (by kernel_rfl) (by kernel_rfl) (by kernel_rfl) (fun _ _ _ h => h) (Or.inl ⟨by rfl, ?_⟩) hHeld ?_
          · intro v hSv
            clear hHeld
            go_simp
          try simp only [Act.put, List.setIfInBounds_toArray, List.set_cons_zero, List.set_cons_succ]
          refine wpAnyH_ready (rs := [8]) (by kernel_rfl) (by simp) ?_
          refine AllReadyH.cons (at_list rfl) (fun K hK => ?_) AllReadyH.nil
          go_simp
          refine (often8_any d (now - win) now _).mono ?_
          rintro e v1 ⟨rfl, hv1⟩
          rw [HO.out]
          go_wp2_with fail
          refine hK.out _ _ ?_ (fun hHeld2 => ?_)
          · exact ⟨bstep hHeld.1 hv1, (hHeld.2.1).keptB hv1, (hHeld.2.2.1).keptB hv1, trivial⟩
          clear hK K hHeld
          have hHeld := hHeld2
          clear hHeld2 hv1
          try simp only [Act.put, List.setIfInBounds_toArray, List.set_cons_zero, List.set_cons_succ]
          refine wpAnyH_done (by kernel_rfl) ?_ _
          have HB := Lib.hid hHeld.1
          have QA := Lib.hid hHeld.2.1
          have K8 := Lib.hid hHeld.2.2.1
          clear hHeld
          have HQE : Hid (qualE (L.take (j + 1)) (now - win) now = F ++ [d.s]) := by rw [Hid, HQS.out]; simp
          go_wp2_with (first | (refine big_appendS8 rfl _ _ rfl B rfl (QA.out).row gK9 d.s rfl K9.out HCT.out (Nat.le_trans (QA.out).low (QA.out).n) ?_; intro x2 w9 ow9 hb9; have QB := Lib.hid ((QA.out).more ow9 hb9); replace HB := Lib.hid (bbelow8 HB.out hb9 HWB.out); clear ow9 hb9 K9 QA) | (refine big_slices rfl 43 37 1 _ rfl (setsA [d.s]) 32 Try.underlying43 rfl rfl rfl (of_decide_eq_true (by kernel_rfl)) (of_decide_eq_true (by kernel_rfl)) (by kernel_rfl) ?_; intro gK9 wK9 hlK9 nK9 hbK9; have K9 := Lib.hid nK9; replace QA := Lib.hid ((QA.out).keptB hbK9); replace HB := Lib.hid (bstep HB.out hbK9); clear hlK9 nK9 hbK9 K8) | (refine big_load rfl 37 _ rfl gK8 0 rfl K8.out [.int .i64 d.s.p1, .int .i64 d.s.p2, .int .i64 d.s.q1, .int .i64 d.s.q2, .int .i64 d.s.q3, .int .u8 d.s.gr.b0, .int .u8 d.s.gr.b1, .int .u8 d.s.gr.b2, .int .u8 d.s.gr.b3, .int .u8 d.s.gr.b4, .int .u8 d.s.gr.b5, .int .u8 d.s.gr.b6, .int .u8 d.s.gr.b7, .int .i64 d.s.st, .int .u8 d.s.sn.c.b0, .int .u8 d.s.sn.c.b1, .int .u8 d.s.sn.c.b2, .int .u8 d.s.sn.c.b3, .int .u8 d.s.sn.c.b4, .int .u8 d.s.sn.c.b5, .int .u8 d.s.sn.c.b6, .int .u8 d.s.sn.c.b7, .int .i64 d.s.sn.n, .int .u8 d.s.rc.c.b0, .int .u8 d.s.rc.c.b1, .int .u8 d.s.rc.c.b2, .int .u8 d.s.rc.c.b3, .int .u8 d.s.rc.c.b4, .int .u8 d.s.rc.c.b5, .int .u8 d.s.rc.c.b6, .int .u8 d.s.rc.c.b7, .int .i64 d.s.rc.n] rfl Try.underlying37 rfl (by kernel_rfl) ?_))
          go_roundg g1
          case measure => omega
          case rel => exact ⟨j + 1, _, by omega, rfl, by go_num, Lib.hid ⟨_, _, HQE.out, QB.out⟩, HB⟩

end Go.Proofs.Ytnddmaadmibpeaa
