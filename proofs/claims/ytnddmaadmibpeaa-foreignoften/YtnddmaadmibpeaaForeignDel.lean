/- slices.DeleteFunc over the senders: those that are kept go. -/
import Derived.Test.YtnddmaadmibpeaaForeignMin
namespace Go.Proofs.Ytnddmaadmibpeaa
set_option maxRecDepth 100000
open Go.RowKit
set_option linter.unusedVariables false

section
variable {P : Program} {ops : Array Oper} {rest : List Oper} {op : Oper} {a : Act} {w : World} {Q : Exit → Act → World → Prop}
/-- an operation that leaves the world as it is -/
theorem big_run (hw : Region.wanted op (yielded ops a.tmps) = true) (x : Value) (hr : (execOp a.eval op).run P w = .ok (.value x) w) (h : wpList P ops Q rest (a.put op.dst x) w) : wpList P ops Q (op :: rest) a w :=
  BigFrame.wpList_want hw fun K hK => wp_of_run hr (hK _ _ h)
theorem run_from (t e : TypeId) (x i : Operand) (ho : op.op = .slice t x (some i) none none) (g n c k : Nat) (hx : a.eval x = .slice (some ⟨g, 0, none⟩) n c) (hi : a.eval i = .int .i64 (k : Int)) (hk : k ≤ n) (hc : k < c) (hu : P.underlying t = some (.slice e)) (hs : ∀ w, (sizeOf e).run P w = .ok 9 w) :
    (execOp a.eval op).run P w = .ok (.value (.slice (some ⟨g, k * 9, none⟩) (n - k) (c - k))) w := by
  have h1 : k ≤ n := hk
  have h2 : ¬ c = k := by omega
  have h3 : (⟨g, 0, none⟩ : Addr).add (k * 9) = ⟨g, k * 9, none⟩ := by simp [Addr.add_mid]
  simp [execOp, ho, hx, hi, Instr.sliceAt, Instr.slice, Instr.sliceBounds, Instr.sliceBound, asIntOf, run_underlying hu, hs, Result.andThen, h1, h2, h3]
theorem run_to (t e : TypeId) (x i : Operand) (ho : op.op = .slice t x none (some i) none) (g n c k : Nat) (hx : a.eval x = .slice (some ⟨g, 0, none⟩) n c) (hi : a.eval i = .int .i64 (k : Int)) (hk : k ≤ c) (hu : P.underlying t = some (.slice e)) (hs : ∀ w, (sizeOf e).run P w = .ok 9 w) :
    (execOp a.eval op).run P w = .ok (.value (.slice (some ⟨g, 0, none⟩) k c)) w := by
  have h1 : k ≤ c := hk
  have h3 : (⟨g, 0, none⟩ : Addr).add 0 = ⟨g, 0, none⟩ := by simp [Addr.add_mid]
  simp [execOp, ho, hx, hi, Instr.sliceAt, Instr.slice, Instr.sliceBounds, Instr.sliceBound, asIntOf, run_underlying hu, hs, Result.andThen, h1, h3]
theorem zeros_one (n : Nat) : ∀ u ∈ (Builtin.zeroCells (ptA zP) n).toList, u.oneCell' = true := by
  intro u hu
  unfold Builtin.zeroCells at hu
  simp only [Array.toList_map, List.mem_map] at hu
  obtain ⟨i, _, rfl⟩ := hu
  have hi : i % 9 < 9 := Nat.mod_lt _ (by omega)
  have h9 : (ptA zP).size = 9 := rfl
  rw [h9, getElem!_pos _ _ (by rw [h9]; exact hi)]
  exact pt_cells zP _ (by simp)
theorem zeros_len (n : Nat) : (Builtin.zeroCells (ptA zP) n).toList.length = n * 9 := by
  unfold Builtin.zeroCells
  simp [show (ptA zP).size = 9 from rfl]
theorem big_clearS (hw : Region.wanted op (yielded ops a.tmps) = true) (m : Operand) (ho : op.op = .call { callee := .builtin .clear, args := #[m], argTypes := #[56] }) (g o n c : Nat) (hm : a.eval m = .slice (some ⟨g, o, none⟩) n c) (hn : 0 < n) {t : TypeId} {cs : Array Value} (hh : Holds w g t cs) (hf : o + n * 9 ≤ cs.size)
    (h : ∀ w1 cs', Holds w1 g t cs' → cs'.toList.take o = cs.toList.take o → Touch g w w1 → wpList Try.prog ops Q rest (a.put op.dst (.tuple #[])) w1) : wpList Try.prog ops Q (op :: rest) a w :=
  BigFrame.wpList_want hw fun K hK => by
    have hl := zeros_len n
    have hth := hh.there (o := o) (n := n * 9) hf
    have hst := run_storeCells_cells (P := Try.prog) g o (Builtin.zeroCells (ptA zP) n).toList 0 w (fun j hj => (hth j (by rw [hl] at hj; exact hj)).1) (fun j hj => (hth j (by rw [hl] at hj; exact hj)).2) (zeros_one n)
    simp only [Nat.add_zero] at hst
    obtain ⟨cs', h2, h3⟩ := heap_setCells_row (Builtin.zeroCells (ptA zP) n).toList o cs hh
    have hz : (zeroValue 35).run Try.prog w = .ok (.agg (ptA zP)) w := by kernel_rfl
    obtain ⟨k, rfl⟩ : ∃ k, n = k + 1 := ⟨n - 1, by omega⟩
    unfold Oper.wp
    simp [execOp, ho, resolve, invoke, builtin, hm, Builtin.clear_, run_underlying Try.underlying56, hz, Value.cells, hst, Result.andThen]
    refine hK _ _ (h _ cs' h2 ?_ (touch_setCells w g _ _ _ ⟨rfl, rfl, rfl, rfl, fun _ _ => rfl⟩))
    rw [h3 (by rw [hl]; exact hf), List.take_append_of_le_length (by simp; omega), List.take_take, Nat.min_self]
end
/-- who is not kept -/
def goneL (L : List Fe) (st : Int) (ps : List Pt) : List Pt := ps.filter fun q => !keptP L st q
theorem gone_snoc {L : List Fe} {st : Int} {ps : List Pt} {q : Pt} : goneL L st (ps ++ [q]) = if keptP L st q = true then goneL L st ps else goneL L st ps ++ [q] := by
  unfold goneL
  rw [List.filter_append]
  cases h : keptP L st q <;> simp [h]
theorem gone_all {L : List Fe} {st : Int} {ps : List Pt} (h : ∀ q ∈ ps, keptP L st q = false) : goneL L st ps = ps := by
  unfold goneL
  rw [List.filter_eq_self]
  intro q hq
  rw [h q hq]
  rfl
theorem gone_le (L : List Fe) (st : Int) (ps : List Pt) : (goneL L st ps).length ≤ ps.length := List.length_filter_le _ _
theorem take_one {ps : List Pt} {k : Nat} {q : Pt} (h : ps[k]? = some q) : ps.take (k + 1) = ps.take k ++ [q] := by rw [List.take_add_one, h]; rfl
theorem ptsL_append (a b : List Pt) : ptsL (a ++ b) = ptsL a ++ ptsL b := by simp [ptsL]
theorem ptsL_drop (ps : List Pt) (j : Nat) : (ptsL ps).drop (j * 9) = ptsL (ps.drop j) := by
  by_cases hj : j ≤ ps.length
  · have h1 : ptsL ps = ptsL (ps.take j) ++ ptsL (ps.drop j) := by rw [← ptsL_append, List.take_append_drop]
    have h2 : (ptsL (ps.take j)).length = j * 9 := by rw [ptsL_len, List.length_take]; congr 1; omega
    rw [h1, ← h2, List.drop_left]
  · rw [List.drop_of_length_le (l := ps) (by omega), List.drop_of_length_le (by rw [ptsL_len]; have := Nat.mul_le_mul_right 9 (show ps.length ≤ j by omega); omega)]
    rfl
theorem ptsL_take (ps : List Pt) (j : Nat) : (ptsL ps).take (j * 9) = ptsL (ps.take j) := by
  by_cases hj : j ≤ ps.length
  · have h1 : ptsL ps = ptsL (ps.take j) ++ ptsL (ps.drop j) := by rw [← ptsL_append, List.take_append_drop]
    have h2 : (ptsL (ps.take j)).length = j * 9 := by rw [ptsL_len, List.length_take]; congr 1; omega
    rw [h1, ← h2, List.take_left]
  · rw [List.take_of_length_le (l := ps) (by omega), List.take_of_length_le (by rw [ptsL_len]; have := Nat.mul_le_mul_right 9 (show ps.length ≤ j by omega); omega)]
/-- the row while it is gone through: so many stand at its front, the rest is as it was -/
structure RowIs (cs : Array Value) (size n i j : Nat) (F ps : List Pt) : Prop where
  size : cs.size = size
  front : cs.toList.take (i * 9) = ptsL F
  back : (cs.toList.drop (j * 9)).take ((n - j) * 9) = ptsL (ps.drop j)
theorem RowIs.load {cs : Array Value} {size n i j : Nat} {F ps : List Pt} (h : RowIs cs size n i j F ps) (hj : j < n) {q : Pt} (hq : ps[j]? = some q) : (cs.toList.drop (0 + j * 9)).take (ptA q).toList.length = (ptA q).toList := by
  have h1 : ps.drop j = q :: ps.drop (j + 1) := by
    obtain ⟨hl, he⟩ := List.getElem?_eq_some_iff.1 hq
    rw [List.drop_eq_getElem_cons hl, he]
  have h2 := h.back
  rw [h1] at h2
  have h3 : ptsL (q :: ps.drop (j + 1)) = (ptA q).toList ++ ptsL (ps.drop (j + 1)) := rfl
  have h4 : (ptA q).toList.length = 9 := rfl
  have h5 := congrArg (List.take 9) h2
  rw [List.take_take, h3, ← h4, List.take_left, h4] at h5
  have h6 : min 9 ((n - j) * 9) = 9 := by
    have := Nat.mul_le_mul_right 9 (show 1 ≤ n - j by omega)
    omega
  rw [h6] at h5
  rw [Nat.zero_add, h4]
  exact h5
theorem RowIs.skip {cs : Array Value} {size n i j : Nat} {F ps : List Pt} (h : RowIs cs size n i j F ps) (hj : j < n) : RowIs cs size n i (j + 1) F ps := by
  refine ⟨h.size, h.front, ?_⟩
  have h1 := congrArg (List.drop 9) h.back
  have e : ptsL (ps.drop j) = ptsL (ps.drop j) := rfl
  rw [show (9 : Nat) = 1 * 9 from rfl, ptsL_drop, List.drop_drop, List.drop_take, List.drop_drop] at h1
  rw [show j * 9 + 1 * 9 = (j + 1) * 9 by omega, show (n - j) * 9 - 1 * 9 = (n - (j + 1)) * 9 by omega, Nat.add_comm j 1] at h1
  rw [Nat.add_comm j 1] at *
  exact h1
theorem RowIs.put {cs : Array Value} {size n i j : Nat} {F ps : List Pt} (h : RowIs cs size n i j F ps) (hij : i < j) (hj : j < n) (hs : n * 9 ≤ size) (q : Pt) :
    ∃ cs' : Array Value, cs.toList.take (0 + i * 9) ++ ((ptA q).toList ++ cs.toList.drop (0 + i * 9 + (ptA q).toList.length)) = cs'.toList ∧ RowIs cs' size n (i + 1) (j + 1) (F ++ [q]) ps := by
  have h4 : (ptA q).toList.length = 9 := rfl
  have hcl : cs.toList.length = size := by simpa using h.size
  have hm1 := Nat.mul_le_mul_right 9 (show i + 1 ≤ j by omega)
  have hm2 := Nat.mul_le_mul_right 9 (show j + 1 ≤ n by omega)
  have hk := h.skip hj
  refine ⟨(cs.toList.take (i * 9) ++ ((ptA q).toList ++ cs.toList.drop (i * 9 + 9))).toArray, by rw [Nat.zero_add, h4], ?_, ?_, ?_⟩
  · simp only [List.size_toArray, List.length_append, List.length_take, List.length_drop, hcl, h4]
    omega
  · simp only []
    have e1 : (cs.toList.take (i * 9) ++ (ptA q).toList).length = (i + 1) * 9 := by
      simp only [List.length_append, List.length_take, hcl, h4]
      omega
    rw [← List.append_assoc, ← e1, List.take_left, h.front, ptsL_snoc]
  · simp only []
    have e1 : (cs.toList.take (i * 9) ++ (ptA q).toList).length = (i + 1) * 9 := by
      simp only [List.length_append, List.length_take, hcl, h4]
      omega
    rw [← List.append_assoc, List.drop_append, List.drop_of_length_le (by rw [e1]; omega), e1, List.nil_append, List.drop_drop]
    rw [show i * 9 + 9 + ((j + 1) * 9 - (i + 1) * 9) = (j + 1) * 9 by omega]
    exact hk.back
set_option maxHeartbeats 4000000 in
theorem delete8_any (bt bs p m : Nat) (own : Ck) (win : Int) (L : List Fe) (st : Int) (ps : List Pt) (g n cap : Nat) (cur : Array Value) (w : World) (h : ClosAt w bt bs p m own win L st) (ok : ∀ q ∈ ps, ptOk q) (hn : ps.length = n) (hn2 : n ≤ 1000000) (hrow : Holds w g 35 cur) (hcur : cur.toList.take (n * 9) = ptsL ps) (hsz : n * 9 ≤ cur.size) (hc : n ≤ cap) (hg : bt ≠ g ∧ bs ≠ g ∧ p ≠ g ∧ m ≠ g) :
    Calls Try.prog 35 #[.slice (some ⟨g, 0, none⟩) n cap, .func (.func 33) #[] #[.pointer (some ⟨bt, 0, none⟩), .pointer (some ⟨bs, 0, none⟩)]] w fun e w' => ∃ cur' : Array Value, e = .returned (.slice (some ⟨g, 0, none⟩) (goneL L st ps).length cap) ∧ Holds w' g 35 cur' ∧ cur'.toList.take ((goneL L st ps).length * 9) = ptsL (goneL L st ps) ∧ ClosAt w' bt bs p m own win L st ∧ Only [g] w.heap.size w w' := by
  have CA := Lib.hid h
  have HOK := Lib.hid ok
  have HN := Lib.hid hn
  have K0 := Lib.hid hrow
  have HCU := Lib.hid hcur
  have HSZ := Lib.hid hsz
  have HG := Lib.hid hg
  have HC := Lib.hid hc
  have HP : Hid (PtsAt w g 0 ps) := fun k q hk => by
    have h1 := rows_at (f := fun p : Pt => (ptA p).toList) (c := 9) (fun _ => rfl) ps k q hk
    refine Holds.range (K0.out) ?_
    have h2 := HCU.out
    have hk2 : k < ps.length := (List.getElem?_eq_some_iff.1 hk).1
    rw [show ps.flatMap (fun p : Pt => (ptA p).toList) = cur.toList.take (n * 9) by rw [h2]; rfl, List.drop_take, List.take_take] at h1
    have hm := Nat.mul_le_mul_right 9 (show k + 1 ≤ n by have := HN.out; omega)
    rw [show min 9 (n * 9 - k * 9) = 9 by omega] at h1
    rw [Nat.zero_add]
    exact h1
  clear h ok hn hrow hcur hsz hg hc
  have HB := Lib.hid (Only.refl [g] w.heap.size w)
  go_enter Try.func35, Try.ntmps35
  go_wp2_with fail
  refine (index8_any bt bs p m own win L st ps g n cap _ CA.out HOK.out HN.out hn2 HP.out).mono ?_
  rintro e w1 ⟨rfl, h1⟩
  replace CA := Lib.hid ((CA.out).keptB h1)
  replace K0 := Lib.hid ((K0.out).keptB h1)
  replace HB := Lib.hid ((HB.out).step h1)
  clear h1
  clear HP
  rcases idxK_spec (keptP L st) ps 0 with ⟨hi, hf⟩ | ⟨k, x, hi, hx, hkx, hf⟩
  · have hI : idxP (keptP L st) ps = -1 := hi
    rw [hI]
    have HE := Lib.hid (gone_all hf)
    clear hi hf hI
    go_wp2
    go_ret
    refine ⟨cur, ?_, K0.out, ?_, CA.out, HB.out⟩
    · rw [HE.out, HN.out]; rfl
    · rw [HE.out, HN.out]; exact HCU.out
  · have hI : idxP (keptP L st) ps = (k : Int) := hi.trans (congrArg (fun x : Nat => (x : Int)) (Nat.zero_add k))
    rw [hI]
    have hkn : k < n := by have := (List.getElem?_eq_some_iff.1 hx).1; have := HN.out; omega
    have HK := Lib.hid hkn
    have HF0 : Hid (goneL L st (ps.take (k + 1)) = ps.take k) := by
      rw [Hid, take_one hx, gone_snoc, if_pos hkx]
      exact gone_all hf
    have HR0 : Hid (RowIs cur cur.size n k (k + 1) (goneL L st (ps.take (k + 1))) ps) := by
      rw [HF0.out]
      have h1 := HCU.out
      refine ⟨rfl, ?_, ?_⟩
      · have h2 := congrArg (List.take (k * 9)) h1
        have hm := Nat.mul_le_mul_right 9 (show k ≤ n by omega)
        rw [List.take_take, show min (k * 9) (n * 9) = k * 9 by omega, ptsL_take] at h2
        exact h2
      · have h2 := congrArg (List.drop ((k + 1) * 9)) h1
        rw [List.drop_take, show n * 9 - (k + 1) * 9 = (n - (k + 1)) * 9 by omega, ptsL_drop] at h2
        exact h2
    have HL0 : Hid (k = (goneL L st (ps.take (k + 1))).length) := by rw [HF0.out, List.length_take]; show k = min k ps.length; have := HN.out; omega
    have hd1 : ((k : Int) == -1) = false := by first | (simp; done) | (simp; omega)
    have hb1 : (k : Int) < 1000000 := by omega
    clear hi hx hkx hf hI hkn HCU HF0
    go_wp2
    go_loopg [5, 6] (n - (k + 1)) (fun gh vi vj v => ∃ (i j : Nat) (cs : Array Value), j + gh = n ∧ i < j ∧ j ≤ n ∧ vi = .int .i64 i ∧ vj = .int .i64 j ∧ Hid (i = (goneL L st (ps.take j)).length) ∧ Hid (RowIs cs cur.size n i j (goneL L st (ps.take j)) ps) ∧ Hid (Only [g] w.heap.size w v) ∧ Hid (Holds v g 35 cs) ∧ Hid (ClosAt v bt bs p m own win L st))
    case atStart => exact ⟨k, k + 1, cur, by have := HK.out; omega, by omega, HK.out, rfl, by go_num, HL0, HR0, HB, K0, CA⟩
    case round =>
      clear HL0 HR0 HB K0 CA hd1 hb1
      obtain ⟨i, j, cs, hgh, hij, hjn, rfl, rfl, HL1, HR1, HB, K0, CA⟩ := hrel
      cases gk with
      | zero =>
        have hd : decide ((j : Int) < (n : Int)) = false := by simp; omega
        obtain rfl : j = n := by omega
        have HI := Lib.hid hij
        have HAL : Hid (ps.take j = ps) := by rw [Hid, List.take_of_length_le (by have := HN.out; omega)]
        rw [HAL.out] at HL1 HR1
        clear hgh hij hjn
        go_wp2_with (first | (refine big_run rfl (.slice (some ⟨g, i * 9, none⟩) (j - i) (cap - i)) (run_from 56 35 _ _ rfl g j cap i rfl rfl (by have := HI.out; omega) (by have := HI.out; have := HC.out; omega) Try.underlying56 Try.sizeOf35) ?_) | (refine big_run rfl (.slice (some ⟨g, 0, none⟩) i cap) (run_to 56 35 _ _ rfl g j cap i rfl rfl (by have := HI.out; have := HC.out; omega) Try.underlying56 Try.sizeOf35) ?_) | (refine big_clearS rfl _ rfl g (i * 9) (j - i) (cap - i) rfl (by have := HI.out; omega) K0.out (by have h1 := (HR1.out).size; have h2 := HSZ.out; have h3 := HI.out; have hm := Nat.mul_le_mul_right 9 (show i + (j - i) ≤ j by omega); rw [Nat.add_mul] at hm; omega) ?_; intro w3 cs3 h3 h4 t3; replace K0 := Lib.hid h3; replace CA := Lib.hid ((CA.out).touch t3 HG.out); replace HB := Lib.hid (Only.touch HB.out t3 (fun _ => by simp)); have HT := Lib.hid h4; clear h3 h4 t3))
        go_ret
        refine ⟨cs3, ?_, K0.out, ?_, CA.out, HB.out⟩
        · rw [← HL1.out]; rfl
        · rw [← HL1.out, HT.out]; exact (HR1.out).front
      | succ g1 =>
        have hlt : j < n := by omega
        have hd : decide ((j : Int) < (n : Int)) = true := by simpa using hlt
        obtain ⟨q, hq⟩ : ∃ q, ps[j]? = some q := ⟨_, List.getElem?_eq_getElem (show j < ps.length by have := HN.out; omega)⟩
        have HQ := Lib.hid hq
        have HK := Lib.hid hlt
        have HIJ := Lib.hid hij
        have HOQ := Lib.hid ((HOK.out) q (List.mem_of_getElem? hq))
        have HS := Lib.hid (take_one hq)
        clear hq hlt
        cases hb : keptP L st q
        · have HB7 := Lib.hid hb
          clear hb
          go_wp2_with (first | (refine big_fill rfl 35 _ _ rfl gK7 (ptA q) rfl rfl K7.out (by kernel_rfl) (by kernel_rfl) (by kernel_rfl) ?_; intro vK7 nK7 tK7; replace K7 := Lib.hid nK7; replace CA := Lib.hid ((CA.out).touch tK7 OC7.out); replace K0 := Lib.hid ((K0.out).touch tK7 O07.out); replace HB := Lib.hid (Only.touch HB.out tK7 (fun hx => absurd hx (by have := LK7.out; omega))); clear nK7 tK7) | (refine big_alloc rfl 35 rfl (ptA zP) (by kernel_rfl) ?_; intro gK7 wK7 hlK7 nK7 hbK7; have K7 := Lib.hid nK7; have LK7 := Lib.hid (Nat.le_trans (HB.out).size hlK7); have O07 := Lib.hid ((K0.out).off hlK7); have OC7 := Lib.hid ((CA.out).off hlK7); replace CA := Lib.hid ((CA.out).keptB hbK7); replace K0 := Lib.hid ((K0.out).keptB hbK7); replace HB := Lib.hid ((HB.out).step hbK7); clear hlK7 nK7 hbK7) | (refine big_whole rfl 35 _ rfl gK7 rfl K7.out Try.underlying35 rfl (by kernel_rfl) ?_) | (refine big_load rfl 35 _ rfl g (0 + j * 9) rfl K0.out (ptA q).toList ((HR1.out).load HK.out HQ.out) Try.underlying35 rfl (by kernel_rfl) ?_) | (refine big_index rfl 56 _ _ rfl g 0 n cap j 9 rfl rfl HK.out Try.underlying56 (by kernel_rfl) ?_))
          refine (kept8_any bt bs p m own win L st q _ CA.out HOQ.out).mono ?_
          rintro e w6 ⟨rfl, h6⟩
          rw [HB7.out]
          replace K7 := Lib.hid ((K7.out).keptB h6)
          replace CA := Lib.hid ((CA.out).keptB h6)
          replace K0 := Lib.hid ((K0.out).keptB h6)
          replace HB := Lib.hid ((HB.out).step h6)
          clear h6
          have HF : Hid (goneL L st (ps.take (j + 1)) = goneL L st (ps.take j) ++ [q]) := by rw [Hid, HS.out, gone_snoc, if_neg (by rw [HB7.out]; simp)]
          obtain ⟨cs2, hcs, hr2⟩ := (HR1.out).put HIJ.out HK.out HSZ.out q
          have HCS := Lib.hid hcs
          have HR2 := Lib.hid hr2
          clear hcs hr2
          go_wp2_with (first | (refine big_store rfl 35 _ _ rfl g (0 + i * 9) (ptA q).toList rfl rfl K0.out (by kernel_rfl) (by kernel_rfl) (by have h1 := (HR1.out).size; have h2 := HSZ.out; have h3 := HIJ.out; have h4 := HK.out; have hm := Nat.mul_le_mul_right 9 (show i + 1 ≤ n by omega); have h5 : (ptA q).toList.length = 9 := rfl; omega) cs2 HCS.out ?_; intro w8 n8 t8; replace K0 := Lib.hid n8; replace CA := Lib.hid ((CA.out).touch t8 HG.out); replace HB := Lib.hid (Only.touch HB.out t8 (fun _ => by simp)); clear n8 t8) | (refine big_whole rfl 35 _ rfl gK7 rfl K7.out Try.underlying35 rfl (by kernel_rfl) ?_) | (refine big_index rfl 56 _ _ rfl g 0 n cap i 9 rfl rfl (by have := HIJ.out; have := HK.out; omega) Try.underlying56 (by kernel_rfl) ?_))
          go_roundg g1
          case measure => omega
          case rel => exact ⟨i + 1, j + 1, cs2, by omega, by have := HIJ.out; omega, HK.out, by go_num, by go_num, by rw [HF.out, List.length_append, ← HL1.out]; rfl, by rw [HF.out]; exact HR2, HB, K0, CA⟩
        · have HB7 := Lib.hid hb
          clear hb
          go_wp2_with (first | (refine big_fill rfl 35 _ _ rfl gK7 (ptA q) rfl rfl K7.out (by kernel_rfl) (by kernel_rfl) (by kernel_rfl) ?_; intro vK7 nK7 tK7; replace K7 := Lib.hid nK7; replace CA := Lib.hid ((CA.out).touch tK7 OC7.out); replace K0 := Lib.hid ((K0.out).touch tK7 O07.out); replace HB := Lib.hid (Only.touch HB.out tK7 (fun hx => absurd hx (by have := LK7.out; omega))); clear nK7 tK7) | (refine big_alloc rfl 35 rfl (ptA zP) (by kernel_rfl) ?_; intro gK7 wK7 hlK7 nK7 hbK7; have K7 := Lib.hid nK7; have LK7 := Lib.hid (Nat.le_trans (HB.out).size hlK7); have O07 := Lib.hid ((K0.out).off hlK7); have OC7 := Lib.hid ((CA.out).off hlK7); replace CA := Lib.hid ((CA.out).keptB hbK7); replace K0 := Lib.hid ((K0.out).keptB hbK7); replace HB := Lib.hid ((HB.out).step hbK7); clear hlK7 nK7 hbK7) | (refine big_whole rfl 35 _ rfl gK7 rfl K7.out Try.underlying35 rfl (by kernel_rfl) ?_) | (refine big_load rfl 35 _ rfl g (0 + j * 9) rfl K0.out (ptA q).toList ((HR1.out).load HK.out HQ.out) Try.underlying35 rfl (by kernel_rfl) ?_) | (refine big_index rfl 56 _ _ rfl g 0 n cap j 9 rfl rfl HK.out Try.underlying56 (by kernel_rfl) ?_))
          refine (kept8_any bt bs p m own win L st q _ CA.out HOQ.out).mono ?_
          rintro e w6 ⟨rfl, h6⟩
          rw [HB7.out]
          replace K7 := Lib.hid ((K7.out).keptB h6)
          replace CA := Lib.hid ((CA.out).keptB h6)
          replace K0 := Lib.hid ((K0.out).keptB h6)
          replace HB := Lib.hid ((HB.out).step h6)
          clear h6
          have HF : Hid (goneL L st (ps.take (j + 1)) = goneL L st (ps.take j)) := by rw [Hid, HS.out, gone_snoc, if_pos HB7.out]
          go_wp2
          go_roundg g1
          case measure => omega
          case rel => exact ⟨i, j + 1, cs, by omega, by have := HIJ.out; omega, HK.out, rfl, by go_num, by rw [HF.out]; exact HL1, by rw [HF.out]; exact (HR1.out).skip HK.out, HB, K0, CA⟩

end Go.Proofs.Ytnddmaadmibpeaa
