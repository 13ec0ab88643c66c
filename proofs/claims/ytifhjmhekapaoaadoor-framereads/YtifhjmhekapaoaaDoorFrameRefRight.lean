/- The walks over the reference's octet, word and Right of layer 6. -/
import Derived.Test.YtifhjmhekapaoaaDoorFrameB
import Derived.Test.YtifhjmhekapaoaaDoorHeadRef
import Derived.Test.YtifhjmhekapaoaaDoorStampRef
namespace Go.Proofs.YtifhjmhekapaoaaDoor
set_option maxRecDepth 100000
open Go.RowKit
set_option linter.unusedVariables false

theorem equal_clk9999 (a b : Ck) (w : World) : (Op.equalIn 9999 24 (.agg #[.int .u8 a.b0, .int .u8 a.b1, .int .u8 a.b2, .int .u8 a.b3, .int .u8 a.b4, .int .u8 a.b5, .int .u8 a.b6, .int .u8 a.b7]) (.agg #[.int .u8 b.b0, .int .u8 b.b1, .int .u8 b.b2, .int .u8 b.b3, .int .u8 b.b4, .int .u8 b.b5, .int .u8 b.b6, .int .u8 b.b7])).run Tryd.prog w = .ok (eqC a b) w := by
  have h := run_equal_ints (P := Tryd.prog) w 9997 24 5 8 .u8 (by kernel_rfl) (by kernel_rfl) size_byte a.l b.l rfl rfl
  simp only [Ck.l, List.map_cons, List.map_nil] at h
  exact h
set_option maxHeartbeats 4000000 in
theorem equal_qual9999 (a b c e f g : Int) (w : World) : (Op.equalIn 9999 40 (.agg #[.int .i64 a, .int .i64 b, .int .i64 c]) (.agg #[.int .i64 e, .int .i64 f, .int .i64 g])).run Tryd.prog w = .ok (a == e && (b == f && c == g)) w := by
  rw [run_equalIn_agg w 9998 _ _ _ (by kernel_rfl) (by kernel_rfl)]
  obtain ⟨fs, hfs⟩ : ∃ fs, Tryd.prog.fieldsOf 40 = fs := ⟨_, rfl⟩
  rw [hfs]
  have hu := Tryd.underlying40
  simp only [Program.fieldsOf, hu] at hfs
  subst hfs
  clear hu
  rw [show (a == e && (b == f && c == g)) = ((a == e) && ((b == f) && ((c == g) && true))) by simp only [Bool.and_true]]
  refine (run_eqFields_cons w _ _ _ _ _ _ _ (a == e) _ (by decide) (run_part_cell w _ .i64 _ _ _ Tryd.underlying3 rfl) (run_part_cell w _ .i64 _ _ _ Tryd.underlying3 rfl) (run_equalIn_int w _ _ _ _ _ _ Tryd.underlying3) ?_)
  refine (run_eqFields_cons w _ _ _ _ _ _ _ (b == f) _ (by decide) (run_part_cell w _ .i64 _ _ _ Tryd.underlying3 rfl) (run_part_cell w _ .i64 _ _ _ Tryd.underlying3 rfl) (run_equalIn_int w _ _ _ _ _ _ Tryd.underlying3) ?_)
  refine (run_eqFields_cons w _ _ _ _ _ _ _ (c == g) _ (by decide) (run_part_cell w _ .i64 _ _ _ Tryd.underlying3 rfl) (run_part_cell w _ .i64 _ _ _ Tryd.underlying3 rfl) (run_equalIn_int w _ _ _ _ _ _ Tryd.underlying3) ?_)
  exact run_eqFields_nil w _ _ _
set_option maxHeartbeats 4000000 in
theorem equal_set10000 (a b : Ms) (w : World) : (Op.equalIn 10000 42 (.agg (setA a)) (.agg (setA b))).run Tryd.prog w = .ok (eqSet a b) w := by
  rw [run_equalIn_agg w 9999 _ _ _ (by kernel_rfl) (by kernel_rfl)]
  obtain ⟨fs, hfs⟩ : ∃ fs, Tryd.prog.fieldsOf 42 = fs := ⟨_, rfl⟩
  rw [hfs]
  have hu := Tryd.underlying42
  simp only [Program.fieldsOf, hu] at hfs
  subst hfs
  clear hu
  rw [show eqSet a b = ((a.p1 == b.p1) && ((a.p2 == b.p2) && ((a.q1 == b.q1 && (a.q2 == b.q2 && a.q3 == b.q3)) && (eqC a.gr b.gr && ((a.st == b.st) && (eqP a.sn b.sn && (eqP a.rc b.rc && true))))))) by simp only [eqSet, Bool.and_true]]
  refine (run_eqFields_cons w _ _ _ _ _ _ _ (a.p1 == b.p1) _ (by decide) (run_part_cell w _ .i64 _ _ _ Tryd.underlying3 rfl) (run_part_cell w _ .i64 _ _ _ Tryd.underlying3 rfl) (run_equalIn_int w _ _ _ _ _ _ Tryd.underlying3) ?_)
  refine (run_eqFields_cons w _ _ _ _ _ _ _ (a.p2 == b.p2) _ (by decide) (run_part_cell w _ .i64 _ _ _ Tryd.underlying3 rfl) (run_part_cell w _ .i64 _ _ _ Tryd.underlying3 rfl) (run_equalIn_int w _ _ _ _ _ _ Tryd.underlying3) ?_)
  refine (run_eqFields_cons w _ _ _ _ _ (.agg #[.int .i64 a.q1, .int .i64 a.q2, .int .i64 a.q3]) (.agg #[.int .i64 b.q1, .int .i64 b.q2, .int .i64 b.q3]) (a.q1 == b.q1 && (a.q2 == b.q2 && a.q3 == b.q3)) _ (by decide) (run_part_agg w _ _ _ _ _ Tryd.underlying40 rfl (by kernel_rfl) (by kernel_rfl)) (run_part_agg w _ _ _ _ _ Tryd.underlying40 rfl (by kernel_rfl) (by kernel_rfl)) (equal_qual9999 a.q1 a.q2 a.q3 b.q1 b.q2 b.q3 w) ?_)
  refine (run_eqFields_cons w _ _ _ _ _ (.agg #[.int .u8 a.gr.b0, .int .u8 a.gr.b1, .int .u8 a.gr.b2, .int .u8 a.gr.b3, .int .u8 a.gr.b4, .int .u8 a.gr.b5, .int .u8 a.gr.b6, .int .u8 a.gr.b7]) (.agg #[.int .u8 b.gr.b0, .int .u8 b.gr.b1, .int .u8 b.gr.b2, .int .u8 b.gr.b3, .int .u8 b.gr.b4, .int .u8 b.gr.b5, .int .u8 b.gr.b6, .int .u8 b.gr.b7]) (eqC a.gr b.gr) _ (by decide) (run_part_agg w _ _ _ _ _ Tryd.underlying24 rfl (by kernel_rfl) (by kernel_rfl)) (run_part_agg w _ _ _ _ _ Tryd.underlying24 rfl (by kernel_rfl) (by kernel_rfl)) (equal_clk9999 a.gr b.gr w) ?_)
  refine (run_eqFields_cons w _ _ _ _ _ _ _ (a.st == b.st) _ (by decide) (run_part_cell w _ .i64 _ _ _ Tryd.underlying3 rfl) (run_part_cell w _ .i64 _ _ _ Tryd.underlying3 rfl) (run_equalIn_int w _ _ _ _ _ _ Tryd.underlying3) ?_)
  refine (run_eqFields_cons w _ _ _ _ _ (.agg #[.int .u8 a.sn.c.b0, .int .u8 a.sn.c.b1, .int .u8 a.sn.c.b2, .int .u8 a.sn.c.b3, .int .u8 a.sn.c.b4, .int .u8 a.sn.c.b5, .int .u8 a.sn.c.b6, .int .u8 a.sn.c.b7, .int .i64 a.sn.n]) (.agg #[.int .u8 b.sn.c.b0, .int .u8 b.sn.c.b1, .int .u8 b.sn.c.b2, .int .u8 b.sn.c.b3, .int .u8 b.sn.c.b4, .int .u8 b.sn.c.b5, .int .u8 b.sn.c.b6, .int .u8 b.sn.c.b7, .int .i64 b.sn.n]) (eqP a.sn b.sn) _ (by decide) (run_part_agg w _ _ _ _ _ Tryd.underlying26 rfl (by kernel_rfl) (by kernel_rfl)) (run_part_agg w _ _ _ _ _ Tryd.underlying26 rfl (by kernel_rfl) (by kernel_rfl)) (equal_prt9999 a.sn b.sn w) ?_)
  refine (run_eqFields_cons w _ _ _ _ _ (.agg #[.int .u8 a.rc.c.b0, .int .u8 a.rc.c.b1, .int .u8 a.rc.c.b2, .int .u8 a.rc.c.b3, .int .u8 a.rc.c.b4, .int .u8 a.rc.c.b5, .int .u8 a.rc.c.b6, .int .u8 a.rc.c.b7, .int .i64 a.rc.n]) (.agg #[.int .u8 b.rc.c.b0, .int .u8 b.rc.c.b1, .int .u8 b.rc.c.b2, .int .u8 b.rc.c.b3, .int .u8 b.rc.c.b4, .int .u8 b.rc.c.b5, .int .u8 b.rc.c.b6, .int .u8 b.rc.c.b7, .int .i64 b.rc.n]) (eqP a.rc b.rc) _ (by decide) (run_part_agg w _ _ _ _ _ Tryd.underlying26 rfl (by kernel_rfl) (by kernel_rfl)) (run_part_agg w _ _ _ _ _ Tryd.underlying26 rfl (by kernel_rfl) (by kernel_rfl)) (equal_prt9999 a.rc b.rc w) ?_)
  exact run_eqFields_nil w _ _ _
theorem eql_set (a b : Ms) (w : World) : (binOp .eql 42 (.agg (setA a)) (.agg (setA b))).run Tryd.prog w = .ok (.bool (eqSet a b)) w := by
  rw [run_eql_struct, equal_set10000]
  rfl
theorem roctet_any (n : Int) (w : World) :
    Calls Tryd.prog 46 #[.int .i64 n] w fun e w' => e = .returned (.bool (inB n 0 255)) ∧ w = w' := by
  by_cases h1 : 0 ≤ n
  · have d1 : decide (0 ≤ n) = true := by simpa using h1
    have H := Lib.hid (show inB n 0 255 = decide (n ≤ 255) by unfold inB; simp [h1])
    clear h1
    go_enter Tryd.func46, Tryd.ntmps46
    go_wp2
    go_ret
    exact ⟨ret_bool' H.out.symm, rfl⟩
  · have d1 : decide (0 ≤ n) = false := by simpa using h1
    have H := Lib.hid (show inB n 0 255 = false by unfold inB; simp [h1])
    clear h1
    go_enter Tryd.func46, Tryd.ntmps46
    go_wp2
    go_ret
    exact ⟨ret_bool' H.out.symm, rfl⟩
theorem rword_any (n : Int) (w : World) :
    Calls Tryd.prog 47 #[.int .i64 n] w fun e w' => e = .returned (.bool (inB n 0 65535)) ∧ w = w' := by
  by_cases h1 : 0 ≤ n
  · have d1 : decide (0 ≤ n) = true := by simpa using h1
    have H := Lib.hid (show inB n 0 65535 = decide (n ≤ 65535) by unfold inB; simp [h1])
    clear h1
    go_enter Tryd.func47, Tryd.ntmps47
    go_wp2
    go_ret
    exact ⟨ret_bool' H.out.symm, rfl⟩
  · have d1 : decide (0 ≤ n) = false := by simpa using h1
    have H := Lib.hid (show inB n 0 65535 = false by unfold inB; simp [h1])
    clear h1
    go_enter Tryd.func47, Tryd.ntmps47
    go_wp2
    go_ret
    exact ⟨ret_bool' H.out.symm, rfl⟩
/-- a message may be, as the reference says it -/
def annR (m : Ms) : Bool := inB m.o (-32768) 32767 && (inB m.src 0 255 && (eqP m.sn m.h.p && (eqP m.rc zeroP && (inB m.p1 0 255 && (inB m.p2 0 255 && (inB m.q1 0 255 && (inB m.q2 0 255 && (inB m.q3 0 65535 && (inB m.st 0 65535 && !eqC m.gr zeroC)))))))))
def restR (m : Ms) : Bool := m.o == 0 && (m.src == 0 && eqSet m zeroM)
def refR (m : Ms) : Bool := m.h.right && (rightB m.ts m.tn && ((if m.h.t = 9 then inB m.ak.n 1 65534 else eqP m.ak zeroP) && (if m.h.t = 11 then annR m else restR m)))
theorem right_ref (m : Ms) : m.right = refR m := by
  unfold Ms.right refR
  congr 1
  congr 1
  rw [Bool.eq_iff_iff]
  rw [Bool.and_eq_true, Bool.and_eq_true, eqM_iff]
  unfold saidM bodyB annR restR
  by_cases h9 : m.h.t = 9
  · rw [if_pos h9, if_pos h9, if_pos h9, if_neg (by omega)]
    simp only [Bool.and_eq_true, beq_iff_eq]
    constructor
    · rintro ⟨h, hb⟩
      refine ⟨hb, ?_, ?_, ?_⟩
      · rw [h]
      · rw [h]
      · rw [h]; exact eqSet_self zeroM
    · rintro ⟨hb, h1, h2, h3⟩
      refine ⟨?_, hb⟩
      unfold eqSet at h3
      simp only [Bool.and_eq_true, beq_iff_eq, eqP_iff, eqC_iff] at h3
      obtain ⟨h6, h7, ⟨h8, h9', h10⟩, h11, h12, h13, h14⟩ := h3
      exact Ms.ext' rfl rfl rfl rfl h1 h6 h7 h8 h9' h10 h11 h12 h13 h14 h2
  · rw [if_neg h9, if_neg h9, if_neg h9]
    by_cases h11 : m.h.t = 11
    · rw [if_pos h11, if_pos h11, if_pos h11]
      unfold setB
      simp only [Bool.and_eq_true, eqP_iff]
      constructor
      · rintro ⟨h, h1, ⟨h2, h3, h4, h5, h6, h7, h8⟩, h9⟩
        refine ⟨?_, h1, h9, ?_, ?_, h2, h3, h4, h5, h6, h8, h7⟩
        · rw [h]
        · rw [h]
        · rw [h]
      · rintro ⟨ha, h1, h9, hs, hrc, h2, h3, h4, h5, h6, h8, h7⟩
        exact ⟨Ms.ext' rfl rfl rfl ha rfl rfl rfl rfl rfl rfl rfl rfl hs hrc rfl, h1, ⟨h2, h3, h4, h5, h6, h7, h8⟩, h9⟩
    · rw [if_neg h11, if_neg h11, if_neg h11]
      simp only [Bool.and_eq_true, beq_iff_eq, eqP_iff]
      constructor
      · rintro ⟨h, _⟩
        refine ⟨?_, ?_, ?_, ?_⟩
        · rw [h]
        · rw [h]
        · rw [h]
        · rw [h]; exact eqSet_self zeroM
      · rintro ⟨ha, h1, h2, h3⟩
        refine ⟨?_, trivial⟩
        unfold eqSet at h3
        simp only [Bool.and_eq_true, beq_iff_eq, eqP_iff, eqC_iff] at h3
        obtain ⟨h6, h7, ⟨h8, h9', h10⟩, h11', h12, h13, h14⟩ := h3
        exact Ms.ext' rfl rfl rfl ha h1 h6 h7 h8 h9' h10 h11' h12 h13 h14 h2
theorem nqz (p : Pt) (r : Bool) (h : eqP p zeroP = !r) : ∀ w, (binOp .neq 26 (.agg #[.int .u8 p.c.b0, .int .u8 p.c.b1, .int .u8 p.c.b2, .int .u8 p.c.b3, .int .u8 p.c.b4, .int .u8 p.c.b5, .int .u8 p.c.b6, .int .u8 p.c.b7, .int .i64 p.n]) (.agg #[.int .u8 0, .int .u8 0, .int .u8 0, .int .u8 0, .int .u8 0, .int .u8 0, .int .u8 0, .int .u8 0, .int .i64 0])).run Tryd.prog w = .ok (.bool r) w := fun w => by
  have := neq_port p zeroP w
  rw [h, Bool.not_not] at this
  exact this
theorem nqp (p q : Pt) (r : Bool) (h : eqP p q = !r) : ∀ w, (binOp .neq 26 (.agg #[.int .u8 p.c.b0, .int .u8 p.c.b1, .int .u8 p.c.b2, .int .u8 p.c.b3, .int .u8 p.c.b4, .int .u8 p.c.b5, .int .u8 p.c.b6, .int .u8 p.c.b7, .int .i64 p.n]) (.agg #[.int .u8 q.c.b0, .int .u8 q.c.b1, .int .u8 q.c.b2, .int .u8 q.c.b3, .int .u8 q.c.b4, .int .u8 q.c.b5, .int .u8 q.c.b6, .int .u8 q.c.b7, .int .i64 q.n])).run Tryd.prog w = .ok (.bool r) w := fun w => by
  have := neq_port p q w
  rw [h, Bool.not_not] at this
  exact this
theorem nqc (c : Ck) : ∀ w, (binOp .neq 24 (.agg #[.int .u8 c.b0, .int .u8 c.b1, .int .u8 c.b2, .int .u8 c.b3, .int .u8 c.b4, .int .u8 c.b5, .int .u8 c.b6, .int .u8 c.b7]) (.agg #[.int .u8 0, .int .u8 0, .int .u8 0, .int .u8 0, .int .u8 0, .int .u8 0, .int .u8 0, .int .u8 0])).run Tryd.prog w = .ok (.bool (!eqC c zeroC)) w := fun w => neq_clock c zeroC w
theorem eqz (m : Ms) : ∀ w, (binOp .eql 42 (.agg (setA m)) (.agg #[.int .i64 0, .int .i64 0, .int .i64 0, .int .i64 0, .int .i64 0, .int .u8 0, .int .u8 0, .int .u8 0, .int .u8 0, .int .u8 0, .int .u8 0, .int .u8 0, .int .u8 0, .int .i64 0, .int .u8 0, .int .u8 0, .int .u8 0, .int .u8 0, .int .u8 0, .int .u8 0, .int .u8 0, .int .u8 0, .int .i64 0, .int .u8 0, .int .u8 0, .int .u8 0, .int .u8 0, .int .u8 0, .int .u8 0, .int .u8 0, .int .u8 0, .int .i64 0])).run Tryd.prog w = .ok (.bool (eqSet m zeroM)) w := fun w => eql_set m zeroM w
section
variable {P : Program} {ops : Array Oper} {rest : List Oper} {op : Oper} {a : Act} {w : World} {Q : Exit → Act → World → Prop}
theorem ld_ (ty : TypeId) (x : Operand) (ho : op.op = .load ty x) (hw : Region.wanted op (yielded ops a.tmps) = true) (g o : Nat) (hx : a.eval x = .pointer (some ⟨g, o, none⟩)) {t : TypeId} {cs : Array Value} (hh : Holds w g t cs)
    (ls : List Value) (hl : (cs.toList.drop o).take ls.length = ls) {d : TypeDesc} (hu : P.underlying ty = some d) (hd : d.isRow = true) (hi : (P.info? ty).map (·.size) = some ls.length)
    (h : wpList P ops Q rest (a.put op.dst (.agg ls.toArray)) w) : wpList P ops Q (op :: rest) a w := big_load hw ty x ho g o hx hh ls hl hu hd hi h
theorem wh_ (ty : TypeId) (x : Operand) (ho : op.op = .load ty x) (hw : Region.wanted op (yielded ops a.tmps) = true) (g : Nat) (hx : a.eval x = .pointer (some ⟨g, 0, none⟩)) {t : TypeId} {cs : Array Value} (hh : Holds w g t cs)
    {d : TypeDesc} (hu : P.underlying ty = some d) (hd : d.isRow = true) (hi : (P.info? ty).map (·.size) = some cs.size)
    (h : wpList P ops Q rest (a.put op.dst (.agg cs)) w) : wpList P ops Q (op :: rest) a w := big_whole hw ty x ho g hx hh hu hd hi h
theorem cm_ (bo : BinOp) (ty : TypeId) (x y : Operand) (rt : TypeId) (ho : op.op = .binOp bo ty x y rt) (hw : Region.wanted op (yielded ops a.tmps) = true) (xs ys : Array Value) (hx : a.eval x = .agg xs) (hy : a.eval y = .agg ys) (hm : P.eqGuardType P.depth ty = false) (b : Bool)
    (heq : ∀ w, (binOp bo ty (.agg xs) (.agg ys)).run P w = .ok (.bool b) w) (h : wpList P ops Q rest (a.put op.dst (.bool b)) w) : wpList P ops Q (op :: rest) a w := big_cmp hw bo ty x y rt ho xs ys hx hy hm b heq h
theorem bu_ (ty : TypeId) (parts : Array (Nat × Operand)) (ho : op.op = .build ty parts) (hw : Region.wanted op (yielded ops a.tmps) = true) (cs : Array Value) (hf : P.built ty (parts.map fun (i, x) => (i, a.eval x)).toList = some cs)
    (h : wpList P ops Q rest (a.put op.dst (.agg cs)) w) : wpList P ops Q (op :: rest) a w := big_build hw ty parts ho cs hf h
end

end Go.Proofs.YtifhjmhekapaoaaDoor
