/- The walks over the small functions of foreign. -/
import Derived.Test.YtnddmaadmibpeaaForeignMap
import Derived.Test.YtnddmaadmibpeaaIdentPlain
import Derived.Test.YtnddmaadmibpeaaByHand
import Derived.Test.YtnddmaadmibpeaaRegionEnd
import Derived.Deep.DeepCutAuto
import Derived.Deep.LoopGhost
namespace Go.Proofs.Ytnddmaadmibpeaa
set_option maxRecDepth 100000
open Go.RowKit
set_option linter.unusedVariables false

/-- a table's cells -/
def taA (own : Ck) (win : Int) (m : Nat) : Array Value := #[.int .u8 own.b0, .int .u8 own.b1, .int .u8 own.b2, .int .u8 own.b3, .int .u8 own.b4, .int .u8 own.b5, .int .u8 own.b6, .int .u8 own.b7, .int .i64 win, .map (some m)]
/-- a table in memory -/
structure TabAt (w : World) (p m : Nat) (own : Ck) (win : Int) (L : List Fe) : Prop where
  tab : Holds w p 54 (taA own win m)
  map : MapAt w m L
theorem TabAt.keptB {w v : World} {p m : Nat} {own : Ck} {win : Int} {L : List Fe} (h : TabAt w p m own win L) (hb : Below w.heap.size w v) : TabAt v p m own win L := ⟨h.tab.keptB hb, h.map.keptB hb⟩
theorem TabAt.drew {w : World} {p m : Nat} {own : Ck} {win : Int} {L : List Fe} (h : TabAt w p m own win L) : TabAt w.drew p m own win L := ⟨h.tab.drew, h.map.drew⟩
theorem TabAt.off {w : World} {p m g : Nat} {own : Ck} {win : Int} {L : List Fe} (h : TabAt w p m own win L) (hg : w.heap.size ≤ g) : p ≠ g ∧ m ≠ g := ⟨by have := h.tab.inside; omega, by have := h.map.lt; omega⟩
theorem TabAt.touch {w v : World} {p m g : Nat} {own : Ck} {win : Int} {L : List Fe} (h : TabAt w p m own win L) (ht : Touch g w v) (hg : p ≠ g ∧ m ≠ g) : TabAt v p m own win L := ⟨h.tab.touch ht hg.1, h.map.touch ht hg.2⟩
theorem TabAt.ne {w : World} {p m : Nat} {own : Ck} {win : Int} {L : List Fe} (h : TabAt w p m own win L) : m ≠ p := h.map.not_cells h.tab
theorem TabAt.with_ {w v : World} {p m : Nat} {own : Ck} {win : Int} {L L' : List Fe} (h : TabAt w p m own win L) (hm : MapAt v m L') (ht : Touch m w v) : TabAt v p m own win L' := ⟨h.tab.touch ht h.ne.symm, hm⟩
theorem run_pick0 (a b : Int) (w : World) : (Instr.index 58 (.agg #[.int .i64 a, .int .i64 b]) (.int .i64 0)).run Try.prog w = .ok (.int .i64 a) w := by
  have hs : (sizeOf 3).run Try.prog w = .ok 1 w := by kernel_rfl
  simp [Instr.index, asIntOf, run_underlying Try.underlying58, hs, run_part_cell (P := Try.prog) (w := w) 3 .i64 #[.int .i64 a, .int .i64 b] 0 (.int .i64 a) Try.underlying3 rfl, Result.andThen]
theorem run_pick1 (a b : Int) (w : World) : (Instr.index 58 (.agg #[.int .i64 a, .int .i64 b]) (.int .i64 1)).run Try.prog w = .ok (.int .i64 b) w := by
  have hs : (sizeOf 3).run Try.prog w = .ok 1 w := by kernel_rfl
  simp [Instr.index, asIntOf, run_underlying Try.underlying58, hs, run_part_cell (P := Try.prog) (w := w) 3 .i64 #[.int .i64 a, .int .i64 b] 1 (.int .i64 b) Try.underlying3 rfl, Result.andThen]
theorem ret_bool8 {a b : Bool} (h : a = b) : (Ending.returned (.bool a)) = .returned (.bool b) := by rw [h]
theorem Holds.off {w : World} {k g : Nat} {t : TypeId} {cs : Array Value} (h : Holds w k t cs) (hg : w.heap.size ≤ g) : k ≠ g := by have := h.inside; omega
section
variable {P : Program} {ops : Array Oper} {rest : List Oper} {op : Oper} {a : Act} {w : World} {Q : Exit → Act → World → Prop}
theorem step_fill {K : Act → World → Prop} {E : Prop} (hw : Region.wanted op (yielded ops a.tmps) = true) (ty : TypeId) (x y : Operand) (ho : op.op = .store ty x y) (g : Nat) (cs' : Array Value) (hx : a.eval x = .pointer (some ⟨g, 0, none⟩)) (hy : a.eval y = .agg cs') {t : TypeId} {cs : Array Value} (hh : Holds w g t cs)
    (hi : (P.info? ty).map (·.size) = some cs'.size) (h1 : cs'.all (·.oneCell') = true) (hn : cs.size = cs'.size)
    (h : ∀ w1, Holds w1 g t cs' → Touch g w w1 → K (a.put op.dst undef) w1) : if Region.wanted op (yielded ops a.tmps) = true then Oper.wp P op a w K Q else E := by
  refine step_store hw ty x y ho g 0 cs'.toList hx (by simpa using hy) hh (by simpa using hi) (by simpa using h1) (by simp; omega) cs' ?_ h
  simp [hn]
theorem run_look_op (m p' : Operand) (c : Bool) (ho : op.op = .lookup 52 m p' c) {mb : Nat} {L : List Fe} {p : Pt} (hm : a.eval m = .map (some mb)) (hp : a.eval p' = .agg (ptA p)) (h : MapAt w mb L) (ok : ptOk p) :
    (execOp a.eval op).run Try.prog w = .ok (.value (if c then .tuple #[.agg (feA (atE L p)), .bool (hasE L p)] else .agg (feA (atE L p)))) w := by
  unfold execOp
  simp only [ho, hm, hp, Sem.run_bind, h.look ok c, Result.andThen_ok, Sem.run_pure]
theorem yields_look {S : World → Prop} (hw : Region.wanted op (yielded ops a.tmps) = true) (m p' : Operand) (ho : op.op = .lookup 52 m p' false) {mb : Nat} {L : List Fe} {p : Pt} (hm : a.eval m = .map (some mb)) (hp : a.eval p' = .agg (ptA p)) (hS : ∀ w, S w → MapAt w mb L) (ok : ptOk p) :
    YieldsIf Try.prog ops S op (.agg (feA (atE L p))) a := .inl ⟨hw, fun w hv => run_look_op m p' false ho hm hp (hS w hv) ok⟩
theorem yields_look2 {S : World → Prop} (hw : Region.wanted op (yielded ops a.tmps) = true) (m p' : Operand) (ho : op.op = .lookup 52 m p' true) {mb : Nat} {L : List Fe} {p : Pt} (hm : a.eval m = .map (some mb)) (hp : a.eval p' = .agg (ptA p)) (hS : ∀ w, S w → MapAt w mb L) (ok : ptOk p) :
    YieldsIf Try.prog ops S op (.tuple #[.agg (feA (atE L p)), .bool (hasE L p)]) a := .inl ⟨hw, fun w hv => run_look_op m p' true ho hm hp (hS w hv) ok⟩
/-- a map is made -/
theorem big_make (hw : Region.wanted op (yielded ops a.tmps) = true) (ho : op.op = .makeMap 52 none) (h : ∀ g w1, w.heap.size ≤ g → MapAt w1 g [] → Below w.heap.size w w1 → wpList Try.prog ops Q rest (a.put op.dst (.map (some g))) w1) : wpList Try.prog ops Q (op :: rest) a w :=
  BigFrame.wpList_want hw fun K hK => by
    have hr := @run_makeMap Try.prog
    unfold Oper.wp execOp
    simp [ho, hr, Result.andThen]
    exact hK _ _ (h _ _ (Nat.le_refl _) (map_made w) (bnew w _))
/-- how many entries a map has -/
theorem big_lenM (hw : Region.wanted op (yielded ops a.tmps) = true) (m : Operand) (ho : op.op = .call { callee := .builtin .len, args := #[m], argTypes := #[52] }) {mb : Nat} {L : List Fe} (hm : a.eval m = .map (some mb)) (hh : MapAt w mb L)
    (h : wpList Try.prog ops Q rest (a.put op.dst (.int .i64 L.length)) w) : wpList Try.prog ops Q (op :: rest) a w :=
  BigFrame.wpList_want hw fun K hK => by
    unfold Oper.wp
    simp [execOp, ho, resolve, invoke, builtin, hm, hh.len_ op.type, Result.andThen]
    exact hK _ _ h
theorem big_clearM (hw : Region.wanted op (yielded ops a.tmps) = true) (m : Operand) (ho : op.op = .call { callee := .builtin .clear, args := #[m], argTypes := #[52] }) {mb : Nat} {L : List Fe} (hm : a.eval m = .map (some mb)) (hh : MapAt w mb L)
    (h : ∀ w1, MapAt w1 mb [] → Touch mb w w1 → wpList Try.prog ops Q rest (a.put op.dst (.tuple #[])) w1) : wpList Try.prog ops Q (op :: rest) a w :=
  BigFrame.wpList_want hw fun K hK => by
    obtain ⟨w', hr, h1, h2⟩ := hh.clear_ op.type
    unfold Oper.wp
    simp [execOp, ho, resolve, invoke, builtin, hm, hr, Result.andThen]
    exact hK _ _ (h w' h1 h2)
theorem step_delM {K : Act → World → Prop} {E : Prop} (hw : Region.wanted op (yielded ops a.tmps) = true) (m p' : Operand) (ho : op.op = .call { callee := .builtin .delete, args := #[m, p'], argTypes := #[52, 35] }) {mb : Nat} {L : List Fe} {p : Pt} (hm : a.eval m = .map (some mb)) (hp : a.eval p' = .agg (ptA p)) (hh : MapAt w mb L) (ok : ptOk p)
    (h : ∀ w1, MapAt w1 mb (delE L p) → Touch mb w w1 → K (a.put op.dst (.tuple #[])) w1) : if Region.wanted op (yielded ops a.tmps) = true then Oper.wp Try.prog op a w K Q else E := by
  rw [if_pos hw]
  obtain ⟨w', hr, h1, h2⟩ := hh.drop ok op.type
  unfold Oper.wp
  simp [execOp, ho, resolve, invoke, builtin, hm, hp, hr, Result.andThen]
  exact h w' h1 h2
theorem step_putM {K : Act → World → Prop} {E : Prop} (hw : Region.wanted op (yielded ops a.tmps) = true) (m p' v' : Operand) (ho : op.op = .mapUpdate 52 m p' v') {mb : Nat} {L : List Fe} {e : Fe} (hm : a.eval m = .map (some mb)) (hp : a.eval p' = .agg (ptA e.s.sn)) (hv : a.eval v' = .agg (feA e)) (hh : MapAt w mb L) (ok : ptOk e.s.sn) (hn : L.length < 1000)
    (h : ∀ w1, MapAt w1 mb (putE L e) → Touch mb w w1 → K (a.put op.dst undef) w1) : if Region.wanted op (yielded ops a.tmps) = true then Oper.wp Try.prog op a w K Q else E := by
  rw [if_pos hw]
  obtain ⟨w', hr, h1, h2⟩ := hh.store ok hn
  unfold Oper.wp
  simp [execOp, ho, hm, hp, hv, hr, Result.andThen]
  exact h w' h1 h2
end
/-- a struct in memory and two values are told -/
theorem results_three {P : Program} {fn : Func} {p u v : Tmp} {ty : TypeId} (h : fn.results = #[.cell p ty, .tmp u, .tmp v]) (tmps : Array Value) (w : World) (g : Nat) (t : TypeId) (cs : Array Value) (x y : Value) (d : TypeDesc) (hp : tmps.getD p undef = .pointer (some ⟨g, 0, none⟩)) (hx : tmps.getD u undef = x) (hy : tmps.getD v undef = y) (hg : Holds w g t cs)
    (hu : P.underlying ty = some d) (hd : d.isRow = true) (hi : (P.info? ty).map (·.size) = some cs.size) : (results fn tmps).run P w = .ok (.tuple #[.agg cs, x, y]) w := by
  have hr := run_loadVar_row w g t ty cs (0, 0) d hg hu (by cases d <;> simp_all) hi
  have h0 : (results fn tmps).run P w = ((asAddr (tmps.getD p undef)).run P w).andThen fun a w₁ => ((loadVar ty a).run P w₁).andThen fun z w₂ => .ok (.tuple #[z, tmps.getD u undef, tmps.getD v undef]) w₂ := by
    simp only [results, h]
    simp [Sem.run_bind, Result.andThen]
  rw [h0, hp, hx, hy]
  simp only [asAddr, Sem.run_pure, Result.andThen_ok, hr]
theorem new_is {w u : World} {e : TypeId} : True := trivial
set_option maxHeartbeats 4000000 in
theorem last8_any (x : Fe) (w : World) :
    Calls Try.prog 20 #[.agg (feA x)] w fun e w' => e = .returned (.int .i64 x.t0) ∧ Below w.heap.size w w' := by
  have HB := Lib.hid (Below.refl w.heap.size w)
  go_enter Try.func20, Try.ntmps20
  go_wp2_with (refine big_box rfl 60 _ rfl (feA x) rfl (by kernel_rfl) ?_; intro gK1 wK1 hlK1 nK1 hbK1; have K1 := Lib.hid nK1; have LK1 := Lib.hid (Nat.le_trans (HB.out).size hlK1); replace HB := Lib.hid (bstep HB.out hbK1); clear hlK1 nK1 hbK1; have x32 := (K1.out).reads (i := 32) (x := .int .i64 x.t0) rfl)
  go_ret
  exact ⟨rfl, HB.out⟩
set_option maxHeartbeats 4000000 in
theorem often8_any (x : Fe) (st now : Int) (w : World) :
    Calls Try.prog 19 #[.agg (feA x), .int .i64 st, .int .i64 now] w fun e w' => e = .returned (.bool (oftenE x st now)) ∧ Below w.heap.size w w' := by
  have HB := Lib.hid (Below.refl w.heap.size w)
  by_cases hc : x.c < 2
  · have HX : Hid (oftenE x st now = false) := by unfold oftenE; rw [Hid, decide_eq_true hc]; rfl
    have dc : decide (x.c < 2) = true := decide_eq_true hc
    clear hc
    go_enter Try.func19, Try.ntmps19
    go_upto_region 1 with (refine big_box rfl 60 _ rfl (feA x) rfl (by kernel_rfl) ?_; intro gK1 wK1 hlK1 nK1 hbK1; have K1 := Lib.hid nK1; have LK1 := Lib.hid (Nat.le_trans (HB.out).size hlK1); replace HB := Lib.hid (bstep HB.out hbK1); clear hlK1 nK1 hbK1; have x34 := (K1.out).reads (i := 34) (x := .int .i64 x.c) rfl)
    go_wp2
    try rw [Exit.noGoto_ret]
    go_ret
    exact ⟨ret_bool8 HX.out.symm, HB.out⟩
  · have dc : decide (x.c < 2) = false := decide_eq_false hc
    have HC := Lib.hid hc
    clear hc
    go_enter Try.func19, Try.ntmps19
    go_upto_region 1 with (refine big_box rfl 60 _ rfl (feA x) rfl (by kernel_rfl) ?_; intro gK1 wK1 hlK1 nK1 hbK1; have K1 := Lib.hid nK1; have LK1 := Lib.hid (Nat.le_trans (HB.out).size hlK1); replace HB := Lib.hid (bstep HB.out hbK1); clear hlK1 nK1 hbK1; have x34 := (K1.out).reads (i := 34) (x := .int .i64 x.c) rfl)
    have x33 := (K1.out).reads (i := 33) (x := .int .i64 x.t1) rfl
    have x32 := (K1.out).reads (i := 32) (x := .int .i64 x.t0) rfl
    go_wp2
    clear x32 x33 x34 K1
    go_loopg [14] 2 (fun gh i v => ∃ k : Nat, k + gh = 2 ∧ i = .int .i64 k ∧ Hid ((1 ≤ k → inW x.t0 st now = true) ∧ (2 ≤ k → inW x.t1 st now = true)) ∧ Hid (Below w.heap.size w v))
    case atStart => exact ⟨0, by omega, rfl, Lib.hid ⟨fun h => absurd h (by omega), fun h => absurd h (by omega)⟩, HB⟩
    case round =>
      clear HB
      obtain ⟨k, hk, rfl, HW, HB⟩ := hrel
      rcases gk with _ | _ | g
      · obtain rfl : k = 2 := by omega
        have HX : Hid (oftenE x st now = true) := by
          unfold oftenE
          rw [Hid, (HW.out).1 (by omega), (HW.out).2 (by omega), decide_eq_false (show ¬ x.c < 2 by have := HC.out; omega)]
          rfl
        clear hk
        go_wp2
        try rw [Exit.noGoto_ret]
        go_ret
        exact ⟨ret_bool8 HX.out.symm, HB.out⟩
      · obtain rfl : k = 1 := by omega
        clear hk
        rw [show ((1 : Nat) : Int) = 1 from rfl]
        have ix := run_pick1 x.t0 x.t1
        by_cases h1 : x.t1 ≤ st
        · have HX : Hid (oftenE x st now = false) := by
            have : inW x.t1 st now = false := by unfold inW; simp; omega
            unfold oftenE; rw [Hid, this]; simp
          have d1 : decide (x.t1 ≤ st) = true := decide_eq_true h1
          clear h1
          go_wp2
          try rw [Exit.noGoto_ret]
          go_ret
          exact ⟨ret_bool8 HX.out.symm, HB.out⟩
        · by_cases h2 : now < x.t1
          · have HX : Hid (oftenE x st now = false) := by
              have : inW x.t1 st now = false := by unfold inW; simp; omega
              unfold oftenE; rw [Hid, this]; simp
            have d1 : decide (x.t1 ≤ st) = false := decide_eq_false h1
            have d2 : decide (now < x.t1) = true := decide_eq_true h2
            clear h1 h2
            go_wp2
            try rw [Exit.noGoto_ret]
            go_ret
            exact ⟨ret_bool8 HX.out.symm, HB.out⟩
          · have HI1 : Hid (inW x.t1 st now = true) := by unfold inW; rw [Hid]; simp; omega
            have d1 : decide (x.t1 ≤ st) = false := decide_eq_false h1
            have d2 : decide (now < x.t1) = false := decide_eq_false h2
            clear h1 h2
            go_wp2
            go_roundg 0
            case measure => omega
            case rel => exact ⟨2, by omega, by go_num, Lib.hid ⟨fun _ => (HW.out).1 (by omega), fun _ => HI1.out⟩, HB⟩
      · obtain rfl : k = 0 := by omega
        obtain rfl : g = 0 := by omega
        clear hk
        rw [show ((0 : Nat) : Int) = 0 from rfl]
        have ix := run_pick0 x.t0 x.t1
        by_cases h1 : x.t0 ≤ st
        · have HX : Hid (oftenE x st now = false) := by
            have : inW x.t0 st now = false := by unfold inW; simp; omega
            unfold oftenE; rw [Hid, this]; simp
          have d1 : decide (x.t0 ≤ st) = true := decide_eq_true h1
          clear h1
          go_wp2
          try rw [Exit.noGoto_ret]
          go_ret
          exact ⟨ret_bool8 HX.out.symm, HB.out⟩
        · by_cases h2 : now < x.t0
          · have HX : Hid (oftenE x st now = false) := by
              have : inW x.t0 st now = false := by unfold inW; simp; omega
              unfold oftenE; rw [Hid, this]; simp
            have d1 : decide (x.t0 ≤ st) = false := decide_eq_false h1
            have d2 : decide (now < x.t0) = true := decide_eq_true h2
            clear h1 h2
            go_wp2
            try rw [Exit.noGoto_ret]
            go_ret
            exact ⟨ret_bool8 HX.out.symm, HB.out⟩
          · have HI0 : Hid (inW x.t0 st now = true) := by unfold inW; rw [Hid]; simp; omega
            have d1 : decide (x.t0 ≤ st) = false := decide_eq_false h1
            have d2 : decide (now < x.t0) = false := decide_eq_false h2
            clear h1 h2
            go_wp2
            go_roundg 1
            case measure => omega
            case rel => exact ⟨1, by omega, by go_num, Lib.hid ⟨fun _ => HI0.out, fun h => absurd h (by omega)⟩, HB⟩
set_option maxHeartbeats 4000000 in
theorem heard8_any (x : Fe) (s : Rs) (now : Int) (w : World) (ho : x.ok) :
    Calls Try.prog 23 #[.agg (feA x), .agg (rsA s), .int .i64 now] w fun e w' => e = .returned (.agg (feA (heardE x s now))) ∧ Below w.heap.size w w' := by
  have HB := Lib.hid (Below.refl w.heap.size w)
  by_cases hc : x.c + 1 ≤ 2
  · have HX : Hid (heardE x s now = ⟨s, now, x.t0, x.c + 1⟩) := by
      unfold heardE
      rw [Hid, show (if x.c + 1 < 2 then x.c + 1 else 2) = x.c + 1 by split <;> omega]
    have dc : ¬ 2 < x.c + 1 := by omega
    have dc2 : ¬ 1 < x.c := by omega
    clear hc
    have c0 := ho.c0
    have c2 := ho.c2
    clear ho
    go_enter Try.func23, Try.ntmps23
    go_upto_region 1 with (first | (refine big_alloc rfl 60 rfl (feA zeroFe) (by kernel_rfl) ?_; intro gK3 wK3 hlK3 nK3 hbK3; have K3 := Lib.hid nK3; have LK3 := Lib.hid (Nat.le_trans (HB.out).size hlK3); have NK1K3 := Lib.hid (show gK1 ≠ gK3 by have := (K1.out).inside; omega); replace K1 := Lib.hid ((K1.out).keptB hbK3); have NK2K3 := Lib.hid (show gK2 ≠ gK3 by have := (K2.out).inside; omega); replace K2 := Lib.hid ((K2.out).keptB hbK3); replace HB := Lib.hid (bstep HB.out hbK3); clear hlK3 nK3 hbK3) | (refine big_box rfl 37 _ rfl (rsA s) rfl (by kernel_rfl) ?_; intro gK2 wK2 hlK2 nK2 hbK2; have K2 := Lib.hid nK2; have LK2 := Lib.hid (Nat.le_trans (HB.out).size hlK2); have NK1K2 := Lib.hid (show gK1 ≠ gK2 by have := (K1.out).inside; omega); replace K1 := Lib.hid ((K1.out).keptB hbK2); replace HB := Lib.hid (bstep HB.out hbK2); clear hlK2 nK2 hbK2) | (refine big_box rfl 60 _ rfl (feA x) rfl (by kernel_rfl) ?_; intro gK1 wK1 hlK1 nK1 hbK1; have K1 := Lib.hid nK1; have LK1 := Lib.hid (Nat.le_trans (HB.out).size hlK1); replace HB := Lib.hid (bstep HB.out hbK1); clear hlK1 nK1 hbK1))
    replace K1 := Lib.hid ((K1.out).drew)
    refine wp_region_held_drew (S := fun v => Below w.heap.size w v ∧ Holds v gK2 37 (rsA s) ∧ Holds v gK3 60 (feA zeroFe)) (by kernel_rfl) ?_ (fun hHeld => ?_)
    · exact ⟨bdrew HB.out, (K2.out).drew, (K3.out).drew⟩
    clear K2 K3 HB
    refine wpAnyH_take (i := 0) (v := .pointer (some ⟨gK1, 32, none⟩)) (at_list rfl) (by kernel_rfl) (by kernel_rfl) (by kernel_rfl) (fun _ _ _ h => h) (Or.inl ⟨by rfl, ?_⟩) hHeld ?_
    · intro v hSv
      clear hHeld
      go_simp
    try simp only [Act.put, List.setIfInBounds_toArray, List.set_cons_zero, List.set_cons_succ]
    refine wpAnyH_take (i := 1) (v := .slice (some ⟨gK1, 33, none⟩) 1 1) (at_list rfl) (by kernel_rfl) (by kernel_rfl) (by kernel_rfl) (fun _ _ _ h => h) (Or.inl ⟨by rfl, ?_⟩) hHeld ?_
    · intro v hSv
      clear hHeld
      go_simp
    try simp only [Act.put, List.setIfInBounds_toArray, List.set_cons_zero, List.set_cons_succ]
    refine wpAnyH_take (i := 2) (v := .pointer (some ⟨gK1, 32, none⟩)) (at_list rfl) (by kernel_rfl) (by kernel_rfl) (by kernel_rfl) (fun _ _ _ h => h) (Or.inl ⟨by rfl, ?_⟩) hHeld ?_
    · intro v hSv
      clear hHeld
      go_simp
    try simp only [Act.put, List.setIfInBounds_toArray, List.set_cons_zero, List.set_cons_succ]
    refine wpAnyH_take (i := 3) (v := .slice (some ⟨gK1, 32, none⟩) 2 2) (at_list rfl) (by kernel_rfl) (by kernel_rfl) (by kernel_rfl) (fun _ _ _ h => h) (Or.inl ⟨by rfl, ?_⟩) hHeld ?_
    · intro v hSv
      clear hHeld
      go_simp
    try simp only [Act.put, List.setIfInBounds_toArray, List.set_cons_zero, List.set_cons_succ]
    refine wpAnyH_ready (rs := [4]) (by kernel_rfl) (by simp) ?_
    refine AllReadyH.cons (at_list rfl) (fun K hK => ?_) AllReadyH.nil
    refine step_copy (by rfl) _ _ 73 73 rfl 3 Try.underlying73 (by kernel_rfl) gK1 33 1 1 ⟨gK1, 32, none⟩ 2 2 rfl rfl K1.out [.int .i64 x.t0] rfl ?_ (of_decide_eq_true (by kernel_rfl)) ?_ (feA ((⟨x.s, x.t0, x.t0, x.c⟩ : Fe))) (by kernel_rfl) ?_
    · intro j v hv
      cases j with
      | zero =>
        simp at hv
        subst hv
        exact (K1.out).reads (i := 32) rfl
      | succ j => simp at hv
    · intro v hv
      simp at hv
      subst hv
      rfl
    intro v1 nK1 htK1
    replace K1 := Lib.hid nK1
    refine hK.out _ _ ?_ (fun hHeld2 => ?_)
    · exact ⟨btouch hHeld.1 htK1 LK1.out, Holds.touch hHeld.2.1 htK1 (by have := NK1K2.out; omega), Holds.touch hHeld.2.2 htK1 (by have := NK1K3.out; omega)⟩
    clear hK K hHeld
    have hHeld := hHeld2
    clear hHeld2
    try simp only [Act.put]
    clear nK1 htK1
    refine wpAnyH_done (by kernel_rfl) ?_ _
    have HB := Lib.hid hHeld.1
    have K2 := Lib.hid hHeld.2.1
    have K3 := Lib.hid hHeld.2.2
    clear hHeld
    go_upto_region 3 with (refine big_set rfl 3 _ _ rfl gK1 32 (.int .i64 now) rfl rfl K1.out (by kernel_rfl) rfl rfl (of_decide_eq_true (by kernel_rfl)) (feA ((⟨x.s, now, x.t0, x.c⟩ : Fe))) (by kernel_rfl) ?_; intro vK12 nK1 htK1; replace K1 := Lib.hid nK1; replace K2 := Lib.hid ((K2.out).touch htK1 (by have := NK1K2.out; omega)); replace K3 := Lib.hid ((K3.out).touch htK1 (by have := NK1K3.out; omega)); replace HB := Lib.hid (btouch HB.out htK1 LK1.out); clear nK1 htK1)
    go_upto_region 4 with (first | (refine big_store rfl 37 _ _ rfl gK1 0 [.int .i64 s.p1, .int .i64 s.p2, .int .i64 s.q1, .int .i64 s.q2, .int .i64 s.q3, .int .u8 s.gr.b0, .int .u8 s.gr.b1, .int .u8 s.gr.b2, .int .u8 s.gr.b3, .int .u8 s.gr.b4, .int .u8 s.gr.b5, .int .u8 s.gr.b6, .int .u8 s.gr.b7, .int .i64 s.st, .int .u8 s.sn.c.b0, .int .u8 s.sn.c.b1, .int .u8 s.sn.c.b2, .int .u8 s.sn.c.b3, .int .u8 s.sn.c.b4, .int .u8 s.sn.c.b5, .int .u8 s.sn.c.b6, .int .u8 s.sn.c.b7, .int .i64 s.sn.n, .int .u8 s.rc.c.b0, .int .u8 s.rc.c.b1, .int .u8 s.rc.c.b2, .int .u8 s.rc.c.b3, .int .u8 s.rc.c.b4, .int .u8 s.rc.c.b5, .int .u8 s.rc.c.b6, .int .u8 s.rc.c.b7, .int .i64 s.rc.n] rfl rfl K1.out (by kernel_rfl) (by kernel_rfl) (of_decide_eq_true (by kernel_rfl)) (feA ((⟨s, now, x.t0, x.c⟩ : Fe))) (by kernel_rfl) ?_; intro vK13 nK1 htK1; replace K1 := Lib.hid nK1; replace K2 := Lib.hid ((K2.out).touch htK1 (by have := NK1K2.out; omega)); replace K3 := Lib.hid ((K3.out).touch htK1 (by have := NK1K3.out; omega)); replace HB := Lib.hid (btouch HB.out htK1 LK1.out); clear nK1 htK1) | (refine big_whole rfl 37 _ rfl gK2 rfl K2.out Try.underlying37 rfl (by kernel_rfl) ?_))
    have x34 := (K1.out).reads (i := 34) (x := .int .i64 x.c) rfl
    go_upto_region 5 with (refine big_set rfl 3 _ _ rfl gK1 34 (.int .i64 (x.c + 1)) rfl rfl K1.out (by kernel_rfl) rfl rfl (of_decide_eq_true (by kernel_rfl)) (feA ((⟨s, now, x.t0, x.c + 1⟩ : Fe))) (by kernel_rfl) ?_; intro vK14 nK1 htK1; replace K1 := Lib.hid nK1; replace K2 := Lib.hid ((K2.out).touch htK1 (by have := NK1K2.out; omega)); replace K3 := Lib.hid ((K3.out).touch htK1 (by have := NK1K3.out; omega)); replace HB := Lib.hid (btouch HB.out htK1 LK1.out); clear nK1 htK1)
    clear x34
    go_wp2_with (first | (refine big_fill rfl 60 _ _ rfl gK3 (feA ((⟨s, now, x.t0, x.c + 1⟩ : Fe))) rfl rfl K3.out (by kernel_rfl) (by kernel_rfl) (by kernel_rfl) ?_; intro vK35 nK3 htK3; replace K3 := Lib.hid nK3; replace K1 := Lib.hid ((K1.out).touch htK3 (by have := NK1K3.out; omega)); replace K2 := Lib.hid ((K2.out).touch htK3 (by have := NK2K3.out; omega)); replace HB := Lib.hid (btouch HB.out htK3 LK3.out); clear nK3 htK3) | (refine big_whole rfl 60 _ rfl gK1 rfl K1.out Try.underlying60 rfl (by kernel_rfl) ?_))
    refine bodyPost_ret (v := .agg (feA ((⟨s, now, x.t0, x.c + 1⟩ : Fe)))) (results_cell_row rfl _ _ gK3 _ _ (0, 0) _ rfl K3.out Try.underlying60 rfl (by kernel_rfl)) rfl ⟨?_, HB.out⟩
    rw [HX.out]
  · have hc2 := ho.c2
    have HX : Hid (heardE x s now = ⟨s, now, x.t0, 2⟩) := by
      unfold heardE
      rw [Hid, show (if x.c + 1 < 2 then x.c + 1 else 2) = 2 by split <;> omega]
    clear hc2
    have dc : 2 < x.c + 1 := by omega
    clear hc
    have c0 := ho.c0
    have c2 := ho.c2
    clear ho
    go_enter Try.func23, Try.ntmps23
    go_upto_region 1 with (first | (refine big_alloc rfl 60 rfl (feA zeroFe) (by kernel_rfl) ?_; intro gK3 wK3 hlK3 nK3 hbK3; have K3 := Lib.hid nK3; have LK3 := Lib.hid (Nat.le_trans (HB.out).size hlK3); have NK1K3 := Lib.hid (show gK1 ≠ gK3 by have := (K1.out).inside; omega); replace K1 := Lib.hid ((K1.out).keptB hbK3); have NK2K3 := Lib.hid (show gK2 ≠ gK3 by have := (K2.out).inside; omega); replace K2 := Lib.hid ((K2.out).keptB hbK3); replace HB := Lib.hid (bstep HB.out hbK3); clear hlK3 nK3 hbK3) | (refine big_box rfl 37 _ rfl (rsA s) rfl (by kernel_rfl) ?_; intro gK2 wK2 hlK2 nK2 hbK2; have K2 := Lib.hid nK2; have LK2 := Lib.hid (Nat.le_trans (HB.out).size hlK2); have NK1K2 := Lib.hid (show gK1 ≠ gK2 by have := (K1.out).inside; omega); replace K1 := Lib.hid ((K1.out).keptB hbK2); replace HB := Lib.hid (bstep HB.out hbK2); clear hlK2 nK2 hbK2) | (refine big_box rfl 60 _ rfl (feA x) rfl (by kernel_rfl) ?_; intro gK1 wK1 hlK1 nK1 hbK1; have K1 := Lib.hid nK1; have LK1 := Lib.hid (Nat.le_trans (HB.out).size hlK1); replace HB := Lib.hid (bstep HB.out hbK1); clear hlK1 nK1 hbK1))
    replace K1 := Lib.hid ((K1.out).drew)
    refine wp_region_held_drew (S := fun v => Below w.heap.size w v ∧ Holds v gK2 37 (rsA s) ∧ Holds v gK3 60 (feA zeroFe)) (by kernel_rfl) ?_ (fun hHeld => ?_)
    · exact ⟨bdrew HB.out, (K2.out).drew, (K3.out).drew⟩
    clear K2 K3 HB
    refine wpAnyH_take (i := 0) (v := .pointer (some ⟨gK1, 32, none⟩)) (at_list rfl) (by kernel_rfl) (by kernel_rfl) (by kernel_rfl) (fun _ _ _ h => h) (Or.inl ⟨by rfl, ?_⟩) hHeld ?_
    · intro v hSv
      clear hHeld
      go_simp
    try simp only [Act.put, List.setIfInBounds_toArray, List.set_cons_zero, List.set_cons_succ]
    refine wpAnyH_take (i := 1) (v := .slice (some ⟨gK1, 33, none⟩) 1 1) (at_list rfl) (by kernel_rfl) (by kernel_rfl) (by kernel_rfl) (fun _ _ _ h => h) (Or.inl ⟨by rfl, ?_⟩) hHeld ?_
    · intro v hSv
      clear hHeld
      go_simp
    try simp only [Act.put, List.setIfInBounds_toArray, List.set_cons_zero, List.set_cons_succ]
    refine wpAnyH_take (i := 2) (v := .pointer (some ⟨gK1, 32, none⟩)) (at_list rfl) (by kernel_rfl) (by kernel_rfl) (by kernel_rfl) (fun _ _ _ h => h) (Or.inl ⟨by rfl, ?_⟩) hHeld ?_
    · intro v hSv
      clear hHeld
      go_simp
    try simp only [Act.put, List.setIfInBounds_toArray, List.set_cons_zero, List.set_cons_succ]
    refine wpAnyH_take (i := 3) (v := .slice (some ⟨gK1, 32, none⟩) 2 2) (at_list rfl) (by kernel_rfl) (by kernel_rfl) (by kernel_rfl) (fun _ _ _ h => h) (Or.inl ⟨by rfl, ?_⟩) hHeld ?_
    · intro v hSv
      clear hHeld
      go_simp
    try simp only [Act.put, List.setIfInBounds_toArray, List.set_cons_zero, List.set_cons_succ]
    refine wpAnyH_ready (rs := [4]) (by kernel_rfl) (by simp) ?_
    refine AllReadyH.cons (at_list rfl) (fun K hK => ?_) AllReadyH.nil
    refine step_copy (by rfl) _ _ 73 73 rfl 3 Try.underlying73 (by kernel_rfl) gK1 33 1 1 ⟨gK1, 32, none⟩ 2 2 rfl rfl K1.out [.int .i64 x.t0] rfl ?_ (of_decide_eq_true (by kernel_rfl)) ?_ (feA ((⟨x.s, x.t0, x.t0, x.c⟩ : Fe))) (by kernel_rfl) ?_
    · intro j v hv
      cases j with
      | zero =>
        simp at hv
        subst hv
        exact (K1.out).reads (i := 32) rfl
      | succ j => simp at hv
    · intro v hv
      simp at hv
      subst hv
      rfl
    intro v1 nK1 htK1
    replace K1 := Lib.hid nK1
    refine hK.out _ _ ?_ (fun hHeld2 => ?_)
    · exact ⟨btouch hHeld.1 htK1 LK1.out, Holds.touch hHeld.2.1 htK1 (by have := NK1K2.out; omega), Holds.touch hHeld.2.2 htK1 (by have := NK1K3.out; omega)⟩
    clear hK K hHeld
    have hHeld := hHeld2
    clear hHeld2
    try simp only [Act.put]
    clear nK1 htK1
    refine wpAnyH_done (by kernel_rfl) ?_ _
    have HB := Lib.hid hHeld.1
    have K2 := Lib.hid hHeld.2.1
    have K3 := Lib.hid hHeld.2.2
    clear hHeld
    go_upto_region 3 with (refine big_set rfl 3 _ _ rfl gK1 32 (.int .i64 now) rfl rfl K1.out (by kernel_rfl) rfl rfl (of_decide_eq_true (by kernel_rfl)) (feA ((⟨x.s, now, x.t0, x.c⟩ : Fe))) (by kernel_rfl) ?_; intro vK12 nK1 htK1; replace K1 := Lib.hid nK1; replace K2 := Lib.hid ((K2.out).touch htK1 (by have := NK1K2.out; omega)); replace K3 := Lib.hid ((K3.out).touch htK1 (by have := NK1K3.out; omega)); replace HB := Lib.hid (btouch HB.out htK1 LK1.out); clear nK1 htK1)
    go_upto_region 4 with (first | (refine big_store rfl 37 _ _ rfl gK1 0 [.int .i64 s.p1, .int .i64 s.p2, .int .i64 s.q1, .int .i64 s.q2, .int .i64 s.q3, .int .u8 s.gr.b0, .int .u8 s.gr.b1, .int .u8 s.gr.b2, .int .u8 s.gr.b3, .int .u8 s.gr.b4, .int .u8 s.gr.b5, .int .u8 s.gr.b6, .int .u8 s.gr.b7, .int .i64 s.st, .int .u8 s.sn.c.b0, .int .u8 s.sn.c.b1, .int .u8 s.sn.c.b2, .int .u8 s.sn.c.b3, .int .u8 s.sn.c.b4, .int .u8 s.sn.c.b5, .int .u8 s.sn.c.b6, .int .u8 s.sn.c.b7, .int .i64 s.sn.n, .int .u8 s.rc.c.b0, .int .u8 s.rc.c.b1, .int .u8 s.rc.c.b2, .int .u8 s.rc.c.b3, .int .u8 s.rc.c.b4, .int .u8 s.rc.c.b5, .int .u8 s.rc.c.b6, .int .u8 s.rc.c.b7, .int .i64 s.rc.n] rfl rfl K1.out (by kernel_rfl) (by kernel_rfl) (of_decide_eq_true (by kernel_rfl)) (feA ((⟨s, now, x.t0, x.c⟩ : Fe))) (by kernel_rfl) ?_; intro vK13 nK1 htK1; replace K1 := Lib.hid nK1; replace K2 := Lib.hid ((K2.out).touch htK1 (by have := NK1K2.out; omega)); replace K3 := Lib.hid ((K3.out).touch htK1 (by have := NK1K3.out; omega)); replace HB := Lib.hid (btouch HB.out htK1 LK1.out); clear nK1 htK1) | (refine big_whole rfl 37 _ rfl gK2 rfl K2.out Try.underlying37 rfl (by kernel_rfl) ?_))
    have x34 := (K1.out).reads (i := 34) (x := .int .i64 x.c) rfl
    go_upto_region 5 with (refine big_set rfl 3 _ _ rfl gK1 34 (.int .i64 (2)) rfl rfl K1.out (by kernel_rfl) rfl rfl (of_decide_eq_true (by kernel_rfl)) (feA ((⟨s, now, x.t0, 2⟩ : Fe))) (by kernel_rfl) ?_; intro vK14 nK1 htK1; replace K1 := Lib.hid nK1; replace K2 := Lib.hid ((K2.out).touch htK1 (by have := NK1K2.out; omega)); replace K3 := Lib.hid ((K3.out).touch htK1 (by have := NK1K3.out; omega)); replace HB := Lib.hid (btouch HB.out htK1 LK1.out); clear nK1 htK1)
    clear x34
    go_wp2_with (first | (refine big_fill rfl 60 _ _ rfl gK3 (feA ((⟨s, now, x.t0, 2⟩ : Fe))) rfl rfl K3.out (by kernel_rfl) (by kernel_rfl) (by kernel_rfl) ?_; intro vK35 nK3 htK3; replace K3 := Lib.hid nK3; replace K1 := Lib.hid ((K1.out).touch htK3 (by have := NK1K3.out; omega)); replace K2 := Lib.hid ((K2.out).touch htK3 (by have := NK2K3.out; omega)); replace HB := Lib.hid (btouch HB.out htK3 LK3.out); clear nK3 htK3) | (refine big_whole rfl 60 _ rfl gK1 rfl K1.out Try.underlying60 rfl (by kernel_rfl) ?_))
    refine bodyPost_ret (v := .agg (feA ((⟨s, now, x.t0, 2⟩ : Fe)))) (results_cell_row rfl _ _ gK3 _ _ (0, 0) _ rfl K3.out Try.underlying60 rfl (by kernel_rfl)) rfl ⟨?_, HB.out⟩
    rw [HX.out]
set_option maxHeartbeats 4000000 in
theorem new8_no (own : Ck) (every : Int) (w : World) (h0 : every < 1 ∨ 1099511627776 < every) :
    Calls Try.prog 8 #[.agg #[.int .u8 own.b0, .int .u8 own.b1, .int .u8 own.b2, .int .u8 own.b3, .int .u8 own.b4, .int .u8 own.b5, .int .u8 own.b6, .int .u8 own.b7], .int .i64 every] w fun e w' => e = .returned (.tuple #[.pointer none, .int .i64 1]) ∧ Below w.heap.size w w' := by
  have HB := Lib.hid (Below.refl w.heap.size w)
  by_cases h1 : every < 1
  · have d1 : decide (every < 1) = true := decide_eq_true h1
    clear h0 h1
    go_enter Try.func8, Try.ntmps8
    go_upto_region 1 with ((refine big_box rfl 23 _ rfl (#[.int .u8 own.b0, .int .u8 own.b1, .int .u8 own.b2, .int .u8 own.b3, .int .u8 own.b4, .int .u8 own.b5, .int .u8 own.b6, .int .u8 own.b7]) rfl (by kernel_rfl) ?_; intro gK1 wK1 hlK1 nK1 hbK1; have K1 := Lib.hid nK1; have LK1 := Lib.hid (Nat.le_trans (HB.out).size hlK1); replace HB := Lib.hid (bstep HB.out hbK1); clear hlK1 nK1 hbK1))
    go_wp2
    refine bodyPost_ret (v := .tuple #[.pointer none, .int .i64 1]) (by simp [results, Try.results8, go_sem]) rfl ⟨rfl, HB.out⟩
  by_cases h2 : 1099511627776 < every
  · have d1 : decide (every < 1) = false := decide_eq_false h1
    have d2 : decide (1099511627776 < every) = true := decide_eq_true h2
    clear h0 h1 h2
    go_enter Try.func8, Try.ntmps8
    go_upto_region 1 with ((refine big_box rfl 23 _ rfl (#[.int .u8 own.b0, .int .u8 own.b1, .int .u8 own.b2, .int .u8 own.b3, .int .u8 own.b4, .int .u8 own.b5, .int .u8 own.b6, .int .u8 own.b7]) rfl (by kernel_rfl) ?_; intro gK1 wK1 hlK1 nK1 hbK1; have K1 := Lib.hid nK1; have LK1 := Lib.hid (Nat.le_trans (HB.out).size hlK1); replace HB := Lib.hid (bstep HB.out hbK1); clear hlK1 nK1 hbK1))
    go_wp2
    refine bodyPost_ret (v := .tuple #[.pointer none, .int .i64 1]) (by simp [results, Try.results8, go_sem]) rfl ⟨rfl, HB.out⟩
  omega
set_option maxHeartbeats 4000000 in
theorem new8_yes (own : Ck) (every : Int) (w : World) (h0 : 1 ≤ every) (h1 : every ≤ 1099511627776) :
    Calls Try.prog 8 #[.agg #[.int .u8 own.b0, .int .u8 own.b1, .int .u8 own.b2, .int .u8 own.b3, .int .u8 own.b4, .int .u8 own.b5, .int .u8 own.b6, .int .u8 own.b7], .int .i64 every] w fun e w' => ∃ p m, e = .returned (.tuple #[.pointer (some ⟨p, 0, none⟩), .int .i64 0]) ∧ TabAt w' p m own (4 * every) [] ∧ w.heap.size ≤ p ∧ w.heap.size ≤ m ∧ Below w.heap.size w w' := by
  have HB := Lib.hid (Below.refl w.heap.size w)
  have d1 : decide (every < 1) = false := decide_eq_false (by omega)
  have d2 : decide (1099511627776 < every) = false := decide_eq_false (by omega)
  go_enter Try.func8, Try.ntmps8
  go_upto_region 3 with ((refine big_box rfl 23 _ rfl (#[.int .u8 own.b0, .int .u8 own.b1, .int .u8 own.b2, .int .u8 own.b3, .int .u8 own.b4, .int .u8 own.b5, .int .u8 own.b6, .int .u8 own.b7]) rfl (by kernel_rfl) ?_; intro gK1 wK1 hlK1 nK1 hbK1; have K1 := Lib.hid nK1; have LK1 := Lib.hid (Nat.le_trans (HB.out).size hlK1); replace HB := Lib.hid (bstep HB.out hbK1); clear hlK1 nK1 hbK1))
  go_wp2_with (first | (refine big_box rfl 54 _ rfl (taA own (4 * every) gM) rfl (by kernel_rfl) ?_; intro gT wT hlT nT hbT; have LT := Lib.hid (Nat.le_trans (HB.out).size hlT); have KT := Lib.hid nT; replace M := Lib.hid ((M.out).keptB hbT); replace HB := Lib.hid (bstep HB.out hbT); clear hlT nT hbT) | (refine big_build rfl 54 _ rfl (taA own (4 * every) gM) (by kernel_rfl) ?_) | (refine big_make rfl rfl ?_; intro gM wM hlM nM hbM; have LM := Lib.hid (Nat.le_trans (HB.out).size hlM); have M := Lib.hid nM; replace K1 := Lib.hid ((K1.out).keptB hbM); replace HB := Lib.hid (bstep HB.out hbM); clear hlM nM hbM) | (refine big_whole rfl 23 _ rfl gK1 rfl K1.out Try.underlying23 rfl (by kernel_rfl) ?_))
  refine bodyPost_ret (v := .tuple #[.pointer (some ⟨gT, 0, none⟩), .int .i64 0]) (by simp [results, Try.results8, go_sem]) rfl ⟨gT, gM, rfl, ⟨KT.out, M.out⟩, LT.out, LM.out, HB.out⟩
set_option maxHeartbeats 4000000 in
theorem len8_any (p m : Nat) (own : Ck) (win : Int) (L : List Fe) (w : World) (h : TabAt w p m own win L) :
    Calls Try.prog 11 #[.pointer (some ⟨p, 0, none⟩)] w fun e w' => e = .returned (.int .i64 L.length) ∧ w = w' := by
  have x9 := (h.tab).reads (i := 9) (x := .map (some m)) rfl
  have M := Lib.hid h.map
  clear h
  go_enter Try.func11, Try.ntmps11
  go_wp2_with (refine big_lenM rfl _ rfl rfl M.out ?_)
  go_ret
  exact ⟨rfl, rfl⟩
set_option maxHeartbeats 4000000 in
theorem clear8_any (p m : Nat) (own : Ck) (win : Int) (L : List Fe) (w : World) (h : TabAt w p m own win L) :
    Calls Try.prog 17 #[.pointer (some ⟨p, 0, none⟩)] w fun e w' => e = .returned (.tuple #[]) ∧ TabAt w' p m own win [] ∧ Touch m w w' := by
  have x9 := (h.tab).reads (i := 9) (x := .map (some m)) rfl
  have TB := Lib.hid h
  clear h
  go_enter Try.func17, Try.ntmps17
  go_wp2_with (refine big_clearM rfl _ rfl rfl (TB.out).map ?_; intro w1 h1 h2)
  go_end0
  exact ⟨rfl, (TB.out).with_ h1 h2, h2⟩
set_option maxHeartbeats 4000000 in
theorem drop8_any (p m : Nat) (own : Ck) (win : Int) (L : List Fe) (q : Pt) (w : World) (h : TabAt w p m own win L) (ok : ptOk q) :
    Calls Try.prog 16 #[.pointer (some ⟨p, 0, none⟩), .agg (ptA q)] w fun e w' => e = .returned (.bool (hasE L q)) ∧ TabAt w' p m own win (delE L q) ∧ Only [m] w.heap.size w w' := by
  have HB := Lib.hid (Below.refl w.heap.size w)
  have TB := Lib.hid h
  have HOK := Lib.hid ok
  clear h ok
  go_enter Try.func16, Try.ntmps16
  go_upto_region 1 with ((refine big_box rfl 35 _ rfl (ptA q) rfl (by kernel_rfl) ?_; intro gK3 wK3 hlK3 nK3 hbK3; have K3 := Lib.hid nK3; have LK3 := Lib.hid (Nat.le_trans (HB.out).size hlK3); have OTBK3 := Lib.hid ((TB.out).off hlK3); replace TB := Lib.hid ((TB.out).keptB hbK3); replace HB := Lib.hid (bstep HB.out hbK3); clear hlK3 nK3 hbK3))
  refine wp_region_held_drew (S := fun v => Below w.heap.size w v ∧ TabAt v p m own win L ∧ Holds v gK3 35 (ptA q) ∧ True) (by kernel_rfl) ?_ (fun hHeld => ?_)
  · exact ⟨bdrew HB.out, (TB.out).drew, (K3.out).drew, trivial⟩
  clear HB TB K3
  refine wpAnyH_take (i := 0) (v := .pointer (some ⟨p, 0, none⟩)) (at_list rfl) (by kernel_rfl) (by kernel_rfl) (by kernel_rfl) (fun _ _ _ h => h) (Or.inl ⟨by rfl, ?_⟩) hHeld ?_
  · intro v hSv
    clear hHeld
    go_simp
  try simp only [Act.put, List.setIfInBounds_toArray, List.set_cons_zero, List.set_cons_succ]
  refine wpAnyH_take (i := 1) (v := .pointer (some ⟨p, 0, none⟩)) (at_list rfl) (by kernel_rfl) (by kernel_rfl) (by kernel_rfl) (fun _ _ _ h => h) (Or.inl ⟨by rfl, ?_⟩) hHeld ?_
  · intro v hSv
    clear hHeld
    go_simp
  try simp only [Act.put, List.setIfInBounds_toArray, List.set_cons_zero, List.set_cons_succ]
  refine wpAnyH_take (i := 2) (v := .pointer (some ⟨p, 9, none⟩)) (at_list rfl) (by kernel_rfl) (by kernel_rfl) (by kernel_rfl) (fun _ _ _ h => h) (Or.inl ⟨by rfl, ?_⟩) hHeld ?_
  · intro v hSv
    clear hHeld
    go_simp
  try simp only [Act.put, List.setIfInBounds_toArray, List.set_cons_zero, List.set_cons_succ]
  refine wpAnyH_take (i := 3) (v := .map (some m)) (at_list rfl) (by kernel_rfl) (by kernel_rfl) (by kernel_rfl) (fun _ _ _ h => h) (Or.inl ⟨by rfl, ?_⟩) hHeld ?_
  · intro v hSv
    clear hHeld
    have q9 := Holds.reads ((hSv.2.1).tab) (i := 9) (x := .map (some m)) rfl
    clear hSv
    go_simp
  try simp only [Act.put, List.setIfInBounds_toArray, List.set_cons_zero, List.set_cons_succ]
  refine wpAnyH_take (i := 4) (v := .agg (ptA q)) (at_list rfl) (by kernel_rfl) (by kernel_rfl) (by kernel_rfl) (fun _ _ _ h => h) (yields_whole (by rfl) 35 _ rfl gK3 rfl (fun v hv => hv.2.2.1) Try.underlying35 rfl (by kernel_rfl)) hHeld ?_
  try simp only [Act.put, List.setIfInBounds_toArray, List.set_cons_zero, List.set_cons_succ]
  refine wpAnyH_take (i := 5) (v := .tuple #[.agg (feA (atE L q)), .bool (hasE L q)]) (at_list rfl) (by kernel_rfl) (by kernel_rfl) (by kernel_rfl) (fun _ _ _ h => h) (yields_look2 (by rfl) _ _ rfl rfl rfl (fun v hv => hv.2.1.map) HOK.out) hHeld ?_
  try simp only [Act.put, List.setIfInBounds_toArray, List.set_cons_zero, List.set_cons_succ]
  refine wpAnyH_take (i := 6) (v := .tuple #[.agg (feA (atE L q)), .bool (hasE L q)]) (at_list rfl) (by kernel_rfl) (by kernel_rfl) (by kernel_rfl) (fun _ _ _ h => h) (Or.inl ⟨by rfl, ?_⟩) hHeld ?_
  · intro v hSv
    clear hHeld
    go_simp
  try simp only [Act.put, List.setIfInBounds_toArray, List.set_cons_zero, List.set_cons_succ]
  refine wpAnyH_take (i := 7) (v := .agg (feA (atE L q))) (at_list rfl) (by kernel_rfl) (by kernel_rfl) (by kernel_rfl) (fun _ _ _ h => h) (Or.inl ⟨by rfl, ?_⟩) hHeld ?_
  · intro v hSv
    clear hHeld
    go_simp
  try simp only [Act.put, List.setIfInBounds_toArray, List.set_cons_zero, List.set_cons_succ]
  refine wpAnyH_take (i := 8) (v := .bool (hasE L q)) (at_list rfl) (by kernel_rfl) (by kernel_rfl) (by kernel_rfl) (fun _ _ _ h => h) (Or.inl ⟨by rfl, ?_⟩) hHeld ?_
  · intro v hSv
    clear hHeld
    go_simp
  try simp only [Act.put, List.setIfInBounds_toArray, List.set_cons_zero, List.set_cons_succ]
  refine wpAnyH_ready (rs := [9]) (by kernel_rfl) (by simp) ?_
  refine AllReadyH.cons (at_list rfl) (fun K hK => ?_) AllReadyH.nil
  refine step_alloc (by rfl) 60 rfl (feA zeroFe) (by kernel_rfl) ?_
  intro gK5 wK5 hlK5 nK5 hbK5
  have K5 := Lib.hid nK5
  have LK5 := Lib.hid (Nat.le_trans (hHeld.1).size hlK5)
  have OTBK5 := Lib.hid ((hHeld.2.1).off hlK5)
  have OK3K5 := Lib.hid ((hHeld.2.2.1).off hlK5)
  refine hK.out _ _ ?_ (fun hHeld2 => ?_)
  · exact ⟨bstep hHeld.1 hbK5, (hHeld.2.1).keptB hbK5, (hHeld.2.2.1).keptB hbK5, trivial⟩
  clear hK K hHeld
  have hHeld := hHeld2
  clear hHeld2
  try simp only [Act.put]
  clear hlK5 nK5 hbK5
  try simp only [List.setIfInBounds_toArray, List.set_cons_zero, List.set_cons_succ]
  refine wpAnyH_ready (rs := [10]) (by kernel_rfl) (by simp) ?_
  refine AllReadyH.cons (at_list rfl) (fun K hK => ?_) AllReadyH.nil
  refine step_fill (by rfl) 60 _ _ rfl gK5 (feA (atE L q)) rfl rfl K5.out (by kernel_rfl) (by kernel_rfl) (by kernel_rfl) ?_
  intro vK50 nK5 htK5
  replace K5 := Lib.hid nK5
  refine hK.out _ _ ?_ (fun hHeld2 => ?_)
  · exact ⟨btouch hHeld.1 htK5 LK5.out, (hHeld.2.1).touch htK5 OTBK5.out, (hHeld.2.2.1).touch htK5 OK3K5.out, trivial⟩
  clear hK K hHeld
  have hHeld := hHeld2
  clear hHeld2
  try simp only [Act.put]
  clear nK5 htK5
  try simp only [List.setIfInBounds_toArray, List.set_cons_zero, List.set_cons_succ]
  refine wpAnyH_take (i := 11) (v := .bool (hasE L q)) (at_list rfl) (by kernel_rfl) (by kernel_rfl) (by kernel_rfl) (fun _ _ _ h => h) (Or.inl ⟨by rfl, ?_⟩) hHeld ?_
  · intro v hSv
    clear hHeld
    go_simp
  try simp only [Act.put, List.setIfInBounds_toArray, List.set_cons_zero, List.set_cons_succ]
  refine wpAnyH_done (by kernel_rfl) ?_ _
  have HB := Lib.hid hHeld.1
  have TB := Lib.hid hHeld.2.1
  have K3 := Lib.hid hHeld.2.2.1
  clear hHeld
  clear K5 LK5 OTBK5 OK3K5
  go_upto_region 2 with fail
  have TT := Lib.hid (TB.out).tab
  have HNE := Lib.hid (TB.out).ne
  have NK := Lib.hid ((TB.out).map.not_cells K3.out)
  replace TB := Lib.hid ((TB.out).drew)
  refine wp_region_held_drew (S := fun v => Only [m] w.heap.size w v ∧ Holds v p 54 (taA own win m) ∧ Holds v gK3 35 (ptA q) ∧ True) (by kernel_rfl) ?_ (fun hHeld => ?_)
  · exact ⟨only_of (bdrew HB.out), (TT.out).drew, (K3.out).drew, trivial⟩
  clear HB TT K3
  refine wpAnyH_take (i := 0) (v := .pointer (some ⟨p, 0, none⟩)) (at_list rfl) (by kernel_rfl) (by kernel_rfl) (by kernel_rfl) (fun _ _ _ h => h) (Or.inl ⟨by rfl, ?_⟩) hHeld ?_
  · intro v hSv
    clear hHeld
    go_simp
  try simp only [Act.put, List.setIfInBounds_toArray, List.set_cons_zero, List.set_cons_succ]
  refine wpAnyH_take (i := 1) (v := .pointer (some ⟨p, 0, none⟩)) (at_list rfl) (by kernel_rfl) (by kernel_rfl) (by kernel_rfl) (fun _ _ _ h => h) (Or.inl ⟨by rfl, ?_⟩) hHeld ?_
  · intro v hSv
    clear hHeld
    go_simp
  try simp only [Act.put, List.setIfInBounds_toArray, List.set_cons_zero, List.set_cons_succ]
  refine wpAnyH_take (i := 2) (v := .pointer (some ⟨p, 9, none⟩)) (at_list rfl) (by kernel_rfl) (by kernel_rfl) (by kernel_rfl) (fun _ _ _ h => h) (Or.inl ⟨by rfl, ?_⟩) hHeld ?_
  · intro v hSv
    clear hHeld
    go_simp
  try simp only [Act.put, List.setIfInBounds_toArray, List.set_cons_zero, List.set_cons_succ]
  refine wpAnyH_take (i := 3) (v := .map (some m)) (at_list rfl) (by kernel_rfl) (by kernel_rfl) (by kernel_rfl) (fun _ _ _ h => h) (Or.inl ⟨by rfl, ?_⟩) hHeld ?_
  · intro v hSv
    clear hHeld
    have q9 := Holds.reads (hSv.2.1) (i := 9) (x := .map (some m)) rfl
    clear hSv
    go_simp
  try simp only [Act.put, List.setIfInBounds_toArray, List.set_cons_zero, List.set_cons_succ]
  refine wpAnyH_take (i := 4) (v := .agg (ptA q)) (at_list rfl) (by kernel_rfl) (by kernel_rfl) (by kernel_rfl) (fun _ _ _ h => h) (yields_whole (by rfl) 35 _ rfl gK3 rfl (fun v hv => hv.2.2.1) Try.underlying35 rfl (by kernel_rfl)) hHeld ?_
  try simp only [Act.put, List.setIfInBounds_toArray, List.set_cons_zero, List.set_cons_succ]
  refine wpAnyH_ready (rs := [5]) (by kernel_rfl) (by simp) ?_
  refine AllReadyH.cons (at_list rfl) (fun K hK => ?_) AllReadyH.nil
  refine step_delM (by rfl) _ _ rfl rfl rfl (TB.out).map HOK.out ?_
  intro w5 h5 t5
  replace TB := Lib.hid ((TB.out).with_ h5 t5)
  refine hK.out _ _ ?_ (fun hHeld2 => ?_)
  · exact ⟨Only.touch hHeld.1 t5 (fun _ => by simp), (hHeld.2.1).touch t5 (Ne.symm HNE.out), (hHeld.2.2.1).touch t5 (Ne.symm NK.out), trivial⟩
  clear hK K hHeld
  have hHeld := hHeld2
  clear hHeld2
  try simp only [Act.put]
  clear h5 t5
  refine wpAnyH_done (by kernel_rfl) ?_ _
  have HO := Lib.hid hHeld.1
  clear hHeld
  go_wp2
  go_ret
  exact ⟨rfl, TB.out, HO.out⟩
set_option maxHeartbeats 4000000 in
theorem lastT8_any (p m : Nat) (own : Ck) (win : Int) (L : List Fe) (q : Pt) (w : World) (h : TabAt w p m own win L) (ok : ptOk q) :
    Calls Try.prog 14 #[.pointer (some ⟨p, 0, none⟩), .agg (ptA q)] w fun e w' => e = .returned (.tuple #[.agg (rsA (atE L q).s), .int .i64 (atE L q).t0, .bool (hasE L q)]) ∧ Below w.heap.size w w' := by
  have HB := Lib.hid (Below.refl w.heap.size w)
  have TB := Lib.hid h
  have HOK := Lib.hid ok
  clear h ok
  go_enter Try.func14, Try.ntmps14
  go_upto_region 1 with (first | (refine big_alloc rfl 37 rfl (rsA zeroR) (by kernel_rfl) ?_; intro gK4 wK4 hlK4 nK4 hbK4; have K4 := Lib.hid nK4; have LK4 := Lib.hid (Nat.le_trans (HB.out).size hlK4); have OTBK4 := Lib.hid ((TB.out).off hlK4); have OK3K4 := Lib.hid ((K3.out).off hlK4); replace TB := Lib.hid ((TB.out).keptB hbK4); replace K3 := Lib.hid ((K3.out).keptB hbK4); replace HB := Lib.hid (bstep HB.out hbK4); clear hlK4 nK4 hbK4) | (refine big_box rfl 35 _ rfl (ptA q) rfl (by kernel_rfl) ?_; intro gK3 wK3 hlK3 nK3 hbK3; have K3 := Lib.hid nK3; have LK3 := Lib.hid (Nat.le_trans (HB.out).size hlK3); have OTBK3 := Lib.hid ((TB.out).off hlK3); replace TB := Lib.hid ((TB.out).keptB hbK3); replace HB := Lib.hid (bstep HB.out hbK3); clear hlK3 nK3 hbK3))
  refine wp_region_held_drew (S := fun v => Below w.heap.size w v ∧ TabAt v p m own win L ∧ Holds v gK3 35 (ptA q) ∧ Holds v gK4 37 (rsA zeroR) ∧ True) (by kernel_rfl) ?_ (fun hHeld => ?_)
  · exact ⟨bdrew HB.out, (TB.out).drew, (K3.out).drew, (K4.out).drew, trivial⟩
  clear HB TB K3 K4
  refine wpAnyH_take (i := 0) (v := .pointer (some ⟨p, 0, none⟩)) (at_list rfl) (by kernel_rfl) (by kernel_rfl) (by kernel_rfl) (fun _ _ _ h => h) (Or.inl ⟨by rfl, ?_⟩) hHeld ?_
  · intro v hSv
    clear hHeld
    go_simp
  try simp only [Act.put, List.setIfInBounds_toArray, List.set_cons_zero, List.set_cons_succ]
  refine wpAnyH_take (i := 1) (v := .pointer (some ⟨p, 0, none⟩)) (at_list rfl) (by kernel_rfl) (by kernel_rfl) (by kernel_rfl) (fun _ _ _ h => h) (Or.inl ⟨by rfl, ?_⟩) hHeld ?_
  · intro v hSv
    clear hHeld
    go_simp
  try simp only [Act.put, List.setIfInBounds_toArray, List.set_cons_zero, List.set_cons_succ]
  refine wpAnyH_take (i := 2) (v := .pointer (some ⟨p, 9, none⟩)) (at_list rfl) (by kernel_rfl) (by kernel_rfl) (by kernel_rfl) (fun _ _ _ h => h) (Or.inl ⟨by rfl, ?_⟩) hHeld ?_
  · intro v hSv
    clear hHeld
    go_simp
  try simp only [Act.put, List.setIfInBounds_toArray, List.set_cons_zero, List.set_cons_succ]
  refine wpAnyH_take (i := 3) (v := .map (some m)) (at_list rfl) (by kernel_rfl) (by kernel_rfl) (by kernel_rfl) (fun _ _ _ h => h) (Or.inl ⟨by rfl, ?_⟩) hHeld ?_
  · intro v hSv
    clear hHeld
    have q9 := Holds.reads ((hSv.2.1).tab) (i := 9) (x := .map (some m)) rfl
    clear hSv
    go_simp
  try simp only [Act.put, List.setIfInBounds_toArray, List.set_cons_zero, List.set_cons_succ]
  refine wpAnyH_take (i := 4) (v := .agg (ptA q)) (at_list rfl) (by kernel_rfl) (by kernel_rfl) (by kernel_rfl) (fun _ _ _ h => h) (yields_whole (by rfl) 35 _ rfl gK3 rfl (fun v hv => hv.2.2.1) Try.underlying35 rfl (by kernel_rfl)) hHeld ?_
  try simp only [Act.put, List.setIfInBounds_toArray, List.set_cons_zero, List.set_cons_succ]
  refine wpAnyH_take (i := 5) (v := .tuple #[.agg (feA (atE L q)), .bool (hasE L q)]) (at_list rfl) (by kernel_rfl) (by kernel_rfl) (by kernel_rfl) (fun _ _ _ h => h) (yields_look2 (by rfl) _ _ rfl rfl rfl (fun v hv => hv.2.1.map) HOK.out) hHeld ?_
  try simp only [Act.put, List.setIfInBounds_toArray, List.set_cons_zero, List.set_cons_succ]
  refine wpAnyH_take (i := 6) (v := .tuple #[.agg (feA (atE L q)), .bool (hasE L q)]) (at_list rfl) (by kernel_rfl) (by kernel_rfl) (by kernel_rfl) (fun _ _ _ h => h) (Or.inl ⟨by rfl, ?_⟩) hHeld ?_
  · intro v hSv
    clear hHeld
    go_simp
  try simp only [Act.put, List.setIfInBounds_toArray, List.set_cons_zero, List.set_cons_succ]
  refine wpAnyH_take (i := 7) (v := .agg (feA (atE L q))) (at_list rfl) (by kernel_rfl) (by kernel_rfl) (by kernel_rfl) (fun _ _ _ h => h) (Or.inl ⟨by rfl, ?_⟩) hHeld ?_
  · intro v hSv
    clear hHeld
    go_simp
  try simp only [Act.put, List.setIfInBounds_toArray, List.set_cons_zero, List.set_cons_succ]
  refine wpAnyH_take (i := 8) (v := .bool (hasE L q)) (at_list rfl) (by kernel_rfl) (by kernel_rfl) (by kernel_rfl) (fun _ _ _ h => h) (Or.inl ⟨by rfl, ?_⟩) hHeld ?_
  · intro v hSv
    clear hHeld
    go_simp
  try simp only [Act.put, List.setIfInBounds_toArray, List.set_cons_zero, List.set_cons_succ]
  refine wpAnyH_ready (rs := [9]) (by kernel_rfl) (by simp) ?_
  refine AllReadyH.cons (at_list rfl) (fun K hK => ?_) AllReadyH.nil
  refine step_alloc (by rfl) 60 rfl (feA zeroFe) (by kernel_rfl) ?_
  intro gK7 wK7 hlK7 nK7 hbK7
  have K7 := Lib.hid nK7
  have LK7 := Lib.hid (Nat.le_trans (hHeld.1).size hlK7)
  have OTBK7 := Lib.hid ((hHeld.2.1).off hlK7)
  have OK3K7 := Lib.hid ((hHeld.2.2.1).off hlK7)
  have OK4K7 := Lib.hid ((hHeld.2.2.2.1).off hlK7)
  refine hK.out _ _ ?_ (fun hHeld2 => ?_)
  · exact ⟨bstep hHeld.1 hbK7, (hHeld.2.1).keptB hbK7, (hHeld.2.2.1).keptB hbK7, (hHeld.2.2.2.1).keptB hbK7, trivial⟩
  clear hK K hHeld
  have hHeld := hHeld2
  clear hHeld2
  try simp only [Act.put]
  clear hlK7 nK7 hbK7
  try simp only [List.setIfInBounds_toArray, List.set_cons_zero, List.set_cons_succ]
  refine wpAnyH_ready (rs := [10]) (by kernel_rfl) (by simp) ?_
  refine AllReadyH.cons (at_list rfl) (fun K hK => ?_) AllReadyH.nil
  refine step_fill (by rfl) 60 _ _ rfl gK7 (feA (atE L q)) rfl rfl K7.out (by kernel_rfl) (by kernel_rfl) (by kernel_rfl) ?_
  intro vK70 nK7 htK7
  replace K7 := Lib.hid nK7
  refine hK.out _ _ ?_ (fun hHeld2 => ?_)
  · exact ⟨btouch hHeld.1 htK7 LK7.out, (hHeld.2.1).touch htK7 OTBK7.out, (hHeld.2.2.1).touch htK7 OK3K7.out, (hHeld.2.2.2.1).touch htK7 OK4K7.out, trivial⟩
  clear hK K hHeld
  have hHeld := hHeld2
  clear hHeld2
  try simp only [Act.put]
  clear nK7 htK7
  try simp only [List.setIfInBounds_toArray, List.set_cons_zero, List.set_cons_succ]
  refine wpAnyH_take (i := 11) (v := .bool (hasE L q)) (at_list rfl) (by kernel_rfl) (by kernel_rfl) (by kernel_rfl) (fun _ _ _ h => h) (Or.inl ⟨by rfl, ?_⟩) hHeld ?_
  · intro v hSv
    clear hHeld
    go_simp
  try simp only [Act.put, List.setIfInBounds_toArray, List.set_cons_zero, List.set_cons_succ]
  refine wpAnyH_done (by kernel_rfl) ?_ _
  have HB := Lib.hid hHeld.1
  have TB := Lib.hid hHeld.2.1
  have K3 := Lib.hid hHeld.2.2.1
  have K4 := Lib.hid hHeld.2.2.2.1
  clear hHeld
  go_upto_region 2 with fail
  replace K4 := Lib.hid ((K4.out).drew)
  refine wp_region_held_drew (S := fun v => Below w.heap.size w v ∧ TabAt v p m own win L ∧ Holds v gK3 35 (ptA q) ∧ Holds v gK7 60 (feA (atE L q)) ∧ True) (by kernel_rfl) ?_ (fun hHeld => ?_)
  · exact ⟨bdrew HB.out, (TB.out).drew, (K3.out).drew, (K7.out).drew, trivial⟩
  clear HB TB K3 K7
  refine wpAnyH_take (i := 0) (v := .pointer (some ⟨gK7, 0, none⟩)) (at_list rfl) (by kernel_rfl) (by kernel_rfl) (by kernel_rfl) (fun _ _ _ h => h) (Or.inl ⟨by rfl, ?_⟩) hHeld ?_
  · intro v hSv
    clear hHeld
    go_simp
  try simp only [Act.put, List.setIfInBounds_toArray, List.set_cons_zero, List.set_cons_succ]
  refine wpAnyH_take (i := 1) (v := .agg #[.int .i64 (atE L q).s.p1, .int .i64 (atE L q).s.p2, .int .i64 (atE L q).s.q1, .int .i64 (atE L q).s.q2, .int .i64 (atE L q).s.q3, .int .u8 ((atE L q).s.gr).b0, .int .u8 ((atE L q).s.gr).b1, .int .u8 ((atE L q).s.gr).b2, .int .u8 ((atE L q).s.gr).b3, .int .u8 ((atE L q).s.gr).b4, .int .u8 ((atE L q).s.gr).b5, .int .u8 ((atE L q).s.gr).b6, .int .u8 ((atE L q).s.gr).b7, .int .i64 (atE L q).s.st, .int .u8 ((atE L q).s.sn.c).b0, .int .u8 ((atE L q).s.sn.c).b1, .int .u8 ((atE L q).s.sn.c).b2, .int .u8 ((atE L q).s.sn.c).b3, .int .u8 ((atE L q).s.sn.c).b4, .int .u8 ((atE L q).s.sn.c).b5, .int .u8 ((atE L q).s.sn.c).b6, .int .u8 ((atE L q).s.sn.c).b7, .int .i64 (atE L q).s.sn.n, .int .u8 ((atE L q).s.rc.c).b0, .int .u8 ((atE L q).s.rc.c).b1, .int .u8 ((atE L q).s.rc.c).b2, .int .u8 ((atE L q).s.rc.c).b3, .int .u8 ((atE L q).s.rc.c).b4, .int .u8 ((atE L q).s.rc.c).b5, .int .u8 ((atE L q).s.rc.c).b6, .int .u8 ((atE L q).s.rc.c).b7, .int .i64 (atE L q).s.rc.n]) (at_list rfl) (by kernel_rfl) (by kernel_rfl) (by kernel_rfl) (fun _ _ _ h => h) (yieldsIf_load_mid (by rfl) 37 _ rfl gK7 0 rfl [.int .i64 (atE L q).s.p1, .int .i64 (atE L q).s.p2, .int .i64 (atE L q).s.q1, .int .i64 (atE L q).s.q2, .int .i64 (atE L q).s.q3, .int .u8 ((atE L q).s.gr).b0, .int .u8 ((atE L q).s.gr).b1, .int .u8 ((atE L q).s.gr).b2, .int .u8 ((atE L q).s.gr).b3, .int .u8 ((atE L q).s.gr).b4, .int .u8 ((atE L q).s.gr).b5, .int .u8 ((atE L q).s.gr).b6, .int .u8 ((atE L q).s.gr).b7, .int .i64 (atE L q).s.st, .int .u8 ((atE L q).s.sn.c).b0, .int .u8 ((atE L q).s.sn.c).b1, .int .u8 ((atE L q).s.sn.c).b2, .int .u8 ((atE L q).s.sn.c).b3, .int .u8 ((atE L q).s.sn.c).b4, .int .u8 ((atE L q).s.sn.c).b5, .int .u8 ((atE L q).s.sn.c).b6, .int .u8 ((atE L q).s.sn.c).b7, .int .i64 (atE L q).s.sn.n, .int .u8 ((atE L q).s.rc.c).b0, .int .u8 ((atE L q).s.rc.c).b1, .int .u8 ((atE L q).s.rc.c).b2, .int .u8 ((atE L q).s.rc.c).b3, .int .u8 ((atE L q).s.rc.c).b4, .int .u8 ((atE L q).s.rc.c).b5, .int .u8 ((atE L q).s.rc.c).b6, .int .u8 ((atE L q).s.rc.c).b7, .int .i64 (atE L q).s.rc.n] _ (fun v hv => Holds.range (hv.2.2.2.1) rfl) Try.underlying37 rfl (by kernel_rfl)) hHeld ?_
  try simp only [Act.put, List.setIfInBounds_toArray, List.set_cons_zero, List.set_cons_succ]
  refine wpAnyH_take (i := 2) (v := .agg (feA (atE L q))) (at_list rfl) (by kernel_rfl) (by kernel_rfl) (by kernel_rfl) (fun _ _ _ h => h) (yields_whole (by rfl) 60 _ rfl gK7 rfl (fun v hv => hv.2.2.2.1) Try.underlying60 rfl (by kernel_rfl)) hHeld ?_
  try simp only [Act.put, List.setIfInBounds_toArray, List.set_cons_zero, List.set_cons_succ]
  refine wpAnyH_take (i := 4) (v := .bool (hasE L q)) (at_list rfl) (by kernel_rfl) (by kernel_rfl) (by kernel_rfl) (fun _ _ _ h => h) (Or.inl ⟨by rfl, ?_⟩) hHeld ?_
  · intro v hSv
    clear hHeld
    go_simp
  try simp only [Act.put, List.setIfInBounds_toArray, List.set_cons_zero, List.set_cons_succ]
  refine wpAnyH_ready (rs := [3]) (by kernel_rfl) (by simp) ?_
  refine AllReadyH.cons (at_list rfl) (fun K hK => ?_) AllReadyH.nil
  go_simp
  refine (last8_any (atE L q) _).mono ?_
  rintro e v1 ⟨rfl, hv1⟩
  replace K4 := Lib.hid ((K4.out).keptB hv1)
  go_wp2_with fail
  refine hK.out _ _ ?_ (fun hHeld2 => ?_)
  · exact ⟨bstep hHeld.1 hv1, (hHeld.2.1).keptB hv1, (hHeld.2.2.1).keptB hv1, (hHeld.2.2.2.1).keptB hv1, trivial⟩
  clear hK K hHeld
  have hHeld := hHeld2
  clear hHeld2 hv1
  try simp only [Act.put, List.setIfInBounds_toArray, List.set_cons_zero, List.set_cons_succ]
  refine wpAnyH_ready (rs := [5]) (by kernel_rfl) (by simp) ?_
  refine AllReadyH.cons (at_list rfl) (fun K hK => ?_) AllReadyH.nil
  refine step_fill (by rfl) 37 _ _ rfl gK4 (rsA (atE L q).s) rfl rfl K4.out (by kernel_rfl) (by kernel_rfl) (by kernel_rfl) ?_
  intro vK40 nK4 htK4
  replace K4 := Lib.hid nK4
  refine hK.out _ _ ?_ (fun hHeld2 => ?_)
  · exact ⟨btouch hHeld.1 htK4 LK4.out, (hHeld.2.1).touch htK4 OTBK4.out, (hHeld.2.2.1).touch htK4 OK3K4.out, (hHeld.2.2.2.1).touch htK4 (Ne.symm OK4K7.out), trivial⟩
  clear hK K hHeld
  have hHeld := hHeld2
  clear hHeld2
  try simp only [Act.put]
  clear nK4 htK4
  try simp only [List.setIfInBounds_toArray, List.set_cons_zero, List.set_cons_succ]
  refine wpAnyH_take (i := 6) (v := .int .i64 (atE L q).t0) (at_list rfl) (by kernel_rfl) (by kernel_rfl) (by kernel_rfl) (fun _ _ _ h => h) (Or.inl ⟨by rfl, ?_⟩) hHeld ?_
  · intro v hSv
    clear hHeld
    go_simp
  try simp only [Act.put, List.setIfInBounds_toArray, List.set_cons_zero, List.set_cons_succ]
  refine wpAnyH_take (i := 7) (v := .bool (hasE L q)) (at_list rfl) (by kernel_rfl) (by kernel_rfl) (by kernel_rfl) (fun _ _ _ h => h) (Or.inl ⟨by rfl, ?_⟩) hHeld ?_
  · intro v hSv
    clear hHeld
    go_simp
  try simp only [Act.put, List.setIfInBounds_toArray, List.set_cons_zero, List.set_cons_succ]
  refine wpAnyH_done (by kernel_rfl) ?_ _
  have HB := Lib.hid hHeld.1
  have TB := Lib.hid hHeld.2.1
  have K3 := Lib.hid hHeld.2.2.1
  have K7 := Lib.hid hHeld.2.2.2.1
  clear hHeld
  go_wp2
  refine bodyPost_ret (v := .tuple #[.agg (rsA (atE L q).s), .int .i64 (atE L q).t0, .bool (hasE L q)]) (results_three rfl _ _ gK4 _ (rsA (atE L q).s) (.int .i64 (atE L q).t0) (.bool (hasE L q)) _ rfl rfl rfl K4.out Try.underlying37 rfl (by kernel_rfl)) rfl ⟨rfl, HB.out⟩

end Go.Proofs.Ytnddmaadmibpeaa
