/- Parts of this proof, one behind the other: FrameRR, FrameRefEnc. -/
import Derived.Test.YtifhjmhekapaoaaDoorFrameRRA
import Derived.Test.YtifhjmhekapaoaaDoorFrameRRB
import Derived.Test.YtifhjmhekapaoaaDoorFrameRRC
import Derived.Test.YtifhjmhekapaoaaDoorFrameRRD
import Derived.Test.YtifhjmhekapaoaaDoorFrameRRE
import Derived.Test.YtifhjmhekapaoaaDoorStampRefWire
import Derived.Test.YtifhjmhekapaoaaDoorHeadRefEncode
import Derived.Test.YtifhjmhekapaoaaDoorBigAll

/- The walk over the reference's Right of layer 6. -/
namespace Go.Proofs.YtifhjmhekapaoaaDoor
set_option maxRecDepth 100000
open Go.RowKit
set_option linter.unusedVariables false

theorem rright6_any (m : Ms) (w : World) : Calls Tryd.prog 14 #[.agg (msA m)] w fun e w' => e = .returned (.bool m.right) ∧ Below w.heap.size w w' := by
  cases hh : m.h.right
  · exact rr_h m w hh
  cases ht : rightB m.ts m.tn
  · exact rr_t m w hh ht
  by_cases h9 : m.h.t = 9
  · cases c : inB m.ak.n 1 65534
    · by_cases c1 : m.ak.n < 1
      · exact rr_9l m w hh ht h9 c c1
      · exact rr_9g m w hh ht h9 c (by have := inB_not.1 c; omega)
    · have c1 := inB_iff.1 c
      by_cases co : m.o = 0
      · by_cases cs : m.src = 0
        · exact rr_9e m w hh ht h9 c c1 co cs
        · exact rr_9s m w hh ht h9 c c1 co cs
      · exact rr_9o m w hh ht h9 c c1 co
  · cases a : eqP m.ak zeroP
    · exact rr_a m w hh ht h9 a
    by_cases h11 : m.h.t = 11
    · cases o : inB m.o (-32768) 32767
      · by_cases o1 : m.o < -32768
        · exact rr_ol m w hh ht h9 a h11 o o1
        · exact rr_og m w hh ht h9 a h11 o (by have := inB_not.1 o; omega)
      have o1 := inB_iff.1 o
      cases s : inB m.src 0 255
      · exact rr_src m w hh ht h9 a h11 o o1 s
      cases n : eqP m.sn m.h.p
      · exact rr_sn m w hh ht h9 a h11 o o1 s n
      cases r : eqP m.rc zeroP
      · exact rr_rc m w hh ht h9 a h11 o o1 s n r
      cases z0 : inB m.p1 0 255
      · exact rr_z0 m w hh ht h9 a h11 o o1 s n r z0
      cases z1 : inB m.p2 0 255
      · exact rr_z1 m w hh ht h9 a h11 o o1 s n r z0 z1
      cases z2 : inB m.q1 0 255
      · exact rr_z2 m w hh ht h9 a h11 o o1 s n r z0 z1 z2
      cases z3 : inB m.q2 0 255
      · exact rr_z3 m w hh ht h9 a h11 o o1 s n r z0 z1 z2 z3
      cases z4 : inB m.q3 0 65535
      · exact rr_z4 m w hh ht h9 a h11 o o1 s n r z0 z1 z2 z3 z4
      cases z5 : inB m.st 0 65535
      · exact rr_z5 m w hh ht h9 a h11 o o1 s n r z0 z1 z2 z3 z4 z5
      exact rr_z6 m w hh ht h9 a h11 o o1 s n r z0 z1 z2 z3 z4 z5
    · by_cases co : m.o = 0
      · by_cases cs : m.src = 0
        · exact rr_0e m w hh ht h9 a h11 co cs
        · exact rr_0s m w hh ht h9 a h11 co cs
      · exact rr_0o m w hh ht h9 a h11 co

end Go.Proofs.YtifhjmhekapaoaaDoor

/- The walk over the reference's Encode of layer 6. -/
namespace Go.Proofs.YtifhjmhekapaoaaDoor
set_option maxRecDepth 100000
open Go.RowKit
set_option linter.unusedVariables false

section
variable {ops : Array Oper} {rest : List Oper} {op : Oper} {a : Act} {w : World} {Q : Exit → Act → World → Prop}
theorem run_add (x y : Operand) (rt : TypeId) (ho : op.op = .binOp .add 9 x y rt) (xs ys : List Int) (hx : a.eval x = .string (strOfNums xs)) (hy : a.eval y = .string (strOfNums ys)) (hl : xs.length + ys.length ≤ 1000) (w : World) : (execOp a.eval op).run Tryd.prog w = .ok (.value (.string (strOfNums (xs ++ ys)))) w := by
  have h := add_str xs ys hl w
  unfold execOp
  simp only [ho, hx, hy]
  simp [eqGuard, binOp, h]
theorem big_add (hw : Region.wanted op (yielded ops a.tmps) = true) (x y : Operand) (rt : TypeId) (ho : op.op = .binOp .add 9 x y rt) (xs ys : List Int) (hx : a.eval x = .string (strOfNums xs)) (hy : a.eval y = .string (strOfNums ys)) (hl : xs.length + ys.length ≤ 1000)
    (h : wpList Tryd.prog ops Q rest (a.put op.dst (.string (strOfNums (xs ++ ys)))) w) : wpList Tryd.prog ops Q (op :: rest) a w :=
  BigFrame.wpList_want hw fun K hK => wp_of_run (run_add x y rt ho xs ys hx hy hl w) (hK _ _ h)
theorem yields_add {S : World → Prop} (hw : Region.wanted op (yielded ops a.tmps) = true) (x y : Operand) (rt : TypeId) (ho : op.op = .binOp .add 9 x y rt) (xs ys : List Int) (hx : a.eval x = .string (strOfNums xs)) (hy : a.eval y = .string (strOfNums ys)) (hl : xs.length + ys.length ≤ 1000) : YieldsIf Tryd.prog ops S op (.string (strOfNums (xs ++ ys))) a :=
  .inl ⟨hw, fun w _ => run_add x y rt ho xs ys hx hy hl w⟩
theorem yields_addL {S : World → Prop} (hw : Region.wanted op (yielded ops a.tmps) = true) (x y : Operand) (rt : TypeId) (ho : op.op = .binOp .add 9 x y rt) (s u : ByteArray) (hx : a.eval x = .string s) (hy : a.eval y = .string u) (xs ys : List Int) (hs : strOfNums xs = s) (hu : strOfNums ys = u) (hl : xs.length + ys.length ≤ 1000) (r : ByteArray) (hr : strOfNums (xs ++ ys) = r) : YieldsIf Tryd.prog ops S op (.string r) a := by
  subst hs hu hr
  exact yields_add hw x y rt ho xs ys hx hy hl
theorem big_conv (hw : Region.wanted op (yielded ops a.tmps) = true) (x : Operand) (ho : op.op = .convert 22 9 x) (ad : Addr) (n c : Nat) (xs : List Int) (hx : a.eval x = .slice (some ad) n c) (hb : BytesAt w ad xs) (hl : xs.length = n)
    (h : wpList Tryd.prog ops Q rest (a.put op.dst (.string (strOfNums xs))) w) : wpList Tryd.prog ops Q (op :: rest) a w :=
  BigFrame.wpList_want hw fun K hK => wp_of_run (by
    unfold execOp
    simp only [ho, hx, Sem.run_bind, conv_at w ad n c xs hl hb, Result.andThen_ok, Sem.run_pure]) (hK _ _ h)
theorem big_tobytes (hw : Region.wanted op (yielded ops a.tmps) = true) (x : Operand) (ho : op.op = .convert 9 22 x) (zs : List Int) (hz : ∀ z ∈ zs, isByte z) (N : Nat) (hN : zs.length = N) (hx : a.eval x = .string (strOfNums zs))
    (h : ∀ g cap w1, w.heap.size ≤ g → BytesAt w1 ⟨g, 0, none⟩ zs → Below w.heap.size w w1 → wpList Tryd.prog ops Q rest (a.put op.dst (.slice (some ⟨g, 0, none⟩) N cap)) w1) : wpList Tryd.prog ops Q (op :: rest) a w :=
  BigFrame.wpList_want hw fun K hK => wp_of_run (by
    unfold execOp
    have hc := Lib.run_convert_string_bytes w 9 22 5 (strOfNums zs) Tryd.underlying9 Tryd.underlying22 Tryd.underlying5
    rw [strOfNums_size, hN] at hc
    simp only [ho, hx, Sem.run_bind, hc, Result.andThen_ok, Sem.run_pure]) (hK _ _ (h w.heap.size (grownCap w N 0 5) _ (Nat.le_refl _) (bytes_of_cells (bytes_new w 5 zs hz)) (bytes_below w 5 (strOfNums zs))))
end
theorem rtwo6_any (n : Int) (w : World) (h0 : -32768 ≤ n) (h1 : n ≤ 65535) :
    Calls Tryd.prog 38 #[.int .i64 n] w fun e w' => e = .returned (.string (strOfNums (beL 2 n))) ∧ Below w.heap.size w w' := by
  obtain ⟨u, hu⟩ : ∃ u, n % 65536 = u := ⟨_, rfl⟩
  have HX := Lib.hid (show [u / 256, u % 256] = beL 2 n by
    simp only [beL, List.nil_append, List.singleton_append]
    rw [show u / 256 = n / 256 % 256 by omega, show u % 256 = n % 256 by omega])
  have u0 : 0 ≤ u := by omega
  have u1 : u ≤ 65535 := by omega
  have e1 : (n + 65536) % 65536 = u := by omega
  have e2 : Int.tmod (n + 65536) 65536 = u := by rw [Int.tmod_eq_emod_of_nonneg (by omega)]; exact e1
  have e3 : Int.tdiv u 256 = u / 256 := Int.tdiv_eq_ediv_of_nonneg (by omega)
  have e4 : Int.tmod u 256 = u % 256 := Int.tmod_eq_emod_of_nonneg (by omega)
  have e5 : u / 256 % 256 = u / 256 := by omega
  have e6 : u % 256 % 256 = u % 256 := by omega
  have hcv : (convert 22 9 (.slice (some ⟨w.heap.size, 0, none⟩) 2 2)).run Tryd.prog (w.alloc (.cells #[.int .u8 (u / 256), .int .u8 (u % 256)] 5)) = .ok (.string (strOfNums [u / 256, u % 256])) (w.alloc (.cells #[.int .u8 (u / 256), .int .u8 (u % 256)] 5)) :=
    conv_at _ ⟨w.heap.size, 0, none⟩ 2 2 [u / 256, u % 256] rfl (row_bytes (zs := [u / 256, u % 256]) (Holds.fresh w 5 _ rfl))
  clear hu
  go_enter Tryd.func38, Tryd.ntmps38
  go_wp2
  go_ret
  exact ⟨by rw [← HX.out]; rfl, bnew _ _⟩
theorem rone6_any (n : Int) (w : World) (h0 : 0 ≤ n) (h1 : n ≤ 255) :
    Calls Tryd.prog 39 #[.int .i64 n] w fun e w' => e = .returned (.string (strOfNums [n])) ∧ Below w.heap.size w w' := by
  have e5 : n % 256 = n := by omega
  have hcv : (convert 22 9 (.slice (some ⟨w.heap.size, 0, none⟩) 1 1)).run Tryd.prog (w.alloc (.cells #[.int .u8 n] 5)) = .ok (.string (strOfNums [n])) (w.alloc (.cells #[.int .u8 n] 5)) :=
    conv_at _ ⟨w.heap.size, 0, none⟩ 1 1 [n] rfl (row_bytes (zs := [n]) (Holds.fresh w 5 _ rfl))
  go_enter Tryd.func39, Tryd.ntmps39
  go_wp2
  go_ret
  exact ⟨rfl, bnew _ _⟩
theorem renc34 (h : Hd) (w : World) (hr : h.right = true) (hok : ∀ z ∈ encL h, isByte z) :
    Calls Tryd.prog 35 #[.agg #[.int .i64 h.t, .int .i64 h.d, .int .i64 h.f, .int .i64 h.c, .int .u8 h.p.c.b0, .int .u8 h.p.c.b1, .int .u8 h.p.c.b2, .int .u8 h.p.c.b3, .int .u8 h.p.c.b4, .int .u8 h.p.c.b5, .int .u8 h.p.c.b6, .int .u8 h.p.c.b7, .int .i64 h.p.n, .int .i64 h.s, .int .i64 h.l]] w fun e w' => ∃ g c, e = .returned (.tuple #[.slice (some ⟨g, 0, none⟩) 34 c, .bool true]) ∧ BytesAt w' ⟨g, 0, none⟩ (encL h) ∧ Below w.heap.size w w' :=
  (rencode_yes h w hr hok).mono fun _ _ ⟨g, c, _, _, h3, h4, h5⟩ => ⟨g, c, h5, bytes_of_cells h3, h4⟩
theorem rput10 (s n : Int) (w : World) (hR : rightB s n = true) :
    Calls Tryd.prog 36 #[.agg #[.int .i64 s, .int .i64 n]] w fun e w' => ∃ g c, e = .returned (.tuple #[.slice (some ⟨g, 0, none⟩) 10 c, .int .i64 0]) ∧ BytesAt w' ⟨g, 0, none⟩ (beL 6 s ++ beL 4 n) ∧ Below w.heap.size w w' :=
  (rput_yes s n w hR).mono fun _ _ ⟨g, c, _, _, h3, h4, h5⟩ => ⟨g, c, h5, bytes_of_cells h3, h4⟩
theorem ridput10 (p : Pt) (w : World) (hf : fitB p.n = true) :
    Calls Tryd.prog 37 #[.agg #[.int .u8 p.c.b0, .int .u8 p.c.b1, .int .u8 p.c.b2, .int .u8 p.c.b3, .int .u8 p.c.b4, .int .u8 p.c.b5, .int .u8 p.c.b6, .int .u8 p.c.b7, .int .i64 p.n]] w fun e w' => ∃ g c, e = .returned (.tuple #[.slice (some ⟨g, 0, none⟩) 10 c, .bool true]) ∧ BytesAt w' ⟨g, 0, none⟩ (ptL p) ∧ Below w.heap.size w w' :=
  (ridput_yes p w hf).mono fun _ _ ⟨g, c, _, _, h3, h4, h5⟩ => ⟨g, c, h5, bytes_of_cells h3, h4⟩
/-- what the reference's Encode leaves -/
def REncYes (zs : List Int) (w : World) (e : Ending) (w' : World) : Prop := ∃ g cap, e = .returned (.tuple #[.slice (some ⟨g, 0, none⟩) zs.length cap, .bool true]) ∧ BytesAt w' ⟨g, 0, none⟩ zs ∧ Below w.heap.size w w'
set_option maxHeartbeats 4000000 in
theorem renc6_no (m : Ms) (w : World) (hr : m.right = false) :
    Calls Tryd.prog 11 #[.agg (msA m)] w fun e w' => e = .returned (.tuple #[.slice none 0 0, .bool false]) ∧ Below w.heap.size w w' := by
  have HB := Lib.hid (Below.refl w.heap.size w)
  have HR := Lib.hid hr
  clear hr
  go_enter Tryd.func11, Tryd.ntmps11
  go_wp2_with (first | (refine big_whole rfl 44 _ rfl gK1 rfl K1.out Tryd.underlying44 rfl (by kernel_rfl) ?_) | (refine big_box rfl 44 _ rfl (msA m) rfl (by kernel_rfl) ?_; intro gK1 wK1 hlK1 nK1 hbK1; replace HB := Lib.hid (bstep HB.out hbK1); have K1 := Lib.hid nK1; clear hlK1 nK1 hbK1))
  refine (rright6_any m _).mono ?_
  rintro e c1 ⟨rfl, hc1⟩
  replace K1 := Lib.hid ((K1.out).keptB hc1)
  replace HB := Lib.hid (bstep HB.out hc1)
  clear hc1
  rw [HR.out]
  go_wp2
  go_ret2
  exact ⟨rfl, HB.out⟩
theorem gr_cell {w : World} {g : Nat} {t : TypeId} {m : Ms} (h : Holds w g t (setA m)) {k : Nat} (hk : k < 8) : w.cell? ⟨g, 5 + k, none⟩ = some (.int .u8 (m.gr.l.getD k 0)) := by
  refine h.reads ?_
  match k, hk with
  | 0, _ => rfl
  | 1, _ => rfl
  | 2, _ => rfl
  | 3, _ => rfl
  | 4, _ => rfl
  | 5, _ => rfl
  | 6, _ => rfl
  | 7, _ => rfl
theorem ck_byte {c : Ck} (h : c.ok) {k : Nat} (hk : k < 8) : isByte (c.l.getD k 0) := getD_byte h k
theorem take_succ_gr (c : Ck) {k : Nat} (hk : k < 8) : c.l.take (k + 1) = c.l.take k ++ [c.l.getD k 0] := by
  have hl : k < c.l.length := hk
  rw [List.take_succ_eq_append_getElem hl]
  simp [List.getD, hl]
set_option maxHeartbeats 4000000 in
theorem renc6_9 (m : Ms) (w : World) (hr : m.right = true) (o1 : m.h.p.c.ok) (o2 : m.ak.c.ok) (o3 : m.gr.ok) (h9 : m.h.t = 9) :
    Calls Tryd.prog 11 #[.agg (msA m)] w (REncYes (encM m) w) := by
  have HB := Lib.hid (Below.refl w.heap.size w)
  obtain ⟨h1, h2, h3, h4⟩ := Ms.right_iff.1 hr
  have HH := Lib.hid h1
  have HT := Lib.hid h2
  have HR := Lib.hid hr
  have HEB := Lib.hid (encL_byte h1 o1)
  have HMB := Lib.hid (encM_byte hr o1 o2 o3)
  have d9 : (m.h.t == 9) = true := by simp [h9]
  have d11 : (m.h.t == 11) = false := by simp; omega
  have HP := Lib.hid (show fitB m.ak.n = true by unfold bodyB at h4; rw [if_pos h9, inB_iff] at h4; exact fitB_iff.2 ⟨by omega, by omega⟩)
  have HE := Lib.hid (show (encL m.h ++ (beL 6 m.ts ++ beL 4 m.tn)) ++ ptL m.ak = encM m by unfold encM tailL; rw [if_pos h9, List.append_assoc])
  have HN := Lib.hid (show (encM m).length = 54 by rw [← HE.out, List.length_append, List.length_append, encL_length, ptL_length]; rfl)
  clear hr h1 h2 h3 h9 o1 o2 o3 h4
  go_enter Tryd.func11, Tryd.ntmps11
  go_wp2_with (first | (refine big_whole rfl 44 _ rfl gK1 rfl K1.out Tryd.underlying44 rfl (by kernel_rfl) ?_) | (refine big_box rfl 44 _ rfl (msA m) rfl (by kernel_rfl) ?_; intro gK1 wK1 hlK1 nK1 hbK1; replace HB := Lib.hid (bstep HB.out hbK1); have K1 := Lib.hid nK1; clear hlK1 nK1 hbK1))
  refine (rright6_any m _).mono ?_
  rintro e c1 ⟨rfl, hc1⟩
  replace K1 := Lib.hid ((K1.out).keptB hc1)
  replace HB := Lib.hid (bstep HB.out hc1)
  clear hc1
  rw [HR.out]
  go_wp2_with ((refine big_load rfl 32 _ rfl gK1 0 rfl K1.out [.int .i64 m.h.t, .int .i64 m.h.d, .int .i64 m.h.f, .int .i64 m.h.c, .int .u8 m.h.p.c.b0, .int .u8 m.h.p.c.b1, .int .u8 m.h.p.c.b2, .int .u8 m.h.p.c.b3, .int .u8 m.h.p.c.b4, .int .u8 m.h.p.c.b5, .int .u8 m.h.p.c.b6, .int .u8 m.h.p.c.b7, .int .i64 m.h.p.n, .int .i64 m.h.s, .int .i64 m.h.l] rfl Tryd.underlying32 rfl (by kernel_rfl) ?_))
  refine (renc34 m.h _ HH.out HEB.out).mono ?_
  rintro e c2 ⟨gA, cA, rfl, nBA, hc2⟩
  replace K1 := Lib.hid ((K1.out).keptB hc2)
  replace HB := Lib.hid (bstep HB.out hc2)
  have BA := Lib.hid nBA
  clear nBA
  clear hc2
  go_wp2_with ((refine big_load rfl 38 _ rfl gK1 15 rfl K1.out [.int .i64 m.ts, .int .i64 m.tn] rfl Tryd.underlying38 rfl (by kernel_rfl) ?_))
  refine (rput10 m.ts m.tn _ HT.out).mono ?_
  rintro e c3 ⟨gT, cT, rfl, nBT, hc3⟩
  replace K1 := Lib.hid ((K1.out).keptB hc3)
  replace BA := Lib.hid ((BA.out).keptB hc3)
  replace HB := Lib.hid (bstep HB.out hc3)
  have BT := Lib.hid nBT
  clear nBT
  clear hc3
  have x0 := (K1.out).reads (i := 0) (x := .int .i64 m.h.t) rfl
  go_wp2_with (first | (refine big_load rfl 26 _ rfl gK1 17 rfl K1.out [.int .u8 m.ak.c.b0, .int .u8 m.ak.c.b1, .int .u8 m.ak.c.b2, .int .u8 m.ak.c.b3, .int .u8 m.ak.c.b4, .int .u8 m.ak.c.b5, .int .u8 m.ak.c.b6, .int .u8 m.ak.c.b7, .int .i64 m.ak.n] rfl Tryd.underlying26 rfl (by kernel_rfl) ?_) | (refine big_add rfl _ _ _ rfl (encL m.h) (beL 6 m.ts ++ beL 4 m.tn) rfl rfl (by rw [encL_length, List.length_append, beL_length, beL_length]; decide) ?_) | (refine big_conv rfl _ rfl ⟨gT, 0, none⟩ 10 cT (beL 6 m.ts ++ beL 4 m.tn) rfl BT.out (rfl) ?_) | (refine big_conv rfl _ rfl ⟨gA, 0, none⟩ 34 cA (encL m.h) rfl BA.out (encL_length _) ?_))
  refine (ridput10 m.ak _ HP.out).mono ?_
  rintro e c4 ⟨gP, cP, rfl, nBP, hc4⟩
  clear x0
  replace K1 := Lib.hid ((K1.out).keptB hc4)
  replace BA := Lib.hid ((BA.out).keptB hc4)
  replace BT := Lib.hid ((BT.out).keptB hc4)
  replace HB := Lib.hid (bstep HB.out hc4)
  have BP := Lib.hid nBP
  clear nBP
  clear hc4
  have x0 := (K1.out).reads (i := 0) (x := .int .i64 m.h.t) rfl
  go_wp2_with (first | (refine big_tobytes rfl _ rfl (encM m) HMB.out _ HN.out (by rw [← HE.out]; rfl) ?_; intro gZ capZ wZ hlZ nZ hbZ; have BZ := Lib.hid nZ; replace HB := Lib.hid (bstep HB.out hbZ); clear hlZ nZ hbZ) | (refine big_add rfl _ _ _ rfl (encL m.h ++ (beL 6 m.ts ++ beL 4 m.tn)) (ptL m.ak) rfl rfl (by rw [List.length_append, encL_length, List.length_append, beL_length, beL_length, ptL_length]; decide) ?_) | (refine big_conv rfl _ rfl ⟨gP, 0, none⟩ 10 cP (ptL m.ak) rfl BP.out (ptL_length _) ?_))
  go_ret2
  refine ⟨gZ, capZ, ?_, BZ.out, HB.out⟩
  rw [HN.out]
  rfl
set_option maxHeartbeats 4000000 in
theorem renc6_0 (m : Ms) (w : World) (hr : m.right = true) (o1 : m.h.p.c.ok) (o2 : m.ak.c.ok) (o3 : m.gr.ok) (h9 : ¬ m.h.t = 9) (h11 : ¬ m.h.t = 11) :
    Calls Tryd.prog 11 #[.agg (msA m)] w (REncYes (encM m) w) := by
  have HB := Lib.hid (Below.refl w.heap.size w)
  obtain ⟨h1, h2, h3, h4⟩ := Ms.right_iff.1 hr
  have HH := Lib.hid h1
  have HT := Lib.hid h2
  have HR := Lib.hid hr
  have HEB := Lib.hid (encL_byte h1 o1)
  have HMB := Lib.hid (encM_byte hr o1 o2 o3)
  have d9 : (m.h.t == 9) = false := by simp [h9]
  have d11 : (m.h.t == 11) = false := by simp [h11]
  have HE := Lib.hid (show encL m.h ++ (beL 6 m.ts ++ beL 4 m.tn) = encM m by unfold encM tailL; rw [if_neg h9, if_neg h11, List.append_nil])
  have HN := Lib.hid (show (encM m).length = 44 by rw [← HE.out, List.length_append, encL_length]; rfl)
  clear hr h1 h2 h3 h9 o1 o2 o3 h11 h4
  go_enter Tryd.func11, Tryd.ntmps11
  go_wp2_with (first | (refine big_whole rfl 44 _ rfl gK1 rfl K1.out Tryd.underlying44 rfl (by kernel_rfl) ?_) | (refine big_box rfl 44 _ rfl (msA m) rfl (by kernel_rfl) ?_; intro gK1 wK1 hlK1 nK1 hbK1; replace HB := Lib.hid (bstep HB.out hbK1); have K1 := Lib.hid nK1; clear hlK1 nK1 hbK1))
  refine (rright6_any m _).mono ?_
  rintro e c1 ⟨rfl, hc1⟩
  replace K1 := Lib.hid ((K1.out).keptB hc1)
  replace HB := Lib.hid (bstep HB.out hc1)
  clear hc1
  rw [HR.out]
  go_wp2_with ((refine big_load rfl 32 _ rfl gK1 0 rfl K1.out [.int .i64 m.h.t, .int .i64 m.h.d, .int .i64 m.h.f, .int .i64 m.h.c, .int .u8 m.h.p.c.b0, .int .u8 m.h.p.c.b1, .int .u8 m.h.p.c.b2, .int .u8 m.h.p.c.b3, .int .u8 m.h.p.c.b4, .int .u8 m.h.p.c.b5, .int .u8 m.h.p.c.b6, .int .u8 m.h.p.c.b7, .int .i64 m.h.p.n, .int .i64 m.h.s, .int .i64 m.h.l] rfl Tryd.underlying32 rfl (by kernel_rfl) ?_))
  refine (renc34 m.h _ HH.out HEB.out).mono ?_
  rintro e c2 ⟨gA, cA, rfl, nBA, hc2⟩
  replace K1 := Lib.hid ((K1.out).keptB hc2)
  replace HB := Lib.hid (bstep HB.out hc2)
  have BA := Lib.hid nBA
  clear nBA
  clear hc2
  go_wp2_with ((refine big_load rfl 38 _ rfl gK1 15 rfl K1.out [.int .i64 m.ts, .int .i64 m.tn] rfl Tryd.underlying38 rfl (by kernel_rfl) ?_))
  refine (rput10 m.ts m.tn _ HT.out).mono ?_
  rintro e c3 ⟨gT, cT, rfl, nBT, hc3⟩
  replace K1 := Lib.hid ((K1.out).keptB hc3)
  replace BA := Lib.hid ((BA.out).keptB hc3)
  replace HB := Lib.hid (bstep HB.out hc3)
  have BT := Lib.hid nBT
  clear nBT
  clear hc3
  have x0 := (K1.out).reads (i := 0) (x := .int .i64 m.h.t) rfl
  go_wp2_with (first | (refine big_tobytes rfl _ rfl (encM m) HMB.out _ HN.out (by rw [← HE.out]; rfl) ?_; intro gZ capZ wZ hlZ nZ hbZ; have BZ := Lib.hid nZ; replace HB := Lib.hid (bstep HB.out hbZ); clear hlZ nZ hbZ) | (refine big_add rfl _ _ _ rfl (encL m.h) (beL 6 m.ts ++ beL 4 m.tn) rfl rfl (by rw [encL_length, List.length_append, beL_length, beL_length]; decide) ?_) | (refine big_conv rfl _ rfl ⟨gT, 0, none⟩ 10 cT (beL 6 m.ts ++ beL 4 m.tn) rfl BT.out (rfl) ?_) | (refine big_conv rfl _ rfl ⟨gA, 0, none⟩ 34 cA (encL m.h) rfl BA.out (encL_length _) ?_))
  go_ret2
  refine ⟨gZ, capZ, ?_, BZ.out, HB.out⟩
  rw [HN.out]
  rfl
set_option maxHeartbeats 4000000 in
theorem renc6_11 (m : Ms) (w : World) (hr : m.right = true) (o1 : m.h.p.c.ok) (o2 : m.ak.c.ok) (o3 : m.gr.ok) (h9 : ¬ m.h.t = 9) (h11 : m.h.t = 11) :
    Calls Tryd.prog 11 #[.agg (msA m)] w (REncYes (encM m) w) := by
  have HB := Lib.hid (Below.refl w.heap.size w)
  obtain ⟨h1, h2, h3, h4⟩ := Ms.right_iff.1 hr
  have HH := Lib.hid h1
  have HT := Lib.hid h2
  have HR := Lib.hid hr
  have HEB := Lib.hid (encL_byte h1 o1)
  have HMB := Lib.hid (encM_byte hr o1 o2 o3)
  have d9 : (m.h.t == 9) = false := by simp [h9]
  have d11 : (m.h.t == 11) = true := by simp [h11]
  unfold bodyB at h4
  rw [if_neg h9, if_pos h11, Bool.and_eq_true, Bool.and_eq_true, inB_iff, inB_iff] at h4
  obtain ⟨ho, hs, hsrc⟩ := h4
  obtain ⟨b1, b2, b3, b4, b5, b6, b7⟩ := setB_iff.1 hs
  have HO := Lib.hid ho
  have HSR := Lib.hid hsrc
  have P1 := Lib.hid b1
  have P2 := Lib.hid b2
  have Q1 := Lib.hid b3
  have Q2 := Lib.hid b4
  have Q3 := Lib.hid b5
  have ST := Lib.hid b7
  have HG := Lib.hid o3
  have HE := Lib.hid (show (((((((((encL m.h ++ (beL 6 m.ts ++ beL 4 m.tn)) ++ beL 2 m.o) ++ [0]) ++ [m.p1]) ++ [m.q1]) ++ [m.q2]) ++ beL 2 m.q3) ++ [m.p2]) ++ m.gr.l) ++ beL 2 m.st ++ [m.src] = encM m by
    unfold encM tailL annL
    rw [if_neg h9, if_pos h11]
    simp only [List.append_assoc, List.cons_append, List.nil_append])
  have HN := Lib.hid (show (encM m).length = 64 by rw [← HE.out]; simp [encL_length, beL_length, Ck.l])
  clear ho hs hsrc b1 b2 b3 b4 b5 b6 b7
  clear hr h1 h2 h3 h9 o1 o2 o3 h11
  go_enter Tryd.func11, Tryd.ntmps11
  go_wp2_with (first | (refine big_whole rfl 44 _ rfl gK1 rfl K1.out Tryd.underlying44 rfl (by kernel_rfl) ?_) | (refine big_box rfl 44 _ rfl (msA m) rfl (by kernel_rfl) ?_; intro gK1 wK1 hlK1 nK1 hbK1; replace HB := Lib.hid (bstep HB.out hbK1); have K1 := Lib.hid nK1; clear hlK1 nK1 hbK1))
  refine (rright6_any m _).mono ?_
  rintro e c1 ⟨rfl, hc1⟩
  replace K1 := Lib.hid ((K1.out).keptB hc1)
  replace HB := Lib.hid (bstep HB.out hc1)
  clear hc1
  rw [HR.out]
  go_wp2_with ((refine big_load rfl 32 _ rfl gK1 0 rfl K1.out [.int .i64 m.h.t, .int .i64 m.h.d, .int .i64 m.h.f, .int .i64 m.h.c, .int .u8 m.h.p.c.b0, .int .u8 m.h.p.c.b1, .int .u8 m.h.p.c.b2, .int .u8 m.h.p.c.b3, .int .u8 m.h.p.c.b4, .int .u8 m.h.p.c.b5, .int .u8 m.h.p.c.b6, .int .u8 m.h.p.c.b7, .int .i64 m.h.p.n, .int .i64 m.h.s, .int .i64 m.h.l] rfl Tryd.underlying32 rfl (by kernel_rfl) ?_))
  refine (renc34 m.h _ HH.out HEB.out).mono ?_
  rintro e c2 ⟨gA, cA, rfl, nBA, hc2⟩
  replace K1 := Lib.hid ((K1.out).keptB hc2)
  replace HB := Lib.hid (bstep HB.out hc2)
  have BA := Lib.hid nBA
  clear nBA
  clear hc2
  go_wp2_with ((refine big_load rfl 38 _ rfl gK1 15 rfl K1.out [.int .i64 m.ts, .int .i64 m.tn] rfl Tryd.underlying38 rfl (by kernel_rfl) ?_))
  refine (rput10 m.ts m.tn _ HT.out).mono ?_
  rintro e c3 ⟨gT, cT, rfl, nBT, hc3⟩
  replace K1 := Lib.hid ((K1.out).keptB hc3)
  replace BA := Lib.hid ((BA.out).keptB hc3)
  replace HB := Lib.hid (bstep HB.out hc3)
  have BT := Lib.hid nBT
  clear nBT
  clear hc3
  have x0 := (K1.out).reads (i := 0) (x := .int .i64 m.h.t) rfl
  go_upto_region 11 with (first | (refine big_fill rfl 42 _ _ rfl gK3 (setA m) rfl rfl K3.out (by kernel_rfl) (by kernel_rfl) (by kernel_rfl) ?_; intro vK3 nK3 tK3; have hbK3 := btouch AK3.out tK3 LK3.out; replace K1 := Lib.hid ((K1.out).keptB hbK3); replace BA := Lib.hid ((BA.out).keptB hbK3); replace BT := Lib.hid ((BT.out).keptB hbK3); replace HB := Lib.hid (bstep HB.out hbK3); replace K3 := Lib.hid nK3; clear nK3 tK3 hbK3 AK3 LK3) | (refine big_alloc rfl 42 rfl (#[.int .i64 0, .int .i64 0, .int .i64 0, .int .i64 0, .int .i64 0, .int .u8 0, .int .u8 0, .int .u8 0, .int .u8 0, .int .u8 0, .int .u8 0, .int .u8 0, .int .u8 0, .int .i64 0, .int .u8 0, .int .u8 0, .int .u8 0, .int .u8 0, .int .u8 0, .int .u8 0, .int .u8 0, .int .u8 0, .int .i64 0, .int .u8 0, .int .u8 0, .int .u8 0, .int .u8 0, .int .u8 0, .int .u8 0, .int .u8 0, .int .u8 0, .int .i64 0]) (by kernel_rfl) ?_; intro gK3 wK3 hlK3 nK3 hbK3; have K3 := Lib.hid nK3; have AK3 := Lib.hid hbK3; have LK3 := Lib.hid hlK3; clear hlK3 nK3 hbK3) | (refine big_load rfl 42 _ rfl gK1 27 rfl K1.out [.int .i64 m.p1, .int .i64 m.p2, .int .i64 m.q1, .int .i64 m.q2, .int .i64 m.q3, .int .u8 m.gr.b0, .int .u8 m.gr.b1, .int .u8 m.gr.b2, .int .u8 m.gr.b3, .int .u8 m.gr.b4, .int .u8 m.gr.b5, .int .u8 m.gr.b6, .int .u8 m.gr.b7, .int .i64 m.st, .int .u8 m.sn.c.b0, .int .u8 m.sn.c.b1, .int .u8 m.sn.c.b2, .int .u8 m.sn.c.b3, .int .u8 m.sn.c.b4, .int .u8 m.sn.c.b5, .int .u8 m.sn.c.b6, .int .u8 m.sn.c.b7, .int .i64 m.sn.n, .int .u8 m.rc.c.b0, .int .u8 m.rc.c.b1, .int .u8 m.rc.c.b2, .int .u8 m.rc.c.b3, .int .u8 m.rc.c.b4, .int .u8 m.rc.c.b5, .int .u8 m.rc.c.b6, .int .u8 m.rc.c.b7, .int .i64 m.rc.n] rfl Tryd.underlying42 rfl (by kernel_rfl) ?_) | (refine big_add rfl _ _ _ rfl (encL m.h) (beL 6 m.ts ++ beL 4 m.tn) rfl rfl (by rw [encL_length, List.length_append, beL_length, beL_length]; decide) ?_) | (refine big_conv rfl _ rfl ⟨gT, 0, none⟩ 10 cT (beL 6 m.ts ++ beL 4 m.tn) rfl BT.out (rfl) ?_) | (refine big_conv rfl _ rfl ⟨gA, 0, none⟩ 34 cA (encL m.h) rfl BA.out (encL_length _) ?_))
  clear x0
  obtain ⟨z0, hz0⟩ : ∃ z, encL m.h ++ (beL 6 m.ts ++ beL 4 m.tn) = z := ⟨_, rfl⟩
  obtain ⟨R0, hR0⟩ : ∃ s, strOfNums z0 = s := ⟨_, rfl⟩
  rw [hz0, hR0]
  rw [hz0] at HE
  have HL0 := Lib.hid (show z0.length = 44 by rw [← hz0, List.length_append, encL_length]; rfl)
  have HR0 := Lib.hid hR0
  clear hz0 hR0
  obtain ⟨z1, hz1⟩ : ∃ z, z0 ++ beL 2 m.o = z := ⟨_, rfl⟩
  obtain ⟨R1, hR1⟩ : ∃ s, strOfNums z1 = s := ⟨_, rfl⟩
  rw [hz1] at HE
  have HL1 := Lib.hid (show z1.length = 46 by rw [← hz1, List.length_append, HL0.out]; rfl)
  have HR1 := Lib.hid hR1
  have HZ1 := Lib.hid hz1
  clear hz1 hR1
  obtain ⟨U0, hU0⟩ : ∃ s, strOfNums (beL 2 m.o) = s := ⟨_, rfl⟩
  have HU0 := Lib.hid hU0
  clear hU0
  obtain ⟨z2, hz2⟩ : ∃ z, z1 ++ [0] = z := ⟨_, rfl⟩
  obtain ⟨R2, hR2⟩ : ∃ s, strOfNums z2 = s := ⟨_, rfl⟩
  rw [hz2] at HE
  have HL2 := Lib.hid (show z2.length = 47 by rw [← hz2, List.length_append, HL1.out]; rfl)
  have HR2 := Lib.hid hR2
  have HZ2 := Lib.hid hz2
  clear hz2 hR2
  obtain ⟨z3, hz3⟩ : ∃ z, z2 ++ [m.p1] = z := ⟨_, rfl⟩
  obtain ⟨R3, hR3⟩ : ∃ s, strOfNums z3 = s := ⟨_, rfl⟩
  rw [hz3] at HE
  have HL3 := Lib.hid (show z3.length = 48 by rw [← hz3, List.length_append, HL2.out]; rfl)
  have HR3 := Lib.hid hR3
  have HZ3 := Lib.hid hz3
  clear hz3 hR3
  obtain ⟨U2, hU2⟩ : ∃ s, strOfNums ([m.p1]) = s := ⟨_, rfl⟩
  have HU2 := Lib.hid hU2
  clear hU2
  obtain ⟨z4, hz4⟩ : ∃ z, z3 ++ [m.q1] = z := ⟨_, rfl⟩
  obtain ⟨R4, hR4⟩ : ∃ s, strOfNums z4 = s := ⟨_, rfl⟩
  rw [hz4] at HE
  have HL4 := Lib.hid (show z4.length = 49 by rw [← hz4, List.length_append, HL3.out]; rfl)
  have HR4 := Lib.hid hR4
  have HZ4 := Lib.hid hz4
  clear hz4 hR4
  obtain ⟨U3, hU3⟩ : ∃ s, strOfNums ([m.q1]) = s := ⟨_, rfl⟩
  have HU3 := Lib.hid hU3
  clear hU3
  obtain ⟨z5, hz5⟩ : ∃ z, z4 ++ [m.q2] = z := ⟨_, rfl⟩
  obtain ⟨R5, hR5⟩ : ∃ s, strOfNums z5 = s := ⟨_, rfl⟩
  rw [hz5] at HE
  have HL5 := Lib.hid (show z5.length = 50 by rw [← hz5, List.length_append, HL4.out]; rfl)
  have HR5 := Lib.hid hR5
  have HZ5 := Lib.hid hz5
  clear hz5 hR5
  obtain ⟨U4, hU4⟩ : ∃ s, strOfNums ([m.q2]) = s := ⟨_, rfl⟩
  have HU4 := Lib.hid hU4
  clear hU4
  obtain ⟨z6, hz6⟩ : ∃ z, z5 ++ beL 2 m.q3 = z := ⟨_, rfl⟩
  obtain ⟨R6, hR6⟩ : ∃ s, strOfNums z6 = s := ⟨_, rfl⟩
  rw [hz6] at HE
  have HL6 := Lib.hid (show z6.length = 52 by rw [← hz6, List.length_append, HL5.out]; rfl)
  have HR6 := Lib.hid hR6
  have HZ6 := Lib.hid hz6
  clear hz6 hR6
  obtain ⟨U5, hU5⟩ : ∃ s, strOfNums (beL 2 m.q3) = s := ⟨_, rfl⟩
  have HU5 := Lib.hid hU5
  clear hU5
  obtain ⟨z7, hz7⟩ : ∃ z, z6 ++ [m.p2] = z := ⟨_, rfl⟩
  obtain ⟨R7, hR7⟩ : ∃ s, strOfNums z7 = s := ⟨_, rfl⟩
  rw [hz7] at HE
  have HL7 := Lib.hid (show z7.length = 53 by rw [← hz7, List.length_append, HL6.out]; rfl)
  have HR7 := Lib.hid hR7
  have HZ7 := Lib.hid hz7
  clear hz7 hR7
  obtain ⟨U6, hU6⟩ : ∃ s, strOfNums ([m.p2]) = s := ⟨_, rfl⟩
  have HU6 := Lib.hid hU6
  clear hU6
  refine wp_region_held_drew (S := fun v => Below w.heap.size w v ∧ Holds v gK1 44 (msA m) ∧ BytesAt v ⟨gA, 0, none⟩ (encL m.h) ∧ BytesAt v ⟨gT, 0, none⟩ (beL 6 m.ts ++ beL 4 m.tn) ∧ Holds v gK3 42 (setA m) ∧ True) (by kernel_rfl) ?_ (fun hHeld => ?_)
  · exact ⟨bdrew HB.out, (K1.out).drew, (BA.out).drew, (BT.out).drew, (K3.out).drew, trivial⟩
  clear HB K1 BA BT K3
  refine wpAnyH_take (i := 0) (v := .string R0) (at_list rfl) (by kernel_rfl) (by kernel_rfl) (by kernel_rfl) (fun _ _ _ h => h) (Or.inl ⟨by rfl, ?_⟩) hHeld ?_
  · intro v hSv
    clear hHeld
    go_simp
  try simp only [Act.put, List.setIfInBounds_toArray, List.set_cons_zero, List.set_cons_succ]
  refine wpAnyH_take (i := 1) (v := .pointer (some ⟨gK1, 26, none⟩)) (at_list rfl) (by kernel_rfl) (by kernel_rfl) (by kernel_rfl) (fun _ _ _ h => h) (Or.inl ⟨by rfl, ?_⟩) hHeld ?_
  · intro v hSv
    clear hHeld
    go_simp
  try simp only [Act.put, List.setIfInBounds_toArray, List.set_cons_zero, List.set_cons_succ]
  refine wpAnyH_take (i := 2) (v := .int .i64 m.o) (at_list rfl) (by kernel_rfl) (by kernel_rfl) (by kernel_rfl) (fun _ _ _ h => h) (Or.inl ⟨by rfl, ?_⟩) hHeld ?_
  · intro v hSv
    clear hHeld
    have q := hSv.2.1.reads (i := 26) (x := .int .i64 m.o) rfl
    clear hSv
    go_simp
  try simp only [Act.put, List.setIfInBounds_toArray, List.set_cons_zero, List.set_cons_succ]
  refine wpAnyH_take (i := 6) (v := .pointer (some ⟨gK3, 0, none⟩)) (at_list rfl) (by kernel_rfl) (by kernel_rfl) (by kernel_rfl) (fun _ _ _ h => h) (Or.inl ⟨by rfl, ?_⟩) hHeld ?_
  · intro v hSv
    clear hHeld
    go_simp
  try simp only [Act.put, List.setIfInBounds_toArray, List.set_cons_zero, List.set_cons_succ]
  refine wpAnyH_take (i := 7) (v := .int .i64 m.p1) (at_list rfl) (by kernel_rfl) (by kernel_rfl) (by kernel_rfl) (fun _ _ _ h => h) (Or.inl ⟨by rfl, ?_⟩) hHeld ?_
  · intro v hSv
    clear hHeld
    have q := hSv.2.2.2.2.1.reads (i := 0) (x := .int .i64 m.p1) rfl
    clear hSv
    go_simp
  try simp only [Act.put, List.setIfInBounds_toArray, List.set_cons_zero, List.set_cons_succ]
  refine wpAnyH_take (i := 10) (v := .pointer (some ⟨gK3, 2, none⟩)) (at_list rfl) (by kernel_rfl) (by kernel_rfl) (by kernel_rfl) (fun _ _ _ h => h) (Or.inl ⟨by rfl, ?_⟩) hHeld ?_
  · intro v hSv
    clear hHeld
    go_simp
  try simp only [Act.put, List.setIfInBounds_toArray, List.set_cons_zero, List.set_cons_succ]
  refine wpAnyH_take (i := 11) (v := .pointer (some ⟨gK3, 2, none⟩)) (at_list rfl) (by kernel_rfl) (by kernel_rfl) (by kernel_rfl) (fun _ _ _ h => h) (Or.inl ⟨by rfl, ?_⟩) hHeld ?_
  · intro v hSv
    clear hHeld
    go_simp
  try simp only [Act.put, List.setIfInBounds_toArray, List.set_cons_zero, List.set_cons_succ]
  refine wpAnyH_take (i := 12) (v := .int .i64 m.q1) (at_list rfl) (by kernel_rfl) (by kernel_rfl) (by kernel_rfl) (fun _ _ _ h => h) (Or.inl ⟨by rfl, ?_⟩) hHeld ?_
  · intro v hSv
    clear hHeld
    have q := hSv.2.2.2.2.1.reads (i := 2) (x := .int .i64 m.q1) rfl
    clear hSv
    go_simp
  try simp only [Act.put, List.setIfInBounds_toArray, List.set_cons_zero, List.set_cons_succ]
  refine wpAnyH_take (i := 15) (v := .pointer (some ⟨gK3, 2, none⟩)) (at_list rfl) (by kernel_rfl) (by kernel_rfl) (by kernel_rfl) (fun _ _ _ h => h) (Or.inl ⟨by rfl, ?_⟩) hHeld ?_
  · intro v hSv
    clear hHeld
    go_simp
  try simp only [Act.put, List.setIfInBounds_toArray, List.set_cons_zero, List.set_cons_succ]
  refine wpAnyH_take (i := 16) (v := .pointer (some ⟨gK3, 3, none⟩)) (at_list rfl) (by kernel_rfl) (by kernel_rfl) (by kernel_rfl) (fun _ _ _ h => h) (Or.inl ⟨by rfl, ?_⟩) hHeld ?_
  · intro v hSv
    clear hHeld
    go_simp
  try simp only [Act.put, List.setIfInBounds_toArray, List.set_cons_zero, List.set_cons_succ]
  refine wpAnyH_take (i := 17) (v := .int .i64 m.q2) (at_list rfl) (by kernel_rfl) (by kernel_rfl) (by kernel_rfl) (fun _ _ _ h => h) (Or.inl ⟨by rfl, ?_⟩) hHeld ?_
  · intro v hSv
    clear hHeld
    have q := hSv.2.2.2.2.1.reads (i := 3) (x := .int .i64 m.q2) rfl
    clear hSv
    go_simp
  try simp only [Act.put, List.setIfInBounds_toArray, List.set_cons_zero, List.set_cons_succ]
  refine wpAnyH_take (i := 20) (v := .pointer (some ⟨gK3, 2, none⟩)) (at_list rfl) (by kernel_rfl) (by kernel_rfl) (by kernel_rfl) (fun _ _ _ h => h) (Or.inl ⟨by rfl, ?_⟩) hHeld ?_
  · intro v hSv
    clear hHeld
    go_simp
  try simp only [Act.put, List.setIfInBounds_toArray, List.set_cons_zero, List.set_cons_succ]
  refine wpAnyH_take (i := 21) (v := .pointer (some ⟨gK3, 4, none⟩)) (at_list rfl) (by kernel_rfl) (by kernel_rfl) (by kernel_rfl) (fun _ _ _ h => h) (Or.inl ⟨by rfl, ?_⟩) hHeld ?_
  · intro v hSv
    clear hHeld
    go_simp
  try simp only [Act.put, List.setIfInBounds_toArray, List.set_cons_zero, List.set_cons_succ]
  refine wpAnyH_take (i := 22) (v := .int .i64 m.q3) (at_list rfl) (by kernel_rfl) (by kernel_rfl) (by kernel_rfl) (fun _ _ _ h => h) (Or.inl ⟨by rfl, ?_⟩) hHeld ?_
  · intro v hSv
    clear hHeld
    have q := hSv.2.2.2.2.1.reads (i := 4) (x := .int .i64 m.q3) rfl
    clear hSv
    go_simp
  try simp only [Act.put, List.setIfInBounds_toArray, List.set_cons_zero, List.set_cons_succ]
  refine wpAnyH_take (i := 25) (v := .pointer (some ⟨gK3, 1, none⟩)) (at_list rfl) (by kernel_rfl) (by kernel_rfl) (by kernel_rfl) (fun _ _ _ h => h) (Or.inl ⟨by rfl, ?_⟩) hHeld ?_
  · intro v hSv
    clear hHeld
    go_simp
  try simp only [Act.put, List.setIfInBounds_toArray, List.set_cons_zero, List.set_cons_succ]
  refine wpAnyH_take (i := 26) (v := .int .i64 m.p2) (at_list rfl) (by kernel_rfl) (by kernel_rfl) (by kernel_rfl) (fun _ _ _ h => h) (Or.inl ⟨by rfl, ?_⟩) hHeld ?_
  · intro v hSv
    clear hHeld
    have q := hSv.2.2.2.2.1.reads (i := 1) (x := .int .i64 m.p2) rfl
    clear hSv
    go_simp
  try simp only [Act.put, List.setIfInBounds_toArray, List.set_cons_zero, List.set_cons_succ]
  refine wpAnyH_ready (rs := [3]) (by kernel_rfl) (by simp) ?_
  refine AllReadyH.cons (at_list rfl) (fun K hK => ?_) AllReadyH.nil
  go_simp
  refine (rtwo6_any m.o _ HO.out.1 (Int.le_trans HO.out.2 (by decide))).mono ?_
  rintro e v4 ⟨rfl, hv4⟩
  rw [HU0.out]
  go_wp2_with fail
  refine hK.out _ _ ?_ (fun hHeld2 => ?_)
  · exact ⟨bstep hHeld.1 hv4, hHeld.2.1.keptB hv4, hHeld.2.2.1.keptB hv4, hHeld.2.2.2.1.keptB hv4, hHeld.2.2.2.2.1.keptB hv4, trivial⟩
  clear hK K hHeld
  have hHeld := hHeld2
  clear hHeld2 hv4
  try simp only [Act.put, List.setIfInBounds_toArray, List.set_cons_zero, List.set_cons_succ]
  refine wpAnyH_take (i := 4) (v := .string R1) (at_list rfl) (by kernel_rfl) (by kernel_rfl) (by kernel_rfl) (fun _ _ _ h => h) (yields_addL (by rfl) _ _ _ rfl R0 (U0) rfl rfl z0 (beL 2 m.o) HR0.out HU0.out (by rw [HL0.out]; exact Nat.le_of_ble_eq_true rfl) R1 (by rw [HZ1.out]; exact HR1.out)) hHeld ?_
  try simp only [Act.put, List.setIfInBounds_toArray, List.set_cons_zero, List.set_cons_succ]
  refine wpAnyH_take (i := 5) (v := .string R2) (at_list rfl) (by kernel_rfl) (by kernel_rfl) (by kernel_rfl) (fun _ _ _ h => h) (yields_addL (by rfl) _ _ _ rfl R1 ({ data := #[0] }) rfl rfl z1 ([0]) HR1.out rfl (by rw [HL1.out]; exact Nat.le_of_ble_eq_true rfl) R2 (by rw [HZ2.out]; exact HR2.out)) hHeld ?_
  try simp only [Act.put, List.setIfInBounds_toArray, List.set_cons_zero, List.set_cons_succ]
  refine wpAnyH_ready (rs := [8]) (by kernel_rfl) (by simp) ?_
  refine AllReadyH.cons (at_list rfl) (fun K hK => ?_) AllReadyH.nil
  go_simp
  refine (rone6_any m.p1 _ P1.out.1 P1.out.2).mono ?_
  rintro e v5 ⟨rfl, hv5⟩
  rw [HU2.out]
  go_wp2_with fail
  refine hK.out _ _ ?_ (fun hHeld2 => ?_)
  · exact ⟨bstep hHeld.1 hv5, hHeld.2.1.keptB hv5, hHeld.2.2.1.keptB hv5, hHeld.2.2.2.1.keptB hv5, hHeld.2.2.2.2.1.keptB hv5, trivial⟩
  clear hK K hHeld
  have hHeld := hHeld2
  clear hHeld2 hv5
  try simp only [Act.put, List.setIfInBounds_toArray, List.set_cons_zero, List.set_cons_succ]
  refine wpAnyH_take (i := 9) (v := .string R3) (at_list rfl) (by kernel_rfl) (by kernel_rfl) (by kernel_rfl) (fun _ _ _ h => h) (yields_addL (by rfl) _ _ _ rfl R2 (U2) rfl rfl z2 ([m.p1]) HR2.out HU2.out (by rw [HL2.out]; exact Nat.le_of_ble_eq_true rfl) R3 (by rw [HZ3.out]; exact HR3.out)) hHeld ?_
  try simp only [Act.put, List.setIfInBounds_toArray, List.set_cons_zero, List.set_cons_succ]
  refine wpAnyH_ready (rs := [13]) (by kernel_rfl) (by simp) ?_
  refine AllReadyH.cons (at_list rfl) (fun K hK => ?_) AllReadyH.nil
  go_simp
  refine (rone6_any m.q1 _ Q1.out.1 Q1.out.2).mono ?_
  rintro e v6 ⟨rfl, hv6⟩
  rw [HU3.out]
  go_wp2_with fail
  refine hK.out _ _ ?_ (fun hHeld2 => ?_)
  · exact ⟨bstep hHeld.1 hv6, hHeld.2.1.keptB hv6, hHeld.2.2.1.keptB hv6, hHeld.2.2.2.1.keptB hv6, hHeld.2.2.2.2.1.keptB hv6, trivial⟩
  clear hK K hHeld
  have hHeld := hHeld2
  clear hHeld2 hv6
  try simp only [Act.put, List.setIfInBounds_toArray, List.set_cons_zero, List.set_cons_succ]
  refine wpAnyH_take (i := 14) (v := .string R4) (at_list rfl) (by kernel_rfl) (by kernel_rfl) (by kernel_rfl) (fun _ _ _ h => h) (yields_addL (by rfl) _ _ _ rfl R3 (U3) rfl rfl z3 ([m.q1]) HR3.out HU3.out (by rw [HL3.out]; exact Nat.le_of_ble_eq_true rfl) R4 (by rw [HZ4.out]; exact HR4.out)) hHeld ?_
  try simp only [Act.put, List.setIfInBounds_toArray, List.set_cons_zero, List.set_cons_succ]
  refine wpAnyH_ready (rs := [18]) (by kernel_rfl) (by simp) ?_
  refine AllReadyH.cons (at_list rfl) (fun K hK => ?_) AllReadyH.nil
  go_simp
  refine (rone6_any m.q2 _ Q2.out.1 Q2.out.2).mono ?_
  rintro e v7 ⟨rfl, hv7⟩
  rw [HU4.out]
  go_wp2_with fail
  refine hK.out _ _ ?_ (fun hHeld2 => ?_)
  · exact ⟨bstep hHeld.1 hv7, hHeld.2.1.keptB hv7, hHeld.2.2.1.keptB hv7, hHeld.2.2.2.1.keptB hv7, hHeld.2.2.2.2.1.keptB hv7, trivial⟩
  clear hK K hHeld
  have hHeld := hHeld2
  clear hHeld2 hv7
  try simp only [Act.put, List.setIfInBounds_toArray, List.set_cons_zero, List.set_cons_succ]
  refine wpAnyH_take (i := 19) (v := .string R5) (at_list rfl) (by kernel_rfl) (by kernel_rfl) (by kernel_rfl) (fun _ _ _ h => h) (yields_addL (by rfl) _ _ _ rfl R4 (U4) rfl rfl z4 ([m.q2]) HR4.out HU4.out (by rw [HL4.out]; exact Nat.le_of_ble_eq_true rfl) R5 (by rw [HZ5.out]; exact HR5.out)) hHeld ?_
  try simp only [Act.put, List.setIfInBounds_toArray, List.set_cons_zero, List.set_cons_succ]
  refine wpAnyH_ready (rs := [23]) (by kernel_rfl) (by simp) ?_
  refine AllReadyH.cons (at_list rfl) (fun K hK => ?_) AllReadyH.nil
  go_simp
  refine (rtwo6_any m.q3 _ (Int.le_trans (by decide) Q3.out.1) Q3.out.2).mono ?_
  rintro e v8 ⟨rfl, hv8⟩
  rw [HU5.out]
  go_wp2_with fail
  refine hK.out _ _ ?_ (fun hHeld2 => ?_)
  · exact ⟨bstep hHeld.1 hv8, hHeld.2.1.keptB hv8, hHeld.2.2.1.keptB hv8, hHeld.2.2.2.1.keptB hv8, hHeld.2.2.2.2.1.keptB hv8, trivial⟩
  clear hK K hHeld
  have hHeld := hHeld2
  clear hHeld2 hv8
  try simp only [Act.put, List.setIfInBounds_toArray, List.set_cons_zero, List.set_cons_succ]
  refine wpAnyH_take (i := 24) (v := .string R6) (at_list rfl) (by kernel_rfl) (by kernel_rfl) (by kernel_rfl) (fun _ _ _ h => h) (yields_addL (by rfl) _ _ _ rfl R5 (U5) rfl rfl z5 (beL 2 m.q3) HR5.out HU5.out (by rw [HL5.out]; exact Nat.le_of_ble_eq_true rfl) R6 (by rw [HZ6.out]; exact HR6.out)) hHeld ?_
  try simp only [Act.put, List.setIfInBounds_toArray, List.set_cons_zero, List.set_cons_succ]
  refine wpAnyH_ready (rs := [27]) (by kernel_rfl) (by simp) ?_
  refine AllReadyH.cons (at_list rfl) (fun K hK => ?_) AllReadyH.nil
  go_simp
  refine (rone6_any m.p2 _ P2.out.1 P2.out.2).mono ?_
  rintro e v9 ⟨rfl, hv9⟩
  rw [HU6.out]
  go_wp2_with fail
  refine hK.out _ _ ?_ (fun hHeld2 => ?_)
  · exact ⟨bstep hHeld.1 hv9, hHeld.2.1.keptB hv9, hHeld.2.2.1.keptB hv9, hHeld.2.2.2.1.keptB hv9, hHeld.2.2.2.2.1.keptB hv9, trivial⟩
  clear hK K hHeld
  have hHeld := hHeld2
  clear hHeld2 hv9
  try simp only [Act.put, List.setIfInBounds_toArray, List.set_cons_zero, List.set_cons_succ]
  refine wpAnyH_take (i := 28) (v := .string R7) (at_list rfl) (by kernel_rfl) (by kernel_rfl) (by kernel_rfl) (fun _ _ _ h => h) (yields_addL (by rfl) _ _ _ rfl R6 (U6) rfl rfl z6 ([m.p2]) HR6.out HU6.out (by rw [HL6.out]; exact Nat.le_of_ble_eq_true rfl) R7 (by rw [HZ7.out]; exact HR7.out)) hHeld ?_
  try simp only [Act.put, List.setIfInBounds_toArray, List.set_cons_zero, List.set_cons_succ]
  refine wpAnyH_take (i := 29) (v := .string R7) (at_list rfl) (by kernel_rfl) (by kernel_rfl) (by kernel_rfl) (fun _ _ _ h => h) (Or.inl ⟨by rfl, ?_⟩) hHeld ?_
  · intro v hSv
    clear hHeld
    go_simp
  try simp only [Act.put, List.setIfInBounds_toArray, List.set_cons_zero, List.set_cons_succ]
  refine wpAnyH_done (by kernel_rfl) ?_ _
  have HB := Lib.hid hHeld.1
  have K1 := Lib.hid hHeld.2.1
  have BA := Lib.hid hHeld.2.2.1
  have BT := Lib.hid hHeld.2.2.2.1
  have K3 := Lib.hid hHeld.2.2.2.2.1
  clear hHeld
  have HZL := HL7
  have hR7 := HR7.out
  subst hR7
  clear HR0 HL0 HR1 HL1 HR2 HL2 HR3 HL3 HR4 HL4 HR5 HL5 HR6 HL6 HR7
  go_wp2_with fail
  go_loopw [8, 12] (fun s i v => ∃ k : Nat, k ≤ 8 ∧ i = .int .i64 k ∧ s = .string (strOfNums (z7 ++ m.gr.l.take k)) ∧ Holds v gK1 44 (msA m) ∧ Holds v gK3 42 (setA m) ∧ Below w.heap.size w v) (fun _ i _ => 8 - (intOf i).toNat)
  case atStart => exact ⟨0, by omega, rfl, by simp, K1.out, K3.out, HB.out⟩
  case round =>
    obtain ⟨k, hk, rfl, rfl, hk1, hk3, hkb⟩ := hrel
    have K1 := Lib.hid hk1
    have K3 := Lib.hid hk3
    have HB := Lib.hid hkb
    clear hk1 hk3 hkb
    by_cases hlt : k < 8
    · have hcell := gr_cell K3.out hlt
      have hzb := ck_byte HG.out hlt
      obtain ⟨z, hz⟩ : ∃ z, m.gr.l.getD k 0 = z := ⟨_, rfl⟩
      have HZ := Lib.hid (take_succ_gr m.gr hlt)
      rw [hz] at hcell hzb HZ
      clear hz
      obtain ⟨z0, z1⟩ := hzb
      go_wp2_with fail
      refine (rone6_any z _ z0 z1).mono ?_
      rintro e wr ⟨rfl, hwr⟩
      clear hcell
      replace K1 := Lib.hid ((K1.out).keptB hwr)
      replace K3 := Lib.hid ((K3.out).keptB hwr)
      replace HB := Lib.hid (bstep HB.out hwr)
      clear hwr
      go_wp2_with (refine big_add rfl _ _ _ rfl (z7 ++ m.gr.l.take k) [z] rfl rfl (by have := HZL.out; simp [Ck.l]; omega) ?_)
      go_roundw
      case rel => exact ⟨k + 1, by omega, by go_num, (by rw [HZ.out]; first | done | rfl | rw [List.append_assoc]), K1.out, K3.out, HB.out⟩
      case measure => simp [intOf]; omega
    · have hk8 : k = 8 := by omega
      subst hk8
      obtain ⟨y8, hy8⟩ : ∃ z, z7 ++ m.gr.l.take 8 = z := ⟨_, rfl⟩
      obtain ⟨y9, hy9⟩ : ∃ z, y8 ++ beL 2 m.st = z := ⟨_, rfl⟩
      obtain ⟨y10, hy10⟩ : ∃ z, y9 ++ [m.src] = z := ⟨_, rfl⟩
      obtain ⟨R8, hR8⟩ : ∃ s, strOfNums y8 = s := ⟨_, rfl⟩
      obtain ⟨R9, hR9⟩ : ∃ s, strOfNums y9 = s := ⟨_, rfl⟩
      obtain ⟨R10, hR10⟩ : ∃ s, strOfNums y10 = s := ⟨_, rfl⟩
      obtain ⟨U7, hU7⟩ : ∃ s, strOfNums (beL 2 m.st) = s := ⟨_, rfl⟩
      obtain ⟨U8, hU8⟩ : ∃ s, strOfNums [m.src] = s := ⟨_, rfl⟩
      have hl8 : y8.length = 61 := by rw [← hy8, List.length_append, HZL.out]; rfl
      have hl9 : y9.length = 63 := by rw [← hy9, List.length_append, hl8, beL_length]
      have HEQ : Hid (strOfNums (encM m) = R10) := by rw [Hid, ← HE.out, ← hR10, ← hy10, ← hy9, ← hy8]; rfl
      rw [hy8, hR8]
      have HY9 := Lib.hid hy9
      have HY10 := Lib.hid hy10
      have HR8 := Lib.hid hR8
      have HR9 := Lib.hid hR9
      have HR10 := Lib.hid hR10
      have HU7 := Lib.hid hU7
      have HU8 := Lib.hid hU8
      have HL8 := Lib.hid hl8
      have HL9 := Lib.hid hl9
      clear hy8 hy9 hy10 hR8 hR9 hR10 hU7 hU8 hl8 hl9
      go_upto_region 16 with fail
      refine wp_region_held_drew (S := fun v => Below w.heap.size w v ∧ Holds v gK1 44 (msA m) ∧ Holds v gK3 42 (setA m) ∧ True) (by kernel_rfl) ?_ (fun hHeld => ?_)
      · exact ⟨bdrew HB.out, (K1.out).drew, (K3.out).drew, trivial⟩
      clear HB K1 K3
      refine wpAnyH_take (i := 0) (v := .string R8) (at_list rfl) (by kernel_rfl) (by kernel_rfl) (by kernel_rfl) (fun _ _ _ h => h) (Or.inl ⟨by rfl, ?_⟩) hHeld ?_
      · intro v hSv
        clear hHeld
        go_simp
      try simp only [Act.put, List.setIfInBounds_toArray, List.set_cons_zero, List.set_cons_succ]
      refine wpAnyH_take (i := 1) (v := .pointer (some ⟨gK3, 13, none⟩)) (at_list rfl) (by kernel_rfl) (by kernel_rfl) (by kernel_rfl) (fun _ _ _ h => h) (Or.inl ⟨by rfl, ?_⟩) hHeld ?_
      · intro v hSv
        clear hHeld
        go_simp
      try simp only [Act.put, List.setIfInBounds_toArray, List.set_cons_zero, List.set_cons_succ]
      refine wpAnyH_take (i := 2) (v := .int .i64 m.st) (at_list rfl) (by kernel_rfl) (by kernel_rfl) (by kernel_rfl) (fun _ _ _ h => h) (Or.inl ⟨by rfl, ?_⟩) hHeld ?_
      · intro v hSv
        clear hHeld
        have q := hSv.2.2.1.reads (i := 13) (x := .int .i64 m.st) rfl
        clear hSv
        go_simp
      try simp only [Act.put, List.setIfInBounds_toArray, List.set_cons_zero, List.set_cons_succ]
      refine wpAnyH_take (i := 5) (v := .pointer (some ⟨gK1, 59, none⟩)) (at_list rfl) (by kernel_rfl) (by kernel_rfl) (by kernel_rfl) (fun _ _ _ h => h) (Or.inl ⟨by rfl, ?_⟩) hHeld ?_
      · intro v hSv
        clear hHeld
        go_simp
      try simp only [Act.put, List.setIfInBounds_toArray, List.set_cons_zero, List.set_cons_succ]
      refine wpAnyH_take (i := 6) (v := .int .i64 m.src) (at_list rfl) (by kernel_rfl) (by kernel_rfl) (by kernel_rfl) (fun _ _ _ h => h) (Or.inl ⟨by rfl, ?_⟩) hHeld ?_
      · intro v hSv
        clear hHeld
        have q := hSv.2.1.reads (i := 59) (x := .int .i64 m.src) rfl
        clear hSv
        go_simp
      try simp only [Act.put, List.setIfInBounds_toArray, List.set_cons_zero, List.set_cons_succ]
      refine wpAnyH_ready (rs := [3]) (by kernel_rfl) (by simp) ?_
      refine AllReadyH.cons (at_list rfl) (fun K hK => ?_) AllReadyH.nil
      go_simp
      refine (rtwo6_any m.st _ (Int.le_trans (by decide) ST.out.1) ST.out.2).mono ?_
      rintro e v1 ⟨rfl, hv1⟩
      rw [HU7.out]
      go_wp2_with fail
      refine hK.out _ _ ?_ (fun hHeld2 => ?_)
      · exact ⟨bstep hHeld.1 hv1, hHeld.2.1.keptB hv1, hHeld.2.2.1.keptB hv1, trivial⟩
      clear hK K hHeld
      have hHeld := hHeld2
      clear hHeld2 hv1
      try simp only [Act.put, List.setIfInBounds_toArray, List.set_cons_zero, List.set_cons_succ]
      refine wpAnyH_take (i := 4) (v := .string R9) (at_list rfl) (by kernel_rfl) (by kernel_rfl) (by kernel_rfl) (fun _ _ _ h => h) (yields_addL (by rfl) _ _ _ rfl R8 U7 rfl rfl y8 (beL 2 m.st) HR8.out HU7.out (by rw [HL8.out]; exact Nat.le_of_ble_eq_true rfl) R9 (by rw [HY9.out]; exact HR9.out)) hHeld ?_
      try simp only [Act.put, List.setIfInBounds_toArray, List.set_cons_zero, List.set_cons_succ]
      refine wpAnyH_ready (rs := [7]) (by kernel_rfl) (by simp) ?_
      refine AllReadyH.cons (at_list rfl) (fun K hK => ?_) AllReadyH.nil
      go_simp
      refine (rone6_any m.src _ HSR.out.1 HSR.out.2).mono ?_
      rintro e v2 ⟨rfl, hv2⟩
      rw [HU8.out]
      go_wp2_with fail
      refine hK.out _ _ ?_ (fun hHeld2 => ?_)
      · exact ⟨bstep hHeld.1 hv2, hHeld.2.1.keptB hv2, hHeld.2.2.1.keptB hv2, trivial⟩
      clear hK K hHeld
      have hHeld := hHeld2
      clear hHeld2 hv2
      try simp only [Act.put, List.setIfInBounds_toArray, List.set_cons_zero, List.set_cons_succ]
      refine wpAnyH_take (i := 8) (v := .string R10) (at_list rfl) (by kernel_rfl) (by kernel_rfl) (by kernel_rfl) (fun _ _ _ h => h) (yields_addL (by rfl) _ _ _ rfl R9 U8 rfl rfl y9 ([m.src]) HR9.out HU8.out (by rw [HL9.out]; exact Nat.le_of_ble_eq_true rfl) R10 (by rw [HY10.out]; exact HR10.out)) hHeld ?_
      try simp only [Act.put, List.setIfInBounds_toArray, List.set_cons_zero, List.set_cons_succ]
      refine wpAnyH_take (i := 9) (v := .string R10) (at_list rfl) (by kernel_rfl) (by kernel_rfl) (by kernel_rfl) (fun _ _ _ h => h) (Or.inl ⟨by rfl, ?_⟩) hHeld ?_
      · intro v hSv
        clear hHeld
        go_simp
      try simp only [Act.put, List.setIfInBounds_toArray, List.set_cons_zero, List.set_cons_succ]
      refine wpAnyH_done (by kernel_rfl) ?_ _
      have HB := Lib.hid hHeld.1
      have K1 := Lib.hid hHeld.2.1
      have K3 := Lib.hid hHeld.2.2.1
      clear hHeld
      go_wp2_with ((refine big_tobytes rfl _ rfl (encM m) HMB.out _ HN.out (by rw [HEQ.out]; rfl) ?_; intro gZ capZ wZ hlZ nZ hbZ; have BZ := Lib.hid nZ; replace HB := Lib.hid (bstep HB.out hbZ); clear hlZ nZ hbZ))
      go_ret2
      refine ⟨gZ, capZ, ?_, BZ.out, HB.out⟩
      rw [HN.out]
      rfl
theorem renc6_yes (m : Ms) (w : World) (hr : m.right = true) (o1 : m.h.p.c.ok) (o2 : m.ak.c.ok) (o3 : m.gr.ok) : Calls Tryd.prog 11 #[.agg (msA m)] w (REncYes (encM m) w) := by
  by_cases h9 : m.h.t = 9
  · exact renc6_9 m w hr o1 o2 o3 h9
  · by_cases h11 : m.h.t = 11
    · exact renc6_11 m w hr o1 o2 o3 h9 h11
    · exact renc6_0 m w hr o1 o2 o3 h9 h11

end Go.Proofs.YtifhjmhekapaoaaDoor
