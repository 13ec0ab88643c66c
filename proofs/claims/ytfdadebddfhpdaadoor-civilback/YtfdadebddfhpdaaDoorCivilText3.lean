/- The walks over civil's Text and the reference's. -/
import Derived.Test.YtfdadebddfhpdaaDoorCivilText2
import Derived.Test.YtfdadebddfhpdaaDoorCivilPlain2
import Derived.Deep.Light
namespace Go.Proofs.YtfdadebddfhpdaaDoor
set_option maxRecDepth 100000
open Go.RowKit
set_option linter.unusedVariables false
set_option linter.unusedSimpArgs false

/-- the parts of a label's text -/
def strT (l : Lb) : Nat → ByteArray
  | 8 => strOfNums (dgL 4 l.y)
  | 9 => strOfNums (dgL 4 l.y ++ [45])
  | 12 => strOfNums (dgL 2 l.m)
  | 13 => strOfNums (dgL 4 l.y ++ [45] ++ dgL 2 l.m)
  | 14 => strOfNums (dgL 4 l.y ++ [45] ++ dgL 2 l.m ++ [45])
  | 17 => strOfNums (dgL 2 l.d)
  | 18 => strOfNums (dgL 4 l.y ++ [45] ++ dgL 2 l.m ++ [45] ++ dgL 2 l.d)
  | 19 => strOfNums (dgL 4 l.y ++ [45] ++ dgL 2 l.m ++ [45] ++ dgL 2 l.d ++ [84])
  | 22 => strOfNums (dgL 2 l.hh)
  | 23 => strOfNums (dgL 4 l.y ++ [45] ++ dgL 2 l.m ++ [45] ++ dgL 2 l.d ++ [84] ++ dgL 2 l.hh)
  | 24 => strOfNums (dgL 4 l.y ++ [45] ++ dgL 2 l.m ++ [45] ++ dgL 2 l.d ++ [84] ++ dgL 2 l.hh ++ [58])
  | 27 => strOfNums (dgL 2 l.mi)
  | 28 => strOfNums (dgL 4 l.y ++ [45] ++ dgL 2 l.m ++ [45] ++ dgL 2 l.d ++ [84] ++ dgL 2 l.hh ++ [58] ++ dgL 2 l.mi)
  | 29 => strOfNums (dgL 4 l.y ++ [45] ++ dgL 2 l.m ++ [45] ++ dgL 2 l.d ++ [84] ++ dgL 2 l.hh ++ [58] ++ dgL 2 l.mi ++ [58])
  | 32 => strOfNums (dgL 2 l.se)
  | 33 => strOfNums (dgL 4 l.y ++ [45] ++ dgL 2 l.m ++ [45] ++ dgL 2 l.d ++ [84] ++ dgL 2 l.hh ++ [58] ++ dgL 2 l.mi ++ [58] ++ dgL 2 l.se)
  | _ => ByteArray.empty
/-- what each operation yields -/
def PhiTp (l : Lb) (BK : Nat) (s : Nat → ByteArray) : Nat → World → Value → Prop
  | 0, _, x => x = .pointer (some ⟨BK, 0, none⟩)
  | 1, _, x => x = .int .i64 l.y
  | 2, _, x => x = .string (s 8)
  | 3, _, x => x = .string (s 9)
  | 4, _, x => x = .pointer (some ⟨BK, 1, none⟩)
  | 5, _, x => x = .int .i64 l.m
  | 6, _, x => x = .string (s 12)
  | 7, _, x => x = .string (s 13)
  | 8, _, x => x = .string (s 14)
  | 9, _, x => x = .pointer (some ⟨BK, 2, none⟩)
  | 10, _, x => x = .int .i64 l.d
  | 11, _, x => x = .string (s 17)
  | 12, _, x => x = .string (s 18)
  | 13, _, x => x = .string (s 19)
  | 14, _, x => x = .pointer (some ⟨BK, 3, none⟩)
  | 15, _, x => x = .int .i64 l.hh
  | 16, _, x => x = .string (s 22)
  | 17, _, x => x = .string (s 23)
  | 18, _, x => x = .string (s 24)
  | 19, _, x => x = .pointer (some ⟨BK, 4, none⟩)
  | 20, _, x => x = .int .i64 l.mi
  | 21, _, x => x = .string (s 27)
  | 22, _, x => x = .string (s 28)
  | 23, _, x => x = .string (s 29)
  | 24, _, x => x = .pointer (some ⟨BK, 5, none⟩)
  | 25, _, x => x = .int .i64 l.se
  | 26, _, x => x = .string (s 32)
  | 27, _, x => x = .string (s 33)
  | 28, _, x => x = .string (s 33)
  | _, _, _ => True
theorem PhiTp_keep {l : Lb} {BK : Nat} {s : Nat → ByteArray} (i : Nat) (w w' : World) (x : Value) (hb : Below w.heap.size w w') (hp : PhiTp l BK s i w x) : PhiTp l BK s i w' x := by
  match i, hp with
  | 0, hp => exact hp
  | 1, hp => exact hp
  | 2, hp => exact hp
  | 3, hp => exact hp
  | 4, hp => exact hp
  | 5, hp => exact hp
  | 6, hp => exact hp
  | 7, hp => exact hp
  | 8, hp => exact hp
  | 9, hp => exact hp
  | 10, hp => exact hp
  | 11, hp => exact hp
  | 12, hp => exact hp
  | 13, hp => exact hp
  | 14, hp => exact hp
  | 15, hp => exact hp
  | 16, hp => exact hp
  | 17, hp => exact hp
  | 18, hp => exact hp
  | 19, hp => exact hp
  | 20, hp => exact hp
  | 21, hp => exact hp
  | 22, hp => exact hp
  | 23, hp => exact hp
  | 24, hp => exact hp
  | 25, hp => exact hp
  | 26, hp => exact hp
  | 27, hp => exact hp
  | 28, hp => exact hp
  | n + 29, hp => trivial
def GTp (l : Lb) (BK : Nat) (w0 w : World) : Prop := Holds w BK 34 (lbA l) ∧ Below w0.heap.size w0 w
theorem GTp_keep {l : Lb} {BK : Nat} {w0 : World} (w w' : World) (hb : Below w.heap.size w w') (hg : GTp l BK w0 w) : GTp l BK w0 w' := ⟨hg.1.keptB hb, bstep hg.2 hb⟩

set_option maxRecDepth 100000 in
set_option maxHeartbeats 4000000 in
theorem ptext15_any (l : Lb) (w : World) (hT : Tabs w) :
    Calls Tryd.prog 30 #[.agg (lbA l)] w fun e w' => e = .returned (.string (strOfNums (txL l))) ∧ Below w.heap.size w w' := by
  have HB := Lib.hid (Below.refl w.heap.size w)
  have HT := Lib.hid hT
  clear hT
  rcases Bool.eq_false_or_eq_true (lbB l) with hl | hl
  · have HX : Hid (strOfNums (txL l) = strOfNums (textL l)) := by unfold txL; rw [Hid, hl]; rfl
    obtain ⟨hd, t0, t1, t2, t3, t4, t5⟩ := lb_bd hl
    obtain ⟨⟨y0, y1⟩, ⟨m0, m1⟩, d0, d1⟩ := dayB_iff.1 hd
    have d2 : l.d ≤ 31 := by have := (monN_bd l.y l.m).2; omega
    obtain ⟨s, hs⟩ : ∃ s, strT l = s := ⟨_, rfl⟩
    have HS8 : Hid (s 8 = strOfNums (dgL 4 l.y)) := by rw [Hid, ← hs]; rfl
    have HS9 : Hid (s 9 = strOfNums (dgL 4 l.y ++ [45])) := by rw [Hid, ← hs]; rfl
    have HS12 : Hid (s 12 = strOfNums (dgL 2 l.m)) := by rw [Hid, ← hs]; rfl
    have HS13 : Hid (s 13 = strOfNums (dgL 4 l.y ++ [45] ++ dgL 2 l.m)) := by rw [Hid, ← hs]; rfl
    have HS14 : Hid (s 14 = strOfNums (dgL 4 l.y ++ [45] ++ dgL 2 l.m ++ [45])) := by rw [Hid, ← hs]; rfl
    have HS17 : Hid (s 17 = strOfNums (dgL 2 l.d)) := by rw [Hid, ← hs]; rfl
    have HS18 : Hid (s 18 = strOfNums (dgL 4 l.y ++ [45] ++ dgL 2 l.m ++ [45] ++ dgL 2 l.d)) := by rw [Hid, ← hs]; rfl
    have HS19 : Hid (s 19 = strOfNums (dgL 4 l.y ++ [45] ++ dgL 2 l.m ++ [45] ++ dgL 2 l.d ++ [84])) := by rw [Hid, ← hs]; rfl
    have HS22 : Hid (s 22 = strOfNums (dgL 2 l.hh)) := by rw [Hid, ← hs]; rfl
    have HS23 : Hid (s 23 = strOfNums (dgL 4 l.y ++ [45] ++ dgL 2 l.m ++ [45] ++ dgL 2 l.d ++ [84] ++ dgL 2 l.hh)) := by rw [Hid, ← hs]; rfl
    have HS24 : Hid (s 24 = strOfNums (dgL 4 l.y ++ [45] ++ dgL 2 l.m ++ [45] ++ dgL 2 l.d ++ [84] ++ dgL 2 l.hh ++ [58])) := by rw [Hid, ← hs]; rfl
    have HS27 : Hid (s 27 = strOfNums (dgL 2 l.mi)) := by rw [Hid, ← hs]; rfl
    have HS28 : Hid (s 28 = strOfNums (dgL 4 l.y ++ [45] ++ dgL 2 l.m ++ [45] ++ dgL 2 l.d ++ [84] ++ dgL 2 l.hh ++ [58] ++ dgL 2 l.mi)) := by rw [Hid, ← hs]; rfl
    have HS29 : Hid (s 29 = strOfNums (dgL 4 l.y ++ [45] ++ dgL 2 l.m ++ [45] ++ dgL 2 l.d ++ [84] ++ dgL 2 l.hh ++ [58] ++ dgL 2 l.mi ++ [58])) := by rw [Hid, ← hs]; rfl
    have HS32 : Hid (s 32 = strOfNums (dgL 2 l.se)) := by rw [Hid, ← hs]; rfl
    have HS33 : Hid (s 33 = strOfNums (dgL 4 l.y ++ [45] ++ dgL 2 l.m ++ [45] ++ dgL 2 l.d ++ [84] ++ dgL 2 l.hh ++ [58] ++ dgL 2 l.mi ++ [58] ++ dgL 2 l.se)) := by rw [Hid, ← hs]; rfl
    have A9 : Hid (∀ w, (Op.stringOp .add (s 8) ({ data := #[45] })).run Tryd.prog w = .ok (.string (s 9)) w) := by
      intro w
      rw [HS8.out, HS9.out]
      exact add_str _ [45] (by simp [dgL_length]) w
    have A13 : Hid (∀ w, (Op.stringOp .add (s 9) (s 12)).run Tryd.prog w = .ok (.string (s 13)) w) := by
      intro w
      rw [HS9.out, HS13.out, HS12.out]
      exact add_str _ _ (by simp [dgL_length]) w
    have A14 : Hid (∀ w, (Op.stringOp .add (s 13) ({ data := #[45] })).run Tryd.prog w = .ok (.string (s 14)) w) := by
      intro w
      rw [HS13.out, HS14.out]
      exact add_str _ [45] (by simp [dgL_length]) w
    have A18 : Hid (∀ w, (Op.stringOp .add (s 14) (s 17)).run Tryd.prog w = .ok (.string (s 18)) w) := by
      intro w
      rw [HS14.out, HS18.out, HS17.out]
      exact add_str _ _ (by simp [dgL_length]) w
    have A19 : Hid (∀ w, (Op.stringOp .add (s 18) ({ data := #[84] })).run Tryd.prog w = .ok (.string (s 19)) w) := by
      intro w
      rw [HS18.out, HS19.out]
      exact add_str _ [84] (by simp [dgL_length]) w
    have A23 : Hid (∀ w, (Op.stringOp .add (s 19) (s 22)).run Tryd.prog w = .ok (.string (s 23)) w) := by
      intro w
      rw [HS19.out, HS23.out, HS22.out]
      exact add_str _ _ (by simp [dgL_length]) w
    have A24 : Hid (∀ w, (Op.stringOp .add (s 23) ({ data := #[58] })).run Tryd.prog w = .ok (.string (s 24)) w) := by
      intro w
      rw [HS23.out, HS24.out]
      exact add_str _ [58] (by simp [dgL_length]) w
    have A28 : Hid (∀ w, (Op.stringOp .add (s 24) (s 27)).run Tryd.prog w = .ok (.string (s 28)) w) := by
      intro w
      rw [HS24.out, HS28.out, HS27.out]
      exact add_str _ _ (by simp [dgL_length]) w
    have A29 : Hid (∀ w, (Op.stringOp .add (s 28) ({ data := #[58] })).run Tryd.prog w = .ok (.string (s 29)) w) := by
      intro w
      rw [HS28.out, HS29.out]
      exact add_str _ [58] (by simp [dgL_length]) w
    have A33 : Hid (∀ w, (Op.stringOp .add (s 29) (s 32)).run Tryd.prog w = .ok (.string (s 33)) w) := by
      intro w
      rw [HS29.out, HS33.out, HS32.out]
      exact add_str _ _ (by simp [dgL_length]) w
    have HE : Hid (s 33 = strOfNums (textL l)) := by rw [Hid, ← hs]; rfl
    have C8 : Hid (∀ v, Tabs v → Calls Tryd.prog 39 #[.int .i64 l.y] v fun e w' => e = .returned (.string (s 8)) ∧ Below v.heap.size v w') := by rw [HS8.out]; exact fun v hv => pitoa15_year l.y v hv (by omega) (by omega)
    have C12 : Hid (∀ v, Calls Tryd.prog 40 #[.int .i64 l.m] v fun e w' => e = .returned (.string (s 12)) ∧ v = w') := by rw [HS12.out]; exact fun v => ptwo15_any l.m v (by omega) (by omega)
    have C17 : Hid (∀ v, Calls Tryd.prog 40 #[.int .i64 l.d] v fun e w' => e = .returned (.string (s 17)) ∧ v = w') := by rw [HS17.out]; exact fun v => ptwo15_any l.d v (by omega) (by omega)
    have C22 : Hid (∀ v, Calls Tryd.prog 40 #[.int .i64 l.hh] v fun e w' => e = .returned (.string (s 22)) ∧ v = w') := by rw [HS22.out]; exact fun v => ptwo15_any l.hh v (by omega) (by omega)
    have C27 : Hid (∀ v, Calls Tryd.prog 40 #[.int .i64 l.mi] v fun e w' => e = .returned (.string (s 27)) ∧ v = w') := by rw [HS27.out]; exact fun v => ptwo15_any l.mi v (by omega) (by omega)
    have C32 : Hid (∀ v, Calls Tryd.prog 40 #[.int .i64 l.se] v fun e w' => e = .returned (.string (s 32)) ∧ v = w') := by rw [HS32.out]; exact fun v => ptwo15_any l.se v (by omega) (by omega)
    have HL := Lib.hid hl
    clear hs hl hd t0 t1 t2 t3 t4 t5 y0 y1 m0 m1 d0 d1 d2
    go_enter Tryd.func30, Tryd.ntmps30
    go_upto_region 1 with ((refine big_box rfl 34 _ rfl (lbA l) rfl (by kernel_rfl) ?_; intro gK1 wK1 hlK1 nK1 hbK1; have K1 := Lib.hid nK1; have LK1 := Lib.hid (Nat.le_trans (HB.out).size hlK1); replace HB := Lib.hid (bstep HB.out hbK1); clear hlK1 nK1 hbK1; try simp only [Act.put, List.setIfInBounds_toArray, List.set_cons_zero, List.set_cons_succ]))
    go_wp2_with ((refine big_whole rfl 34 _ rfl gK1 rfl K1.out Tryd.underlying34 rfl (by kernel_rfl) ?_; try simp only [Act.put, List.setIfInBounds_toArray, List.set_cons_zero, List.set_cons_succ]))
    refine (pright15_any l _ ((HT.out).mons.keptB HB.out)).mono ?_
    rintro e c1 ⟨rfl, hc1⟩
    replace K1 := Lib.hid ((K1.out).keptB hc1)
    replace HB := Lib.hid (bstep HB.out hc1)
    clear hc1
    rw [HL.out]
    go_upto_region 3 with fail
    refine region_free' [some 6, some 7, some 8, some 9, some 10, some 11, some 12, some 13, some 14, some 15, some 16, some 17, some 18, some 19, some 20, some 21, some 22, some 23, some 24, some 25, some 26, some 27, some 28, some 29, some 30, some 31, some 32, some 33, some 2] (PhiTp l gK1 s) (GTp l gK1 w) (by kernel_rfl) (by kernel_rfl) (by kernel_rfl) (by kernel_rfl) (by kernel_rfl) PhiTp_keep GTp_keep ⟨(K1.out).drew, bdrew HB.out⟩ ?_ ?_
    · refine ⟨?_, ?_, ?_, ?_, ?_, ?_, ?_, ?_, ?_, ?_, ?_, ?_, ?_, ?_, ?_, ?_, ?_, ?_, ?_, ?_, ?_, ?_, ?_, ?_, ?_, ?_, ?_, ?_, ?_, trivial⟩
      · as_aux_lemma =>
          -- 0
          intro ac u hG hk K hK
          have hco : ∀ c, ac.eval (.const c) = c := fun _ => rfl
          have hfu : ∀ f, ac.eval (.func f) = .func (.func f) #[] #[] := fun _ => rfl
          have hgl : ∀ g, ac.eval (.global g) = .pointer (some ⟨g, 0, none⟩) := fun _ => rfl
          have h1 : ac.eval (.tmp 1) = .pointer (some ⟨gK1, 0, none⟩) := hk.old 1 (by kernel_rfl)
          refine wp_of_run (x := .pointer (some ⟨gK1, 0, none⟩)) (w' := u) ?_ (hK _ _ rfl (Below.refl _ _))
          clear hk hK
          go_light
          generalize ac.eval = ρ at *
          go_simp
      · as_aux_lemma =>
          -- 1
          intro ac u hG hk K hK
          have hco : ∀ c, ac.eval (.const c) = c := fun _ => rfl
          have hfu : ∀ f, ac.eval (.func f) = .func (.func f) #[] #[] := fun _ => rfl
          have hgl : ∀ g, ac.eval (.global g) = .pointer (some ⟨g, 0, none⟩) := fun _ => rfl
          have h6 := hk.new 0 6 rfl (by kernel_rfl)
          replace h6 : ac.eval (.tmp 6) = .pointer (some ⟨gK1, 0, none⟩) := h6
          have c := hG.1.reads (i := 0) (x := .int .i64 l.y) rfl
          refine wp_of_run (x := .int .i64 l.y) (w' := u) ?_ (hK _ _ rfl (Below.refl _ _))
          clear hk hK
          go_light
          generalize ac.eval = ρ at *
          go_simp
      · as_aux_lemma =>
          -- 2
          intro ac u hG hk K hK
          have hco : ∀ c, ac.eval (.const c) = c := fun _ => rfl
          have hfu : ∀ f, ac.eval (.func f) = .func (.func f) #[] #[] := fun _ => rfl
          have hgl : ∀ g, ac.eval (.global g) = .pointer (some ⟨g, 0, none⟩) := fun _ => rfl
          have h7 := hk.new 1 7 rfl (by kernel_rfl)
          replace h7 : ac.eval (.tmp 7) = .int .i64 l.y := h7
          refine wp_of_call (f := 39) (args := #[.int .i64 l.y]) ?_ ?_
          · clear hk hK
            go_light
            generalize ac.eval = ρ at *
            go_simp
          · refine (C8.out _ ((HT.out).keptB hG.2)).mono ?_
            rintro e w1 ⟨rfl, hb1⟩
            exact ⟨_, rfl, hK _ _ rfl hb1⟩
      · as_aux_lemma =>
          -- 3
          intro ac u hG hk K hK
          have hco : ∀ c, ac.eval (.const c) = c := fun _ => rfl
          have hfu : ∀ f, ac.eval (.func f) = .func (.func f) #[] #[] := fun _ => rfl
          have hgl : ∀ g, ac.eval (.global g) = .pointer (some ⟨g, 0, none⟩) := fun _ => rfl
          have h8 := hk.new 2 8 rfl (by kernel_rfl)
          replace h8 : ac.eval (.tmp 8) = .string (s 8) := h8
          have hadd := A9.out
          refine wp_of_run (x := .string (s 9)) (w' := u) ?_ (hK _ _ rfl (Below.refl _ _))
          clear hk hK
          go_light
          generalize ac.eval = ρ at *
          go_simp
      · as_aux_lemma =>
          -- 4
          intro ac u hG hk K hK
          have hco : ∀ c, ac.eval (.const c) = c := fun _ => rfl
          have hfu : ∀ f, ac.eval (.func f) = .func (.func f) #[] #[] := fun _ => rfl
          have hgl : ∀ g, ac.eval (.global g) = .pointer (some ⟨g, 0, none⟩) := fun _ => rfl
          have h1 : ac.eval (.tmp 1) = .pointer (some ⟨gK1, 0, none⟩) := hk.old 1 (by kernel_rfl)
          refine wp_of_run (x := .pointer (some ⟨gK1, 1, none⟩)) (w' := u) ?_ (hK _ _ rfl (Below.refl _ _))
          clear hk hK
          go_light
          generalize ac.eval = ρ at *
          go_simp
      · as_aux_lemma =>
          -- 5
          intro ac u hG hk K hK
          have hco : ∀ c, ac.eval (.const c) = c := fun _ => rfl
          have hfu : ∀ f, ac.eval (.func f) = .func (.func f) #[] #[] := fun _ => rfl
          have hgl : ∀ g, ac.eval (.global g) = .pointer (some ⟨g, 0, none⟩) := fun _ => rfl
          have h10 := hk.new 4 10 rfl (by kernel_rfl)
          replace h10 : ac.eval (.tmp 10) = .pointer (some ⟨gK1, 1, none⟩) := h10
          have c := hG.1.reads (i := 1) (x := .int .i64 l.m) rfl
          refine wp_of_run (x := .int .i64 l.m) (w' := u) ?_ (hK _ _ rfl (Below.refl _ _))
          clear hk hK
          go_light
          generalize ac.eval = ρ at *
          go_simp
      · as_aux_lemma =>
          -- 6
          intro ac u hG hk K hK
          have hco : ∀ c, ac.eval (.const c) = c := fun _ => rfl
          have hfu : ∀ f, ac.eval (.func f) = .func (.func f) #[] #[] := fun _ => rfl
          have hgl : ∀ g, ac.eval (.global g) = .pointer (some ⟨g, 0, none⟩) := fun _ => rfl
          have h11 := hk.new 5 11 rfl (by kernel_rfl)
          replace h11 : ac.eval (.tmp 11) = .int .i64 l.m := h11
          refine wp_of_call (f := 40) (args := #[.int .i64 l.m]) ?_ ?_
          · clear hk hK
            go_light
            generalize ac.eval = ρ at *
            go_simp
          · refine (C12.out _).mono ?_
            rintro e w1 ⟨rfl, hb1⟩
            exact ⟨_, rfl, hK _ _ rfl (by rw [hb1]; exact Below.refl _ _)⟩
      · as_aux_lemma =>
          -- 7
          intro ac u hG hk K hK
          have hco : ∀ c, ac.eval (.const c) = c := fun _ => rfl
          have hfu : ∀ f, ac.eval (.func f) = .func (.func f) #[] #[] := fun _ => rfl
          have hgl : ∀ g, ac.eval (.global g) = .pointer (some ⟨g, 0, none⟩) := fun _ => rfl
          have h9 := hk.new 3 9 rfl (by kernel_rfl)
          replace h9 : ac.eval (.tmp 9) = .string (s 9) := h9
          have h12 := hk.new 6 12 rfl (by kernel_rfl)
          replace h12 : ac.eval (.tmp 12) = .string (s 12) := h12
          have hadd := A13.out
          refine wp_of_run (x := .string (s 13)) (w' := u) ?_ (hK _ _ rfl (Below.refl _ _))
          clear hk hK
          go_light
          generalize ac.eval = ρ at *
          go_simp
      · as_aux_lemma =>
          -- 8
          intro ac u hG hk K hK
          have hco : ∀ c, ac.eval (.const c) = c := fun _ => rfl
          have hfu : ∀ f, ac.eval (.func f) = .func (.func f) #[] #[] := fun _ => rfl
          have hgl : ∀ g, ac.eval (.global g) = .pointer (some ⟨g, 0, none⟩) := fun _ => rfl
          have h13 := hk.new 7 13 rfl (by kernel_rfl)
          replace h13 : ac.eval (.tmp 13) = .string (s 13) := h13
          have hadd := A14.out
          refine wp_of_run (x := .string (s 14)) (w' := u) ?_ (hK _ _ rfl (Below.refl _ _))
          clear hk hK
          go_light
          generalize ac.eval = ρ at *
          go_simp
      · as_aux_lemma =>
          -- 9
          intro ac u hG hk K hK
          have hco : ∀ c, ac.eval (.const c) = c := fun _ => rfl
          have hfu : ∀ f, ac.eval (.func f) = .func (.func f) #[] #[] := fun _ => rfl
          have hgl : ∀ g, ac.eval (.global g) = .pointer (some ⟨g, 0, none⟩) := fun _ => rfl
          have h1 : ac.eval (.tmp 1) = .pointer (some ⟨gK1, 0, none⟩) := hk.old 1 (by kernel_rfl)
          refine wp_of_run (x := .pointer (some ⟨gK1, 2, none⟩)) (w' := u) ?_ (hK _ _ rfl (Below.refl _ _))
          clear hk hK
          go_light
          generalize ac.eval = ρ at *
          go_simp
      · as_aux_lemma =>
          -- 10
          intro ac u hG hk K hK
          have hco : ∀ c, ac.eval (.const c) = c := fun _ => rfl
          have hfu : ∀ f, ac.eval (.func f) = .func (.func f) #[] #[] := fun _ => rfl
          have hgl : ∀ g, ac.eval (.global g) = .pointer (some ⟨g, 0, none⟩) := fun _ => rfl
          have h15 := hk.new 9 15 rfl (by kernel_rfl)
          replace h15 : ac.eval (.tmp 15) = .pointer (some ⟨gK1, 2, none⟩) := h15
          have c := hG.1.reads (i := 2) (x := .int .i64 l.d) rfl
          refine wp_of_run (x := .int .i64 l.d) (w' := u) ?_ (hK _ _ rfl (Below.refl _ _))
          clear hk hK
          go_light
          generalize ac.eval = ρ at *
          go_simp
      · as_aux_lemma =>
          -- 11
          intro ac u hG hk K hK
          have hco : ∀ c, ac.eval (.const c) = c := fun _ => rfl
          have hfu : ∀ f, ac.eval (.func f) = .func (.func f) #[] #[] := fun _ => rfl
          have hgl : ∀ g, ac.eval (.global g) = .pointer (some ⟨g, 0, none⟩) := fun _ => rfl
          have h16 := hk.new 10 16 rfl (by kernel_rfl)
          replace h16 : ac.eval (.tmp 16) = .int .i64 l.d := h16
          refine wp_of_call (f := 40) (args := #[.int .i64 l.d]) ?_ ?_
          · clear hk hK
            go_light
            generalize ac.eval = ρ at *
            go_simp
          · refine (C17.out _).mono ?_
            rintro e w1 ⟨rfl, hb1⟩
            exact ⟨_, rfl, hK _ _ rfl (by rw [hb1]; exact Below.refl _ _)⟩
      · as_aux_lemma =>
          -- 12
          intro ac u hG hk K hK
          have hco : ∀ c, ac.eval (.const c) = c := fun _ => rfl
          have hfu : ∀ f, ac.eval (.func f) = .func (.func f) #[] #[] := fun _ => rfl
          have hgl : ∀ g, ac.eval (.global g) = .pointer (some ⟨g, 0, none⟩) := fun _ => rfl
          have h14 := hk.new 8 14 rfl (by kernel_rfl)
          replace h14 : ac.eval (.tmp 14) = .string (s 14) := h14
          have h17 := hk.new 11 17 rfl (by kernel_rfl)
          replace h17 : ac.eval (.tmp 17) = .string (s 17) := h17
          have hadd := A18.out
          refine wp_of_run (x := .string (s 18)) (w' := u) ?_ (hK _ _ rfl (Below.refl _ _))
          clear hk hK
          go_light
          generalize ac.eval = ρ at *
          go_simp
      · as_aux_lemma =>
          -- 13
          intro ac u hG hk K hK
          have hco : ∀ c, ac.eval (.const c) = c := fun _ => rfl
          have hfu : ∀ f, ac.eval (.func f) = .func (.func f) #[] #[] := fun _ => rfl
          have hgl : ∀ g, ac.eval (.global g) = .pointer (some ⟨g, 0, none⟩) := fun _ => rfl
          have h18 := hk.new 12 18 rfl (by kernel_rfl)
          replace h18 : ac.eval (.tmp 18) = .string (s 18) := h18
          have hadd := A19.out
          refine wp_of_run (x := .string (s 19)) (w' := u) ?_ (hK _ _ rfl (Below.refl _ _))
          clear hk hK
          go_light
          generalize ac.eval = ρ at *
          go_simp
      · as_aux_lemma =>
          -- 14
          intro ac u hG hk K hK
          have hco : ∀ c, ac.eval (.const c) = c := fun _ => rfl
          have hfu : ∀ f, ac.eval (.func f) = .func (.func f) #[] #[] := fun _ => rfl
          have hgl : ∀ g, ac.eval (.global g) = .pointer (some ⟨g, 0, none⟩) := fun _ => rfl
          have h1 : ac.eval (.tmp 1) = .pointer (some ⟨gK1, 0, none⟩) := hk.old 1 (by kernel_rfl)
          refine wp_of_run (x := .pointer (some ⟨gK1, 3, none⟩)) (w' := u) ?_ (hK _ _ rfl (Below.refl _ _))
          clear hk hK
          go_light
          generalize ac.eval = ρ at *
          go_simp
      · as_aux_lemma =>
          -- 15
          intro ac u hG hk K hK
          have hco : ∀ c, ac.eval (.const c) = c := fun _ => rfl
          have hfu : ∀ f, ac.eval (.func f) = .func (.func f) #[] #[] := fun _ => rfl
          have hgl : ∀ g, ac.eval (.global g) = .pointer (some ⟨g, 0, none⟩) := fun _ => rfl
          have h20 := hk.new 14 20 rfl (by kernel_rfl)
          replace h20 : ac.eval (.tmp 20) = .pointer (some ⟨gK1, 3, none⟩) := h20
          have c := hG.1.reads (i := 3) (x := .int .i64 l.hh) rfl
          refine wp_of_run (x := .int .i64 l.hh) (w' := u) ?_ (hK _ _ rfl (Below.refl _ _))
          clear hk hK
          go_light
          generalize ac.eval = ρ at *
          go_simp
      · as_aux_lemma =>
          -- 16
          intro ac u hG hk K hK
          have hco : ∀ c, ac.eval (.const c) = c := fun _ => rfl
          have hfu : ∀ f, ac.eval (.func f) = .func (.func f) #[] #[] := fun _ => rfl
          have hgl : ∀ g, ac.eval (.global g) = .pointer (some ⟨g, 0, none⟩) := fun _ => rfl
          have h21 := hk.new 15 21 rfl (by kernel_rfl)
          replace h21 : ac.eval (.tmp 21) = .int .i64 l.hh := h21
          refine wp_of_call (f := 40) (args := #[.int .i64 l.hh]) ?_ ?_
          · clear hk hK
            go_light
            generalize ac.eval = ρ at *
            go_simp
          · refine (C22.out _).mono ?_
            rintro e w1 ⟨rfl, hb1⟩
            exact ⟨_, rfl, hK _ _ rfl (by rw [hb1]; exact Below.refl _ _)⟩
      · as_aux_lemma =>
          -- 17
          intro ac u hG hk K hK
          have hco : ∀ c, ac.eval (.const c) = c := fun _ => rfl
          have hfu : ∀ f, ac.eval (.func f) = .func (.func f) #[] #[] := fun _ => rfl
          have hgl : ∀ g, ac.eval (.global g) = .pointer (some ⟨g, 0, none⟩) := fun _ => rfl
          have h19 := hk.new 13 19 rfl (by kernel_rfl)
          replace h19 : ac.eval (.tmp 19) = .string (s 19) := h19
          have h22 := hk.new 16 22 rfl (by kernel_rfl)
          replace h22 : ac.eval (.tmp 22) = .string (s 22) := h22
          have hadd := A23.out
          refine wp_of_run (x := .string (s 23)) (w' := u) ?_ (hK _ _ rfl (Below.refl _ _))
          clear hk hK
          go_light
          generalize ac.eval = ρ at *
          go_simp
      · as_aux_lemma =>
          -- 18
          intro ac u hG hk K hK
          have hco : ∀ c, ac.eval (.const c) = c := fun _ => rfl
          have hfu : ∀ f, ac.eval (.func f) = .func (.func f) #[] #[] := fun _ => rfl
          have hgl : ∀ g, ac.eval (.global g) = .pointer (some ⟨g, 0, none⟩) := fun _ => rfl
          have h23 := hk.new 17 23 rfl (by kernel_rfl)
          replace h23 : ac.eval (.tmp 23) = .string (s 23) := h23
          have hadd := A24.out
          refine wp_of_run (x := .string (s 24)) (w' := u) ?_ (hK _ _ rfl (Below.refl _ _))
          clear hk hK
          go_light
          generalize ac.eval = ρ at *
          go_simp
      · as_aux_lemma =>
          -- 19
          intro ac u hG hk K hK
          have hco : ∀ c, ac.eval (.const c) = c := fun _ => rfl
          have hfu : ∀ f, ac.eval (.func f) = .func (.func f) #[] #[] := fun _ => rfl
          have hgl : ∀ g, ac.eval (.global g) = .pointer (some ⟨g, 0, none⟩) := fun _ => rfl
          have h1 : ac.eval (.tmp 1) = .pointer (some ⟨gK1, 0, none⟩) := hk.old 1 (by kernel_rfl)
          refine wp_of_run (x := .pointer (some ⟨gK1, 4, none⟩)) (w' := u) ?_ (hK _ _ rfl (Below.refl _ _))
          clear hk hK
          go_light
          generalize ac.eval = ρ at *
          go_simp
      · as_aux_lemma =>
          -- 20
          intro ac u hG hk K hK
          have hco : ∀ c, ac.eval (.const c) = c := fun _ => rfl
          have hfu : ∀ f, ac.eval (.func f) = .func (.func f) #[] #[] := fun _ => rfl
          have hgl : ∀ g, ac.eval (.global g) = .pointer (some ⟨g, 0, none⟩) := fun _ => rfl
          have h25 := hk.new 19 25 rfl (by kernel_rfl)
          replace h25 : ac.eval (.tmp 25) = .pointer (some ⟨gK1, 4, none⟩) := h25
          have c := hG.1.reads (i := 4) (x := .int .i64 l.mi) rfl
          refine wp_of_run (x := .int .i64 l.mi) (w' := u) ?_ (hK _ _ rfl (Below.refl _ _))
          clear hk hK
          go_light
          generalize ac.eval = ρ at *
          go_simp
      · as_aux_lemma =>
          -- 21
          intro ac u hG hk K hK
          have hco : ∀ c, ac.eval (.const c) = c := fun _ => rfl
          have hfu : ∀ f, ac.eval (.func f) = .func (.func f) #[] #[] := fun _ => rfl
          have hgl : ∀ g, ac.eval (.global g) = .pointer (some ⟨g, 0, none⟩) := fun _ => rfl
          have h26 := hk.new 20 26 rfl (by kernel_rfl)
          replace h26 : ac.eval (.tmp 26) = .int .i64 l.mi := h26
          refine wp_of_call (f := 40) (args := #[.int .i64 l.mi]) ?_ ?_
          · clear hk hK
            go_light
            generalize ac.eval = ρ at *
            go_simp
          · refine (C27.out _).mono ?_
            rintro e w1 ⟨rfl, hb1⟩
            exact ⟨_, rfl, hK _ _ rfl (by rw [hb1]; exact Below.refl _ _)⟩
      · as_aux_lemma =>
          -- 22
          intro ac u hG hk K hK
          have hco : ∀ c, ac.eval (.const c) = c := fun _ => rfl
          have hfu : ∀ f, ac.eval (.func f) = .func (.func f) #[] #[] := fun _ => rfl
          have hgl : ∀ g, ac.eval (.global g) = .pointer (some ⟨g, 0, none⟩) := fun _ => rfl
          have h24 := hk.new 18 24 rfl (by kernel_rfl)
          replace h24 : ac.eval (.tmp 24) = .string (s 24) := h24
          have h27 := hk.new 21 27 rfl (by kernel_rfl)
          replace h27 : ac.eval (.tmp 27) = .string (s 27) := h27
          have hadd := A28.out
          refine wp_of_run (x := .string (s 28)) (w' := u) ?_ (hK _ _ rfl (Below.refl _ _))
          clear hk hK
          go_light
          generalize ac.eval = ρ at *
          go_simp
      · as_aux_lemma =>
          -- 23
          intro ac u hG hk K hK
          have hco : ∀ c, ac.eval (.const c) = c := fun _ => rfl
          have hfu : ∀ f, ac.eval (.func f) = .func (.func f) #[] #[] := fun _ => rfl
          have hgl : ∀ g, ac.eval (.global g) = .pointer (some ⟨g, 0, none⟩) := fun _ => rfl
          have h28 := hk.new 22 28 rfl (by kernel_rfl)
          replace h28 : ac.eval (.tmp 28) = .string (s 28) := h28
          have hadd := A29.out
          refine wp_of_run (x := .string (s 29)) (w' := u) ?_ (hK _ _ rfl (Below.refl _ _))
          clear hk hK
          go_light
          generalize ac.eval = ρ at *
          go_simp
      · as_aux_lemma =>
          -- 24
          intro ac u hG hk K hK
          have hco : ∀ c, ac.eval (.const c) = c := fun _ => rfl
          have hfu : ∀ f, ac.eval (.func f) = .func (.func f) #[] #[] := fun _ => rfl
          have hgl : ∀ g, ac.eval (.global g) = .pointer (some ⟨g, 0, none⟩) := fun _ => rfl
          have h1 : ac.eval (.tmp 1) = .pointer (some ⟨gK1, 0, none⟩) := hk.old 1 (by kernel_rfl)
          refine wp_of_run (x := .pointer (some ⟨gK1, 5, none⟩)) (w' := u) ?_ (hK _ _ rfl (Below.refl _ _))
          clear hk hK
          go_light
          generalize ac.eval = ρ at *
          go_simp
      · as_aux_lemma =>
          -- 25
          intro ac u hG hk K hK
          have hco : ∀ c, ac.eval (.const c) = c := fun _ => rfl
          have hfu : ∀ f, ac.eval (.func f) = .func (.func f) #[] #[] := fun _ => rfl
          have hgl : ∀ g, ac.eval (.global g) = .pointer (some ⟨g, 0, none⟩) := fun _ => rfl
          have h30 := hk.new 24 30 rfl (by kernel_rfl)
          replace h30 : ac.eval (.tmp 30) = .pointer (some ⟨gK1, 5, none⟩) := h30
          have c := hG.1.reads (i := 5) (x := .int .i64 l.se) rfl
          refine wp_of_run (x := .int .i64 l.se) (w' := u) ?_ (hK _ _ rfl (Below.refl _ _))
          clear hk hK
          go_light
          generalize ac.eval = ρ at *
          go_simp
      · as_aux_lemma =>
          -- 26
          intro ac u hG hk K hK
          have hco : ∀ c, ac.eval (.const c) = c := fun _ => rfl
          have hfu : ∀ f, ac.eval (.func f) = .func (.func f) #[] #[] := fun _ => rfl
          have hgl : ∀ g, ac.eval (.global g) = .pointer (some ⟨g, 0, none⟩) := fun _ => rfl
          have h31 := hk.new 25 31 rfl (by kernel_rfl)
          replace h31 : ac.eval (.tmp 31) = .int .i64 l.se := h31
          refine wp_of_call (f := 40) (args := #[.int .i64 l.se]) ?_ ?_
          · clear hk hK
            go_light
            generalize ac.eval = ρ at *
            go_simp
          · refine (C32.out _).mono ?_
            rintro e w1 ⟨rfl, hb1⟩
            exact ⟨_, rfl, hK _ _ rfl (by rw [hb1]; exact Below.refl _ _)⟩
      · as_aux_lemma =>
          -- 27
          intro ac u hG hk K hK
          have hco : ∀ c, ac.eval (.const c) = c := fun _ => rfl
          have hfu : ∀ f, ac.eval (.func f) = .func (.func f) #[] #[] := fun _ => rfl
          have hgl : ∀ g, ac.eval (.global g) = .pointer (some ⟨g, 0, none⟩) := fun _ => rfl
          have h29 := hk.new 23 29 rfl (by kernel_rfl)
          replace h29 : ac.eval (.tmp 29) = .string (s 29) := h29
          have h32 := hk.new 26 32 rfl (by kernel_rfl)
          replace h32 : ac.eval (.tmp 32) = .string (s 32) := h32
          have hadd := A33.out
          refine wp_of_run (x := .string (s 33)) (w' := u) ?_ (hK _ _ rfl (Below.refl _ _))
          clear hk hK
          go_light
          generalize ac.eval = ρ at *
          go_simp
      · as_aux_lemma =>
          -- 28
          intro ac u hG hk K hK
          have hco : ∀ c, ac.eval (.const c) = c := fun _ => rfl
          have hfu : ∀ f, ac.eval (.func f) = .func (.func f) #[] #[] := fun _ => rfl
          have hgl : ∀ g, ac.eval (.global g) = .pointer (some ⟨g, 0, none⟩) := fun _ => rfl
          have h33 := hk.new 27 33 rfl (by kernel_rfl)
          replace h33 : ac.eval (.tmp 33) = .string (s 33) := h33
          refine wp_of_run (x := .string (s 33)) (w' := u) ?_ (hK _ _ rfl (Below.refl _ _))
          clear hk hK
          go_light
          generalize ac.eval = ρ at *
          go_simp
    · intro v w9 hG hv
      have v0 : v 0 = .pointer (some ⟨gK1, 0, none⟩) := hv 0 (of_decide_eq_true (by kernel_rfl))
      have v1 : v 1 = .int .i64 l.y := hv 1 (of_decide_eq_true (by kernel_rfl))
      have v2 : v 2 = .string (s 8) := hv 2 (of_decide_eq_true (by kernel_rfl))
      have v3 : v 3 = .string (s 9) := hv 3 (of_decide_eq_true (by kernel_rfl))
      have v4 : v 4 = .pointer (some ⟨gK1, 1, none⟩) := hv 4 (of_decide_eq_true (by kernel_rfl))
      have v5 : v 5 = .int .i64 l.m := hv 5 (of_decide_eq_true (by kernel_rfl))
      have v6 : v 6 = .string (s 12) := hv 6 (of_decide_eq_true (by kernel_rfl))
      have v7 : v 7 = .string (s 13) := hv 7 (of_decide_eq_true (by kernel_rfl))
      have v8 : v 8 = .string (s 14) := hv 8 (of_decide_eq_true (by kernel_rfl))
      have v9 : v 9 = .pointer (some ⟨gK1, 2, none⟩) := hv 9 (of_decide_eq_true (by kernel_rfl))
      have v10 : v 10 = .int .i64 l.d := hv 10 (of_decide_eq_true (by kernel_rfl))
      have v11 : v 11 = .string (s 17) := hv 11 (of_decide_eq_true (by kernel_rfl))
      have v12 : v 12 = .string (s 18) := hv 12 (of_decide_eq_true (by kernel_rfl))
      have v13 : v 13 = .string (s 19) := hv 13 (of_decide_eq_true (by kernel_rfl))
      have v14 : v 14 = .pointer (some ⟨gK1, 3, none⟩) := hv 14 (of_decide_eq_true (by kernel_rfl))
      have v15 : v 15 = .int .i64 l.hh := hv 15 (of_decide_eq_true (by kernel_rfl))
      have v16 : v 16 = .string (s 22) := hv 16 (of_decide_eq_true (by kernel_rfl))
      have v17 : v 17 = .string (s 23) := hv 17 (of_decide_eq_true (by kernel_rfl))
      have v18 : v 18 = .string (s 24) := hv 18 (of_decide_eq_true (by kernel_rfl))
      have v19 : v 19 = .pointer (some ⟨gK1, 4, none⟩) := hv 19 (of_decide_eq_true (by kernel_rfl))
      have v20 : v 20 = .int .i64 l.mi := hv 20 (of_decide_eq_true (by kernel_rfl))
      have v21 : v 21 = .string (s 27) := hv 21 (of_decide_eq_true (by kernel_rfl))
      have v22 : v 22 = .string (s 28) := hv 22 (of_decide_eq_true (by kernel_rfl))
      have v23 : v 23 = .string (s 29) := hv 23 (of_decide_eq_true (by kernel_rfl))
      have v24 : v 24 = .pointer (some ⟨gK1, 5, none⟩) := hv 24 (of_decide_eq_true (by kernel_rfl))
      have v25 : v 25 = .int .i64 l.se := hv 25 (of_decide_eq_true (by kernel_rfl))
      have v26 : v 26 = .string (s 32) := hv 26 (of_decide_eq_true (by kernel_rfl))
      have v27 : v 27 = .string (s 33) := hv 27 (of_decide_eq_true (by kernel_rfl))
      have v28 : v 28 = .string (s 33) := hv 28 (of_decide_eq_true (by kernel_rfl))
      clear hv
      simp only [putAll, if_true, Act.put, List.setIfInBounds_toArray, List.set_cons_zero, List.set_cons_succ, v0, v1, v2, v3, v4, v5, v6, v7, v8, v9, v10, v11, v12, v13, v14, v15, v16, v17, v18, v19, v20, v21, v22, v23, v24, v25, v26, v27, v28]
      clear v0 v1 v2 v3 v4 v5 v6 v7 v8 v9 v10 v11 v12 v13 v14 v15 v16 v17 v18 v19 v20 v21 v22 v23 v24 v25 v26 v27 v28
      go_wp2
      go_ret
      exact ⟨by rw [HX.out, ← HE.out]; rfl, hG.2⟩
  · have HX : Hid (strOfNums (txL l) = { data := #[] }) := by unfold txL; rw [Hid, hl]; rfl
    have HL := Lib.hid hl
    clear hl
    go_enter Tryd.func30, Tryd.ntmps30
    go_upto_region 1 with ((refine big_box rfl 34 _ rfl (lbA l) rfl (by kernel_rfl) ?_; intro gK1 wK1 hlK1 nK1 hbK1; have K1 := Lib.hid nK1; have LK1 := Lib.hid (Nat.le_trans (HB.out).size hlK1); replace HB := Lib.hid (bstep HB.out hbK1); clear hlK1 nK1 hbK1; try simp only [Act.put, List.setIfInBounds_toArray, List.set_cons_zero, List.set_cons_succ]))
    go_wp2_with ((refine big_whole rfl 34 _ rfl gK1 rfl K1.out Tryd.underlying34 rfl (by kernel_rfl) ?_; try simp only [Act.put, List.setIfInBounds_toArray, List.set_cons_zero, List.set_cons_succ]))
    refine (pright15_any l _ ((HT.out).mons.keptB HB.out)).mono ?_
    rintro e c1 ⟨rfl, hc1⟩
    replace K1 := Lib.hid ((K1.out).keptB hc1)
    replace HB := Lib.hid (bstep HB.out hc1)
    clear hc1
    rw [HL.out]
    go_wp2
    go_ret
    exact ⟨by rw [HX.out]; rfl, HB.out⟩
/-- what each operation yields -/
def PhiTr (l : Lb) (BK : Nat) (s : Nat → ByteArray) : Nat → World → Value → Prop
  | 0, _, x => x = .pointer (some ⟨BK, 0, none⟩)
  | 1, _, x => x = .int .i64 l.y
  | 2, _, x => x = .string (s 8)
  | 3, _, x => x = .string (s 9)
  | 4, _, x => x = .pointer (some ⟨BK, 1, none⟩)
  | 5, _, x => x = .int .i64 l.m
  | 6, _, x => x = .string (s 12)
  | 7, _, x => x = .string (s 13)
  | 8, _, x => x = .string (s 14)
  | 9, _, x => x = .pointer (some ⟨BK, 2, none⟩)
  | 10, _, x => x = .int .i64 l.d
  | 11, _, x => x = .string (s 17)
  | 12, _, x => x = .string (s 18)
  | 13, _, x => x = .string (s 19)
  | 14, _, x => x = .pointer (some ⟨BK, 3, none⟩)
  | 15, _, x => x = .int .i64 l.hh
  | 16, _, x => x = .string (s 22)
  | 17, _, x => x = .string (s 23)
  | 18, _, x => x = .string (s 24)
  | 19, _, x => x = .pointer (some ⟨BK, 4, none⟩)
  | 20, _, x => x = .int .i64 l.mi
  | 21, _, x => x = .string (s 27)
  | 22, _, x => x = .string (s 28)
  | 23, _, x => x = .string (s 29)
  | 24, _, x => x = .pointer (some ⟨BK, 5, none⟩)
  | 25, _, x => x = .int .i64 l.se
  | 26, _, x => x = .string (s 32)
  | 27, _, x => x = .string (s 33)
  | 28, _, x => x = .string (s 33)
  | _, _, _ => True
theorem PhiTr_keep {l : Lb} {BK : Nat} {s : Nat → ByteArray} (i : Nat) (w w' : World) (x : Value) (hb : Below w.heap.size w w') (hp : PhiTr l BK s i w x) : PhiTr l BK s i w' x := by
  match i, hp with
  | 0, hp => exact hp
  | 1, hp => exact hp
  | 2, hp => exact hp
  | 3, hp => exact hp
  | 4, hp => exact hp
  | 5, hp => exact hp
  | 6, hp => exact hp
  | 7, hp => exact hp
  | 8, hp => exact hp
  | 9, hp => exact hp
  | 10, hp => exact hp
  | 11, hp => exact hp
  | 12, hp => exact hp
  | 13, hp => exact hp
  | 14, hp => exact hp
  | 15, hp => exact hp
  | 16, hp => exact hp
  | 17, hp => exact hp
  | 18, hp => exact hp
  | 19, hp => exact hp
  | 20, hp => exact hp
  | 21, hp => exact hp
  | 22, hp => exact hp
  | 23, hp => exact hp
  | 24, hp => exact hp
  | 25, hp => exact hp
  | 26, hp => exact hp
  | 27, hp => exact hp
  | 28, hp => exact hp
  | n + 29, hp => trivial
def GTr (l : Lb) (BK : Nat) (w0 w : World) : Prop := Holds w BK 27 (lbA l) ∧ Below w0.heap.size w0 w
theorem GTr_keep {l : Lb} {BK : Nat} {w0 : World} (w w' : World) (hb : Below w.heap.size w w') (hg : GTr l BK w0 w) : GTr l BK w0 w' := ⟨hg.1.keptB hb, bstep hg.2 hb⟩

set_option maxRecDepth 100000 in
set_option maxHeartbeats 4000000 in
theorem rtext15_any (l : Lb) (w : World) :
    Calls Tryd.prog 31 #[.agg (lbA l)] w fun e w' => e = .returned (.string (strOfNums (txL l))) ∧ Below w.heap.size w w' := by
  have HB := Lib.hid (Below.refl w.heap.size w)
  rcases Bool.eq_false_or_eq_true (lbB l) with hl | hl
  · have HX : Hid (strOfNums (txL l) = strOfNums (textL l)) := by unfold txL; rw [Hid, hl]; rfl
    obtain ⟨hd, t0, t1, t2, t3, t4, t5⟩ := lb_bd hl
    obtain ⟨⟨y0, y1⟩, ⟨m0, m1⟩, d0, d1⟩ := dayB_iff.1 hd
    have d2 : l.d ≤ 31 := by have := (monN_bd l.y l.m).2; omega
    obtain ⟨s, hs⟩ : ∃ s, strT l = s := ⟨_, rfl⟩
    have HS8 : Hid (s 8 = strOfNums (dgL 4 l.y)) := by rw [Hid, ← hs]; rfl
    have HS9 : Hid (s 9 = strOfNums (dgL 4 l.y ++ [45])) := by rw [Hid, ← hs]; rfl
    have HS12 : Hid (s 12 = strOfNums (dgL 2 l.m)) := by rw [Hid, ← hs]; rfl
    have HS13 : Hid (s 13 = strOfNums (dgL 4 l.y ++ [45] ++ dgL 2 l.m)) := by rw [Hid, ← hs]; rfl
    have HS14 : Hid (s 14 = strOfNums (dgL 4 l.y ++ [45] ++ dgL 2 l.m ++ [45])) := by rw [Hid, ← hs]; rfl
    have HS17 : Hid (s 17 = strOfNums (dgL 2 l.d)) := by rw [Hid, ← hs]; rfl
    have HS18 : Hid (s 18 = strOfNums (dgL 4 l.y ++ [45] ++ dgL 2 l.m ++ [45] ++ dgL 2 l.d)) := by rw [Hid, ← hs]; rfl
    have HS19 : Hid (s 19 = strOfNums (dgL 4 l.y ++ [45] ++ dgL 2 l.m ++ [45] ++ dgL 2 l.d ++ [84])) := by rw [Hid, ← hs]; rfl
    have HS22 : Hid (s 22 = strOfNums (dgL 2 l.hh)) := by rw [Hid, ← hs]; rfl
    have HS23 : Hid (s 23 = strOfNums (dgL 4 l.y ++ [45] ++ dgL 2 l.m ++ [45] ++ dgL 2 l.d ++ [84] ++ dgL 2 l.hh)) := by rw [Hid, ← hs]; rfl
    have HS24 : Hid (s 24 = strOfNums (dgL 4 l.y ++ [45] ++ dgL 2 l.m ++ [45] ++ dgL 2 l.d ++ [84] ++ dgL 2 l.hh ++ [58])) := by rw [Hid, ← hs]; rfl
    have HS27 : Hid (s 27 = strOfNums (dgL 2 l.mi)) := by rw [Hid, ← hs]; rfl
    have HS28 : Hid (s 28 = strOfNums (dgL 4 l.y ++ [45] ++ dgL 2 l.m ++ [45] ++ dgL 2 l.d ++ [84] ++ dgL 2 l.hh ++ [58] ++ dgL 2 l.mi)) := by rw [Hid, ← hs]; rfl
    have HS29 : Hid (s 29 = strOfNums (dgL 4 l.y ++ [45] ++ dgL 2 l.m ++ [45] ++ dgL 2 l.d ++ [84] ++ dgL 2 l.hh ++ [58] ++ dgL 2 l.mi ++ [58])) := by rw [Hid, ← hs]; rfl
    have HS32 : Hid (s 32 = strOfNums (dgL 2 l.se)) := by rw [Hid, ← hs]; rfl
    have HS33 : Hid (s 33 = strOfNums (dgL 4 l.y ++ [45] ++ dgL 2 l.m ++ [45] ++ dgL 2 l.d ++ [84] ++ dgL 2 l.hh ++ [58] ++ dgL 2 l.mi ++ [58] ++ dgL 2 l.se)) := by rw [Hid, ← hs]; rfl
    have A9 : Hid (∀ w, (Op.stringOp .add (s 8) ({ data := #[45] })).run Tryd.prog w = .ok (.string (s 9)) w) := by
      intro w
      rw [HS8.out, HS9.out]
      exact add_str _ [45] (by simp [dgL_length]) w
    have A13 : Hid (∀ w, (Op.stringOp .add (s 9) (s 12)).run Tryd.prog w = .ok (.string (s 13)) w) := by
      intro w
      rw [HS9.out, HS13.out, HS12.out]
      exact add_str _ _ (by simp [dgL_length]) w
    have A14 : Hid (∀ w, (Op.stringOp .add (s 13) ({ data := #[45] })).run Tryd.prog w = .ok (.string (s 14)) w) := by
      intro w
      rw [HS13.out, HS14.out]
      exact add_str _ [45] (by simp [dgL_length]) w
    have A18 : Hid (∀ w, (Op.stringOp .add (s 14) (s 17)).run Tryd.prog w = .ok (.string (s 18)) w) := by
      intro w
      rw [HS14.out, HS18.out, HS17.out]
      exact add_str _ _ (by simp [dgL_length]) w
    have A19 : Hid (∀ w, (Op.stringOp .add (s 18) ({ data := #[84] })).run Tryd.prog w = .ok (.string (s 19)) w) := by
      intro w
      rw [HS18.out, HS19.out]
      exact add_str _ [84] (by simp [dgL_length]) w
    have A23 : Hid (∀ w, (Op.stringOp .add (s 19) (s 22)).run Tryd.prog w = .ok (.string (s 23)) w) := by
      intro w
      rw [HS19.out, HS23.out, HS22.out]
      exact add_str _ _ (by simp [dgL_length]) w
    have A24 : Hid (∀ w, (Op.stringOp .add (s 23) ({ data := #[58] })).run Tryd.prog w = .ok (.string (s 24)) w) := by
      intro w
      rw [HS23.out, HS24.out]
      exact add_str _ [58] (by simp [dgL_length]) w
    have A28 : Hid (∀ w, (Op.stringOp .add (s 24) (s 27)).run Tryd.prog w = .ok (.string (s 28)) w) := by
      intro w
      rw [HS24.out, HS28.out, HS27.out]
      exact add_str _ _ (by simp [dgL_length]) w
    have A29 : Hid (∀ w, (Op.stringOp .add (s 28) ({ data := #[58] })).run Tryd.prog w = .ok (.string (s 29)) w) := by
      intro w
      rw [HS28.out, HS29.out]
      exact add_str _ [58] (by simp [dgL_length]) w
    have A33 : Hid (∀ w, (Op.stringOp .add (s 29) (s 32)).run Tryd.prog w = .ok (.string (s 33)) w) := by
      intro w
      rw [HS29.out, HS33.out, HS32.out]
      exact add_str _ _ (by simp [dgL_length]) w
    have HE : Hid (s 33 = strOfNums (textL l)) := by rw [Hid, ← hs]; rfl
    have C8 : Hid (∀ v, Calls Tryd.prog 41 #[.int .i64 l.y, .int .i64 4] v fun e w' => e = .returned (.string (s 8)) ∧ Below v.heap.size v w') := by rw [HS8.out]; exact fun v => rdigits15_any 4 (by omega) l.y (by omega) (by omega) v
    have C12 : Hid (∀ v, Calls Tryd.prog 41 #[.int .i64 l.m, .int .i64 2] v fun e w' => e = .returned (.string (s 12)) ∧ Below v.heap.size v w') := by rw [HS12.out]; exact fun v => rdigits15_any 2 (by omega) l.m (by omega) (by omega) v
    have C17 : Hid (∀ v, Calls Tryd.prog 41 #[.int .i64 l.d, .int .i64 2] v fun e w' => e = .returned (.string (s 17)) ∧ Below v.heap.size v w') := by rw [HS17.out]; exact fun v => rdigits15_any 2 (by omega) l.d (by omega) (by omega) v
    have C22 : Hid (∀ v, Calls Tryd.prog 41 #[.int .i64 l.hh, .int .i64 2] v fun e w' => e = .returned (.string (s 22)) ∧ Below v.heap.size v w') := by rw [HS22.out]; exact fun v => rdigits15_any 2 (by omega) l.hh (by omega) (by omega) v
    have C27 : Hid (∀ v, Calls Tryd.prog 41 #[.int .i64 l.mi, .int .i64 2] v fun e w' => e = .returned (.string (s 27)) ∧ Below v.heap.size v w') := by rw [HS27.out]; exact fun v => rdigits15_any 2 (by omega) l.mi (by omega) (by omega) v
    have C32 : Hid (∀ v, Calls Tryd.prog 41 #[.int .i64 l.se, .int .i64 2] v fun e w' => e = .returned (.string (s 32)) ∧ Below v.heap.size v w') := by rw [HS32.out]; exact fun v => rdigits15_any 2 (by omega) l.se (by omega) (by omega) v
    have HL := Lib.hid hl
    clear hs hl hd t0 t1 t2 t3 t4 t5 y0 y1 m0 m1 d0 d1 d2
    go_enter Tryd.func31, Tryd.ntmps31
    go_upto_region 1 with ((refine big_box rfl 27 _ rfl (lbA l) rfl (by kernel_rfl) ?_; intro gK1 wK1 hlK1 nK1 hbK1; have K1 := Lib.hid nK1; have LK1 := Lib.hid (Nat.le_trans (HB.out).size hlK1); replace HB := Lib.hid (bstep HB.out hbK1); clear hlK1 nK1 hbK1; try simp only [Act.put, List.setIfInBounds_toArray, List.set_cons_zero, List.set_cons_succ]))
    go_wp2_with ((refine big_whole rfl 27 _ rfl gK1 rfl K1.out Tryd.underlying27 rfl (by kernel_rfl) ?_; try simp only [Act.put, List.setIfInBounds_toArray, List.set_cons_zero, List.set_cons_succ]))
    refine (rright15_any l _).mono ?_
    rintro e c1 ⟨rfl, hc1⟩
    replace K1 := Lib.hid ((K1.out).keptB hc1)
    replace HB := Lib.hid (bstep HB.out hc1)
    clear hc1
    rw [HL.out]
    go_upto_region 3 with fail
    refine region_free' [some 6, some 7, some 8, some 9, some 10, some 11, some 12, some 13, some 14, some 15, some 16, some 17, some 18, some 19, some 20, some 21, some 22, some 23, some 24, some 25, some 26, some 27, some 28, some 29, some 30, some 31, some 32, some 33, some 2] (PhiTr l gK1 s) (GTr l gK1 w) (by kernel_rfl) (by kernel_rfl) (by kernel_rfl) (by kernel_rfl) (by kernel_rfl) PhiTr_keep GTr_keep ⟨(K1.out).drew, bdrew HB.out⟩ ?_ ?_
    · refine ⟨?_, ?_, ?_, ?_, ?_, ?_, ?_, ?_, ?_, ?_, ?_, ?_, ?_, ?_, ?_, ?_, ?_, ?_, ?_, ?_, ?_, ?_, ?_, ?_, ?_, ?_, ?_, ?_, ?_, trivial⟩
      · as_aux_lemma =>
          -- 0
          intro ac u hG hk K hK
          have hco : ∀ c, ac.eval (.const c) = c := fun _ => rfl
          have hfu : ∀ f, ac.eval (.func f) = .func (.func f) #[] #[] := fun _ => rfl
          have hgl : ∀ g, ac.eval (.global g) = .pointer (some ⟨g, 0, none⟩) := fun _ => rfl
          have h1 : ac.eval (.tmp 1) = .pointer (some ⟨gK1, 0, none⟩) := hk.old 1 (by kernel_rfl)
          refine wp_of_run (x := .pointer (some ⟨gK1, 0, none⟩)) (w' := u) ?_ (hK _ _ rfl (Below.refl _ _))
          clear hk hK
          go_light
          generalize ac.eval = ρ at *
          go_simp
      · as_aux_lemma =>
          -- 1
          intro ac u hG hk K hK
          have hco : ∀ c, ac.eval (.const c) = c := fun _ => rfl
          have hfu : ∀ f, ac.eval (.func f) = .func (.func f) #[] #[] := fun _ => rfl
          have hgl : ∀ g, ac.eval (.global g) = .pointer (some ⟨g, 0, none⟩) := fun _ => rfl
          have h6 := hk.new 0 6 rfl (by kernel_rfl)
          replace h6 : ac.eval (.tmp 6) = .pointer (some ⟨gK1, 0, none⟩) := h6
          have c := hG.1.reads (i := 0) (x := .int .i64 l.y) rfl
          refine wp_of_run (x := .int .i64 l.y) (w' := u) ?_ (hK _ _ rfl (Below.refl _ _))
          clear hk hK
          go_light
          generalize ac.eval = ρ at *
          go_simp
      · as_aux_lemma =>
          -- 2
          intro ac u hG hk K hK
          have hco : ∀ c, ac.eval (.const c) = c := fun _ => rfl
          have hfu : ∀ f, ac.eval (.func f) = .func (.func f) #[] #[] := fun _ => rfl
          have hgl : ∀ g, ac.eval (.global g) = .pointer (some ⟨g, 0, none⟩) := fun _ => rfl
          have h7 := hk.new 1 7 rfl (by kernel_rfl)
          replace h7 : ac.eval (.tmp 7) = .int .i64 l.y := h7
          refine wp_of_call (f := 41) (args := #[.int .i64 l.y, .int .i64 4]) ?_ ?_
          · clear hk hK
            go_light
            generalize ac.eval = ρ at *
            go_simp
          · refine (C8.out _).mono ?_
            rintro e w1 ⟨rfl, hb1⟩
            exact ⟨_, rfl, hK _ _ rfl hb1⟩
      · as_aux_lemma =>
          -- 3
          intro ac u hG hk K hK
          have hco : ∀ c, ac.eval (.const c) = c := fun _ => rfl
          have hfu : ∀ f, ac.eval (.func f) = .func (.func f) #[] #[] := fun _ => rfl
          have hgl : ∀ g, ac.eval (.global g) = .pointer (some ⟨g, 0, none⟩) := fun _ => rfl
          have h8 := hk.new 2 8 rfl (by kernel_rfl)
          replace h8 : ac.eval (.tmp 8) = .string (s 8) := h8
          have hadd := A9.out
          refine wp_of_run (x := .string (s 9)) (w' := u) ?_ (hK _ _ rfl (Below.refl _ _))
          clear hk hK
          go_light
          generalize ac.eval = ρ at *
          go_simp
      · as_aux_lemma =>
          -- 4
          intro ac u hG hk K hK
          have hco : ∀ c, ac.eval (.const c) = c := fun _ => rfl
          have hfu : ∀ f, ac.eval (.func f) = .func (.func f) #[] #[] := fun _ => rfl
          have hgl : ∀ g, ac.eval (.global g) = .pointer (some ⟨g, 0, none⟩) := fun _ => rfl
          have h1 : ac.eval (.tmp 1) = .pointer (some ⟨gK1, 0, none⟩) := hk.old 1 (by kernel_rfl)
          refine wp_of_run (x := .pointer (some ⟨gK1, 1, none⟩)) (w' := u) ?_ (hK _ _ rfl (Below.refl _ _))
          clear hk hK
          go_light
          generalize ac.eval = ρ at *
          go_simp
      · as_aux_lemma =>
          -- 5
          intro ac u hG hk K hK
          have hco : ∀ c, ac.eval (.const c) = c := fun _ => rfl
          have hfu : ∀ f, ac.eval (.func f) = .func (.func f) #[] #[] := fun _ => rfl
          have hgl : ∀ g, ac.eval (.global g) = .pointer (some ⟨g, 0, none⟩) := fun _ => rfl
          have h10 := hk.new 4 10 rfl (by kernel_rfl)
          replace h10 : ac.eval (.tmp 10) = .pointer (some ⟨gK1, 1, none⟩) := h10
          have c := hG.1.reads (i := 1) (x := .int .i64 l.m) rfl
          refine wp_of_run (x := .int .i64 l.m) (w' := u) ?_ (hK _ _ rfl (Below.refl _ _))
          clear hk hK
          go_light
          generalize ac.eval = ρ at *
          go_simp
      · as_aux_lemma =>
          -- 6
          intro ac u hG hk K hK
          have hco : ∀ c, ac.eval (.const c) = c := fun _ => rfl
          have hfu : ∀ f, ac.eval (.func f) = .func (.func f) #[] #[] := fun _ => rfl
          have hgl : ∀ g, ac.eval (.global g) = .pointer (some ⟨g, 0, none⟩) := fun _ => rfl
          have h11 := hk.new 5 11 rfl (by kernel_rfl)
          replace h11 : ac.eval (.tmp 11) = .int .i64 l.m := h11
          refine wp_of_call (f := 41) (args := #[.int .i64 l.m, .int .i64 2]) ?_ ?_
          · clear hk hK
            go_light
            generalize ac.eval = ρ at *
            go_simp
          · refine (C12.out _).mono ?_
            rintro e w1 ⟨rfl, hb1⟩
            exact ⟨_, rfl, hK _ _ rfl hb1⟩
      · as_aux_lemma =>
          -- 7
          intro ac u hG hk K hK
          have hco : ∀ c, ac.eval (.const c) = c := fun _ => rfl
          have hfu : ∀ f, ac.eval (.func f) = .func (.func f) #[] #[] := fun _ => rfl
          have hgl : ∀ g, ac.eval (.global g) = .pointer (some ⟨g, 0, none⟩) := fun _ => rfl
          have h9 := hk.new 3 9 rfl (by kernel_rfl)
          replace h9 : ac.eval (.tmp 9) = .string (s 9) := h9
          have h12 := hk.new 6 12 rfl (by kernel_rfl)
          replace h12 : ac.eval (.tmp 12) = .string (s 12) := h12
          have hadd := A13.out
          refine wp_of_run (x := .string (s 13)) (w' := u) ?_ (hK _ _ rfl (Below.refl _ _))
          clear hk hK
          go_light
          generalize ac.eval = ρ at *
          go_simp
      · as_aux_lemma =>
          -- 8
          intro ac u hG hk K hK
          have hco : ∀ c, ac.eval (.const c) = c := fun _ => rfl
          have hfu : ∀ f, ac.eval (.func f) = .func (.func f) #[] #[] := fun _ => rfl
          have hgl : ∀ g, ac.eval (.global g) = .pointer (some ⟨g, 0, none⟩) := fun _ => rfl
          have h13 := hk.new 7 13 rfl (by kernel_rfl)
          replace h13 : ac.eval (.tmp 13) = .string (s 13) := h13
          have hadd := A14.out
          refine wp_of_run (x := .string (s 14)) (w' := u) ?_ (hK _ _ rfl (Below.refl _ _))
          clear hk hK
          go_light
          generalize ac.eval = ρ at *
          go_simp
      · as_aux_lemma =>
          -- 9
          intro ac u hG hk K hK
          have hco : ∀ c, ac.eval (.const c) = c := fun _ => rfl
          have hfu : ∀ f, ac.eval (.func f) = .func (.func f) #[] #[] := fun _ => rfl
          have hgl : ∀ g, ac.eval (.global g) = .pointer (some ⟨g, 0, none⟩) := fun _ => rfl
          have h1 : ac.eval (.tmp 1) = .pointer (some ⟨gK1, 0, none⟩) := hk.old 1 (by kernel_rfl)
          refine wp_of_run (x := .pointer (some ⟨gK1, 2, none⟩)) (w' := u) ?_ (hK _ _ rfl (Below.refl _ _))
          clear hk hK
          go_light
          generalize ac.eval = ρ at *
          go_simp
      · as_aux_lemma =>
          -- 10
          intro ac u hG hk K hK
          have hco : ∀ c, ac.eval (.const c) = c := fun _ => rfl
          have hfu : ∀ f, ac.eval (.func f) = .func (.func f) #[] #[] := fun _ => rfl
          have hgl : ∀ g, ac.eval (.global g) = .pointer (some ⟨g, 0, none⟩) := fun _ => rfl
          have h15 := hk.new 9 15 rfl (by kernel_rfl)
          replace h15 : ac.eval (.tmp 15) = .pointer (some ⟨gK1, 2, none⟩) := h15
          have c := hG.1.reads (i := 2) (x := .int .i64 l.d) rfl
          refine wp_of_run (x := .int .i64 l.d) (w' := u) ?_ (hK _ _ rfl (Below.refl _ _))
          clear hk hK
          go_light
          generalize ac.eval = ρ at *
          go_simp
      · as_aux_lemma =>
          -- 11
          intro ac u hG hk K hK
          have hco : ∀ c, ac.eval (.const c) = c := fun _ => rfl
          have hfu : ∀ f, ac.eval (.func f) = .func (.func f) #[] #[] := fun _ => rfl
          have hgl : ∀ g, ac.eval (.global g) = .pointer (some ⟨g, 0, none⟩) := fun _ => rfl
          have h16 := hk.new 10 16 rfl (by kernel_rfl)
          replace h16 : ac.eval (.tmp 16) = .int .i64 l.d := h16
          refine wp_of_call (f := 41) (args := #[.int .i64 l.d, .int .i64 2]) ?_ ?_
          · clear hk hK
            go_light
            generalize ac.eval = ρ at *
            go_simp
          · refine (C17.out _).mono ?_
            rintro e w1 ⟨rfl, hb1⟩
            exact ⟨_, rfl, hK _ _ rfl hb1⟩
      · as_aux_lemma =>
          -- 12
          intro ac u hG hk K hK
          have hco : ∀ c, ac.eval (.const c) = c := fun _ => rfl
          have hfu : ∀ f, ac.eval (.func f) = .func (.func f) #[] #[] := fun _ => rfl
          have hgl : ∀ g, ac.eval (.global g) = .pointer (some ⟨g, 0, none⟩) := fun _ => rfl
          have h14 := hk.new 8 14 rfl (by kernel_rfl)
          replace h14 : ac.eval (.tmp 14) = .string (s 14) := h14
          have h17 := hk.new 11 17 rfl (by kernel_rfl)
          replace h17 : ac.eval (.tmp 17) = .string (s 17) := h17
          have hadd := A18.out
          refine wp_of_run (x := .string (s 18)) (w' := u) ?_ (hK _ _ rfl (Below.refl _ _))
          clear hk hK
          go_light
          generalize ac.eval = ρ at *
          go_simp
      · as_aux_lemma =>
          -- 13
          intro ac u hG hk K hK
          have hco : ∀ c, ac.eval (.const c) = c := fun _ => rfl
          have hfu : ∀ f, ac.eval (.func f) = .func (.func f) #[] #[] := fun _ => rfl
          have hgl : ∀ g, ac.eval (.global g) = .pointer (some ⟨g, 0, none⟩) := fun _ => rfl
          have h18 := hk.new 12 18 rfl (by kernel_rfl)
          replace h18 : ac.eval (.tmp 18) = .string (s 18) := h18
          have hadd := A19.out
          refine wp_of_run (x := .string (s 19)) (w' := u) ?_ (hK _ _ rfl (Below.refl _ _))
          clear hk hK
          go_light
          generalize ac.eval = ρ at *
          go_simp
      · as_aux_lemma =>
          -- 14
          intro ac u hG hk K hK
          have hco : ∀ c, ac.eval (.const c) = c := fun _ => rfl
          have hfu : ∀ f, ac.eval (.func f) = .func (.func f) #[] #[] := fun _ => rfl
          have hgl : ∀ g, ac.eval (.global g) = .pointer (some ⟨g, 0, none⟩) := fun _ => rfl
          have h1 : ac.eval (.tmp 1) = .pointer (some ⟨gK1, 0, none⟩) := hk.old 1 (by kernel_rfl)
          refine wp_of_run (x := .pointer (some ⟨gK1, 3, none⟩)) (w' := u) ?_ (hK _ _ rfl (Below.refl _ _))
          clear hk hK
          go_light
          generalize ac.eval = ρ at *
          go_simp
      · as_aux_lemma =>
          -- 15
          intro ac u hG hk K hK
          have hco : ∀ c, ac.eval (.const c) = c := fun _ => rfl
          have hfu : ∀ f, ac.eval (.func f) = .func (.func f) #[] #[] := fun _ => rfl
          have hgl : ∀ g, ac.eval (.global g) = .pointer (some ⟨g, 0, none⟩) := fun _ => rfl
          have h20 := hk.new 14 20 rfl (by kernel_rfl)
          replace h20 : ac.eval (.tmp 20) = .pointer (some ⟨gK1, 3, none⟩) := h20
          have c := hG.1.reads (i := 3) (x := .int .i64 l.hh) rfl
          refine wp_of_run (x := .int .i64 l.hh) (w' := u) ?_ (hK _ _ rfl (Below.refl _ _))
          clear hk hK
          go_light
          generalize ac.eval = ρ at *
          go_simp
      · as_aux_lemma =>
          -- 16
          intro ac u hG hk K hK
          have hco : ∀ c, ac.eval (.const c) = c := fun _ => rfl
          have hfu : ∀ f, ac.eval (.func f) = .func (.func f) #[] #[] := fun _ => rfl
          have hgl : ∀ g, ac.eval (.global g) = .pointer (some ⟨g, 0, none⟩) := fun _ => rfl
          have h21 := hk.new 15 21 rfl (by kernel_rfl)
          replace h21 : ac.eval (.tmp 21) = .int .i64 l.hh := h21
          refine wp_of_call (f := 41) (args := #[.int .i64 l.hh, .int .i64 2]) ?_ ?_
          · clear hk hK
            go_light
            generalize ac.eval = ρ at *
            go_simp
          · refine (C22.out _).mono ?_
            rintro e w1 ⟨rfl, hb1⟩
            exact ⟨_, rfl, hK _ _ rfl hb1⟩
      · as_aux_lemma =>
          -- 17
          intro ac u hG hk K hK
          have hco : ∀ c, ac.eval (.const c) = c := fun _ => rfl
          have hfu : ∀ f, ac.eval (.func f) = .func (.func f) #[] #[] := fun _ => rfl
          have hgl : ∀ g, ac.eval (.global g) = .pointer (some ⟨g, 0, none⟩) := fun _ => rfl
          have h19 := hk.new 13 19 rfl (by kernel_rfl)
          replace h19 : ac.eval (.tmp 19) = .string (s 19) := h19
          have h22 := hk.new 16 22 rfl (by kernel_rfl)
          replace h22 : ac.eval (.tmp 22) = .string (s 22) := h22
          have hadd := A23.out
          refine wp_of_run (x := .string (s 23)) (w' := u) ?_ (hK _ _ rfl (Below.refl _ _))
          clear hk hK
          go_light
          generalize ac.eval = ρ at *
          go_simp
      · as_aux_lemma =>
          -- 18
          intro ac u hG hk K hK
          have hco : ∀ c, ac.eval (.const c) = c := fun _ => rfl
          have hfu : ∀ f, ac.eval (.func f) = .func (.func f) #[] #[] := fun _ => rfl
          have hgl : ∀ g, ac.eval (.global g) = .pointer (some ⟨g, 0, none⟩) := fun _ => rfl
          have h23 := hk.new 17 23 rfl (by kernel_rfl)
          replace h23 : ac.eval (.tmp 23) = .string (s 23) := h23
          have hadd := A24.out
          refine wp_of_run (x := .string (s 24)) (w' := u) ?_ (hK _ _ rfl (Below.refl _ _))
          clear hk hK
          go_light
          generalize ac.eval = ρ at *
          go_simp
      · as_aux_lemma =>
          -- 19
          intro ac u hG hk K hK
          have hco : ∀ c, ac.eval (.const c) = c := fun _ => rfl
          have hfu : ∀ f, ac.eval (.func f) = .func (.func f) #[] #[] := fun _ => rfl
          have hgl : ∀ g, ac.eval (.global g) = .pointer (some ⟨g, 0, none⟩) := fun _ => rfl
          have h1 : ac.eval (.tmp 1) = .pointer (some ⟨gK1, 0, none⟩) := hk.old 1 (by kernel_rfl)
          refine wp_of_run (x := .pointer (some ⟨gK1, 4, none⟩)) (w' := u) ?_ (hK _ _ rfl (Below.refl _ _))
          clear hk hK
          go_light
          generalize ac.eval = ρ at *
          go_simp
      · as_aux_lemma =>
          -- 20
          intro ac u hG hk K hK
          have hco : ∀ c, ac.eval (.const c) = c := fun _ => rfl
          have hfu : ∀ f, ac.eval (.func f) = .func (.func f) #[] #[] := fun _ => rfl
          have hgl : ∀ g, ac.eval (.global g) = .pointer (some ⟨g, 0, none⟩) := fun _ => rfl
          have h25 := hk.new 19 25 rfl (by kernel_rfl)
          replace h25 : ac.eval (.tmp 25) = .pointer (some ⟨gK1, 4, none⟩) := h25
          have c := hG.1.reads (i := 4) (x := .int .i64 l.mi) rfl
          refine wp_of_run (x := .int .i64 l.mi) (w' := u) ?_ (hK _ _ rfl (Below.refl _ _))
          clear hk hK
          go_light
          generalize ac.eval = ρ at *
          go_simp
      · as_aux_lemma =>
          -- 21
          intro ac u hG hk K hK
          have hco : ∀ c, ac.eval (.const c) = c := fun _ => rfl
          have hfu : ∀ f, ac.eval (.func f) = .func (.func f) #[] #[] := fun _ => rfl
          have hgl : ∀ g, ac.eval (.global g) = .pointer (some ⟨g, 0, none⟩) := fun _ => rfl
          have h26 := hk.new 20 26 rfl (by kernel_rfl)
          replace h26 : ac.eval (.tmp 26) = .int .i64 l.mi := h26
          refine wp_of_call (f := 41) (args := #[.int .i64 l.mi, .int .i64 2]) ?_ ?_
          · clear hk hK
            go_light
            generalize ac.eval = ρ at *
            go_simp
          · refine (C27.out _).mono ?_
            rintro e w1 ⟨rfl, hb1⟩
            exact ⟨_, rfl, hK _ _ rfl hb1⟩
      · as_aux_lemma =>
          -- 22
          intro ac u hG hk K hK
          have hco : ∀ c, ac.eval (.const c) = c := fun _ => rfl
          have hfu : ∀ f, ac.eval (.func f) = .func (.func f) #[] #[] := fun _ => rfl
          have hgl : ∀ g, ac.eval (.global g) = .pointer (some ⟨g, 0, none⟩) := fun _ => rfl
          have h24 := hk.new 18 24 rfl (by kernel_rfl)
          replace h24 : ac.eval (.tmp 24) = .string (s 24) := h24
          have h27 := hk.new 21 27 rfl (by kernel_rfl)
          replace h27 : ac.eval (.tmp 27) = .string (s 27) := h27
          have hadd := A28.out
          refine wp_of_run (x := .string (s 28)) (w' := u) ?_ (hK _ _ rfl (Below.refl _ _))
          clear hk hK
          go_light
          generalize ac.eval = ρ at *
          go_simp
      · as_aux_lemma =>
          -- 23
          intro ac u hG hk K hK
          have hco : ∀ c, ac.eval (.const c) = c := fun _ => rfl
          have hfu : ∀ f, ac.eval (.func f) = .func (.func f) #[] #[] := fun _ => rfl
          have hgl : ∀ g, ac.eval (.global g) = .pointer (some ⟨g, 0, none⟩) := fun _ => rfl
          have h28 := hk.new 22 28 rfl (by kernel_rfl)
          replace h28 : ac.eval (.tmp 28) = .string (s 28) := h28
          have hadd := A29.out
          refine wp_of_run (x := .string (s 29)) (w' := u) ?_ (hK _ _ rfl (Below.refl _ _))
          clear hk hK
          go_light
          generalize ac.eval = ρ at *
          go_simp
      · as_aux_lemma =>
          -- 24
          intro ac u hG hk K hK
          have hco : ∀ c, ac.eval (.const c) = c := fun _ => rfl
          have hfu : ∀ f, ac.eval (.func f) = .func (.func f) #[] #[] := fun _ => rfl
          have hgl : ∀ g, ac.eval (.global g) = .pointer (some ⟨g, 0, none⟩) := fun _ => rfl
          have h1 : ac.eval (.tmp 1) = .pointer (some ⟨gK1, 0, none⟩) := hk.old 1 (by kernel_rfl)
          refine wp_of_run (x := .pointer (some ⟨gK1, 5, none⟩)) (w' := u) ?_ (hK _ _ rfl (Below.refl _ _))
          clear hk hK
          go_light
          generalize ac.eval = ρ at *
          go_simp
      · as_aux_lemma =>
          -- 25
          intro ac u hG hk K hK
          have hco : ∀ c, ac.eval (.const c) = c := fun _ => rfl
          have hfu : ∀ f, ac.eval (.func f) = .func (.func f) #[] #[] := fun _ => rfl
          have hgl : ∀ g, ac.eval (.global g) = .pointer (some ⟨g, 0, none⟩) := fun _ => rfl
          have h30 := hk.new 24 30 rfl (by kernel_rfl)
          replace h30 : ac.eval (.tmp 30) = .pointer (some ⟨gK1, 5, none⟩) := h30
          have c := hG.1.reads (i := 5) (x := .int .i64 l.se) rfl
          refine wp_of_run (x := .int .i64 l.se) (w' := u) ?_ (hK _ _ rfl (Below.refl _ _))
          clear hk hK
          go_light
          generalize ac.eval = ρ at *
          go_simp
      · as_aux_lemma =>
          -- 26
          intro ac u hG hk K hK
          have hco : ∀ c, ac.eval (.const c) = c := fun _ => rfl
          have hfu : ∀ f, ac.eval (.func f) = .func (.func f) #[] #[] := fun _ => rfl
          have hgl : ∀ g, ac.eval (.global g) = .pointer (some ⟨g, 0, none⟩) := fun _ => rfl
          have h31 := hk.new 25 31 rfl (by kernel_rfl)
          replace h31 : ac.eval (.tmp 31) = .int .i64 l.se := h31
          refine wp_of_call (f := 41) (args := #[.int .i64 l.se, .int .i64 2]) ?_ ?_
          · clear hk hK
            go_light
            generalize ac.eval = ρ at *
            go_simp
          · refine (C32.out _).mono ?_
            rintro e w1 ⟨rfl, hb1⟩
            exact ⟨_, rfl, hK _ _ rfl hb1⟩
      · as_aux_lemma =>
          -- 27
          intro ac u hG hk K hK
          have hco : ∀ c, ac.eval (.const c) = c := fun _ => rfl
          have hfu : ∀ f, ac.eval (.func f) = .func (.func f) #[] #[] := fun _ => rfl
          have hgl : ∀ g, ac.eval (.global g) = .pointer (some ⟨g, 0, none⟩) := fun _ => rfl
          have h29 := hk.new 23 29 rfl (by kernel_rfl)
          replace h29 : ac.eval (.tmp 29) = .string (s 29) := h29
          have h32 := hk.new 26 32 rfl (by kernel_rfl)
          replace h32 : ac.eval (.tmp 32) = .string (s 32) := h32
          have hadd := A33.out
          refine wp_of_run (x := .string (s 33)) (w' := u) ?_ (hK _ _ rfl (Below.refl _ _))
          clear hk hK
          go_light
          generalize ac.eval = ρ at *
          go_simp
      · as_aux_lemma =>
          -- 28
          intro ac u hG hk K hK
          have hco : ∀ c, ac.eval (.const c) = c := fun _ => rfl
          have hfu : ∀ f, ac.eval (.func f) = .func (.func f) #[] #[] := fun _ => rfl
          have hgl : ∀ g, ac.eval (.global g) = .pointer (some ⟨g, 0, none⟩) := fun _ => rfl
          have h33 := hk.new 27 33 rfl (by kernel_rfl)
          replace h33 : ac.eval (.tmp 33) = .string (s 33) := h33
          refine wp_of_run (x := .string (s 33)) (w' := u) ?_ (hK _ _ rfl (Below.refl _ _))
          clear hk hK
          go_light
          generalize ac.eval = ρ at *
          go_simp
    · intro v w9 hG hv
      have v0 : v 0 = .pointer (some ⟨gK1, 0, none⟩) := hv 0 (of_decide_eq_true (by kernel_rfl))
      have v1 : v 1 = .int .i64 l.y := hv 1 (of_decide_eq_true (by kernel_rfl))
      have v2 : v 2 = .string (s 8) := hv 2 (of_decide_eq_true (by kernel_rfl))
      have v3 : v 3 = .string (s 9) := hv 3 (of_decide_eq_true (by kernel_rfl))
      have v4 : v 4 = .pointer (some ⟨gK1, 1, none⟩) := hv 4 (of_decide_eq_true (by kernel_rfl))
      have v5 : v 5 = .int .i64 l.m := hv 5 (of_decide_eq_true (by kernel_rfl))
      have v6 : v 6 = .string (s 12) := hv 6 (of_decide_eq_true (by kernel_rfl))
      have v7 : v 7 = .string (s 13) := hv 7 (of_decide_eq_true (by kernel_rfl))
      have v8 : v 8 = .string (s 14) := hv 8 (of_decide_eq_true (by kernel_rfl))
      have v9 : v 9 = .pointer (some ⟨gK1, 2, none⟩) := hv 9 (of_decide_eq_true (by kernel_rfl))
      have v10 : v 10 = .int .i64 l.d := hv 10 (of_decide_eq_true (by kernel_rfl))
      have v11 : v 11 = .string (s 17) := hv 11 (of_decide_eq_true (by kernel_rfl))
      have v12 : v 12 = .string (s 18) := hv 12 (of_decide_eq_true (by kernel_rfl))
      have v13 : v 13 = .string (s 19) := hv 13 (of_decide_eq_true (by kernel_rfl))
      have v14 : v 14 = .pointer (some ⟨gK1, 3, none⟩) := hv 14 (of_decide_eq_true (by kernel_rfl))
      have v15 : v 15 = .int .i64 l.hh := hv 15 (of_decide_eq_true (by kernel_rfl))
      have v16 : v 16 = .string (s 22) := hv 16 (of_decide_eq_true (by kernel_rfl))
      have v17 : v 17 = .string (s 23) := hv 17 (of_decide_eq_true (by kernel_rfl))
      have v18 : v 18 = .string (s 24) := hv 18 (of_decide_eq_true (by kernel_rfl))
      have v19 : v 19 = .pointer (some ⟨gK1, 4, none⟩) := hv 19 (of_decide_eq_true (by kernel_rfl))
      have v20 : v 20 = .int .i64 l.mi := hv 20 (of_decide_eq_true (by kernel_rfl))
      have v21 : v 21 = .string (s 27) := hv 21 (of_decide_eq_true (by kernel_rfl))
      have v22 : v 22 = .string (s 28) := hv 22 (of_decide_eq_true (by kernel_rfl))
      have v23 : v 23 = .string (s 29) := hv 23 (of_decide_eq_true (by kernel_rfl))
      have v24 : v 24 = .pointer (some ⟨gK1, 5, none⟩) := hv 24 (of_decide_eq_true (by kernel_rfl))
      have v25 : v 25 = .int .i64 l.se := hv 25 (of_decide_eq_true (by kernel_rfl))
      have v26 : v 26 = .string (s 32) := hv 26 (of_decide_eq_true (by kernel_rfl))
      have v27 : v 27 = .string (s 33) := hv 27 (of_decide_eq_true (by kernel_rfl))
      have v28 : v 28 = .string (s 33) := hv 28 (of_decide_eq_true (by kernel_rfl))
      clear hv
      simp only [putAll, if_true, Act.put, List.setIfInBounds_toArray, List.set_cons_zero, List.set_cons_succ, v0, v1, v2, v3, v4, v5, v6, v7, v8, v9, v10, v11, v12, v13, v14, v15, v16, v17, v18, v19, v20, v21, v22, v23, v24, v25, v26, v27, v28]
      clear v0 v1 v2 v3 v4 v5 v6 v7 v8 v9 v10 v11 v12 v13 v14 v15 v16 v17 v18 v19 v20 v21 v22 v23 v24 v25 v26 v27 v28
      go_wp2
      go_ret
      exact ⟨by rw [HX.out, ← HE.out]; rfl, hG.2⟩
  · have HX : Hid (strOfNums (txL l) = { data := #[] }) := by unfold txL; rw [Hid, hl]; rfl
    have HL := Lib.hid hl
    clear hl
    go_enter Tryd.func31, Tryd.ntmps31
    go_upto_region 1 with ((refine big_box rfl 27 _ rfl (lbA l) rfl (by kernel_rfl) ?_; intro gK1 wK1 hlK1 nK1 hbK1; have K1 := Lib.hid nK1; have LK1 := Lib.hid (Nat.le_trans (HB.out).size hlK1); replace HB := Lib.hid (bstep HB.out hbK1); clear hlK1 nK1 hbK1; try simp only [Act.put, List.setIfInBounds_toArray, List.set_cons_zero, List.set_cons_succ]))
    go_wp2_with ((refine big_whole rfl 27 _ rfl gK1 rfl K1.out Tryd.underlying27 rfl (by kernel_rfl) ?_; try simp only [Act.put, List.setIfInBounds_toArray, List.set_cons_zero, List.set_cons_succ]))
    refine (rright15_any l _).mono ?_
    rintro e c1 ⟨rfl, hc1⟩
    replace K1 := Lib.hid ((K1.out).keptB hc1)
    replace HB := Lib.hid (bstep HB.out hc1)
    clear hc1
    rw [HL.out]
    go_wp2
    go_ret
    exact ⟨by rw [HX.out]; rfl, HB.out⟩

end Go.Proofs.YtfdadebddfhpdaaDoor
