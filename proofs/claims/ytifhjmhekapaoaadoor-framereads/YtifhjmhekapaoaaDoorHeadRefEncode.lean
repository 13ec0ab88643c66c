/- The walk over the reference's Encode. -/
import Derived.Test.YtifhjmhekapaoaaDoorHeadRefRows
import Derived.Test.YtifhjmhekapaoaaDoorFreeOrder
namespace Go.Proofs.YtifhjmhekapaoaaDoor
set_option maxRecDepth 100000
open Go.RowKit
set_option linter.unusedVariables false

/-- the parts of a head's text -/
def strE (h : Hd) : Nat → ByteArray
  | 20 => strOfNums ([h.t, 2])
  | 24 => strOfNums (beL 2 (longN h.t))
  | 25 => strOfNums ([h.t, 2] ++ beL 2 (longN h.t))
  | 30 => strOfNums ([h.d, 0])
  | 31 => strOfNums (([h.t, 2] ++ beL 2 (longN h.t)) ++ [h.d, 0])
  | 34 => strOfNums (beL 2 h.f)
  | 35 => strOfNums ((([h.t, 2] ++ beL 2 (longN h.t)) ++ [h.d, 0]) ++ beL 2 h.f)
  | 38 => strOfNums (beL 8 h.c)
  | 39 => strOfNums (((([h.t, 2] ++ beL 2 (longN h.t)) ++ [h.d, 0]) ++ beL 2 h.f) ++ beL 8 h.c)
  | 40 => strOfNums ((((([h.t, 2] ++ beL 2 (longN h.t)) ++ [h.d, 0]) ++ beL 2 h.f) ++ beL 8 h.c) ++ [0, 0, 0, 0])
  | 42 => strOfNums (ptL h.p)
  | 43 => strOfNums (((((([h.t, 2] ++ beL 2 (longN h.t)) ++ [h.d, 0]) ++ beL 2 h.f) ++ beL 8 h.c) ++ [0, 0, 0, 0]) ++ ptL h.p)
  | 46 => strOfNums (beL 2 h.s)
  | 47 => strOfNums ((((((([h.t, 2] ++ beL 2 (longN h.t)) ++ [h.d, 0]) ++ beL 2 h.f) ++ beL 8 h.c) ++ [0, 0, 0, 0]) ++ ptL h.p) ++ beL 2 h.s)
  | 54 => strOfNums ([0, h.l % 256])
  | 55 => strOfNums (((((((([h.t, 2] ++ beL 2 (longN h.t)) ++ [h.d, 0]) ++ beL 2 h.f) ++ beL 8 h.c) ++ [0, 0, 0, 0]) ++ ptL h.p) ++ beL 2 h.s) ++ [0, h.l % 256])
  | _ => ByteArray.empty
/-- what each operation yields -/
def PhiE (h : Hd) (BK gP cP : Nat) (s : Nat → ByteArray) : Nat → World → Value → Prop
  | 0, _, x => x = .pointer (some ⟨BK, 0, none⟩)
  | 1, _, x => x = .int .i64 h.t
  | 2, _, x => x = .int .u8 h.t
  | 3, w, x => ∃ g, x = .slice (some ⟨g, 0, none⟩) 2 2 ∧ Holds w g 5 #[.int .u8 h.t, .int .u8 2]
  | 4, _, x => x = .string (s 20)
  | 5, _, x => x = .pointer (some ⟨BK, 0, none⟩)
  | 6, _, x => x = .int .i64 h.t
  | 7, _, x => x = .int .i64 (longN h.t)
  | 8, _, x => x = .string (s 24)
  | 9, _, x => x = .string (s 25)
  | 10, _, x => x = .pointer (some ⟨BK, 1, none⟩)
  | 11, _, x => x = .int .i64 h.d
  | 12, _, x => x = .int .u8 h.d
  | 13, w, x => ∃ g, x = .slice (some ⟨g, 0, none⟩) 2 2 ∧ Holds w g 5 #[.int .u8 h.d, .int .u8 0]
  | 14, _, x => x = .string (s 30)
  | 15, _, x => x = .string (s 31)
  | 16, _, x => x = .pointer (some ⟨BK, 2, none⟩)
  | 17, _, x => x = .int .i64 h.f
  | 18, _, x => x = .string (s 34)
  | 19, _, x => x = .string (s 35)
  | 20, _, x => x = .pointer (some ⟨BK, 3, none⟩)
  | 21, _, x => x = .int .i64 h.c
  | 22, _, x => x = .string (s 38)
  | 23, _, x => x = .string (s 39)
  | 24, _, x => x = .string (s 40)
  | 25, _, x => x = .slice (some ⟨gP, 0, none⟩) 10 cP
  | 26, _, x => x = .string (s 42)
  | 27, _, x => x = .string (s 43)
  | 28, _, x => x = .pointer (some ⟨BK, 13, none⟩)
  | 29, _, x => x = .int .i64 h.s
  | 30, _, x => x = .string (s 46)
  | 31, _, x => x = .string (s 47)
  | 32, _, x => x = .pointer (some ⟨BK, 14, none⟩)
  | 33, _, x => x = .int .i64 h.l
  | 34, _, x => x = .int .i64 (h.l + 256)
  | 35, _, x => x = .int .i64 (h.l % 256)
  | 36, _, x => x = .int .u8 (h.l % 256)
  | 37, w, x => ∃ g, x = .slice (some ⟨g, 0, none⟩) 2 2 ∧ Holds w g 5 #[.int .u8 0, .int .u8 (h.l % 256)]
  | 38, _, x => x = .string (s 54)
  | 39, _, x => x = .string (s 55)
  | 40, _, x => x = .string (s 55)
  | _, _, _ => True
theorem PhiE_keep {h : Hd} {BK gP cP : Nat} {s : Nat → ByteArray} (i : Nat) (w w' : World) (x : Value) (hb : Below w.heap.size w w') (hp : PhiE h BK gP cP s i w x) : PhiE h BK gP cP s i w' x := by
  match i, hp with
  | 0, hp => exact hp
  | 1, hp => exact hp
  | 2, hp => exact hp
  | 3, hp => obtain ⟨g, h1, h2⟩ := hp; exact ⟨g, h1, h2.keptB hb⟩
  | 4, hp => exact hp
  | 5, hp => exact hp
  | 6, hp => exact hp
  | 7, hp => exact hp
  | 8, hp => exact hp
  | 9, hp => exact hp
  | 10, hp => exact hp
  | 11, hp => exact hp
  | 12, hp => exact hp
  | 13, hp => obtain ⟨g, h1, h2⟩ := hp; exact ⟨g, h1, h2.keptB hb⟩
  | 14, hp => exact hp
  | 15, hp => exact hp
  | 16, hp => exact hp
  | 17, hp => exact hp
  | 18, hp => exact hp
  | 19, hp => exact hp
  | 20, hp => exact hp
  | 21, hp => exact hp
  | 22, hp => exact hp
  | 23, hp => exact hp
  | 24, hp => exact hp
  | 25, hp => exact hp
  | 26, hp => exact hp
  | 27, hp => exact hp
  | 28, hp => exact hp
  | 29, hp => exact hp
  | 30, hp => exact hp
  | 31, hp => exact hp
  | 32, hp => exact hp
  | 33, hp => exact hp
  | 34, hp => exact hp
  | 35, hp => exact hp
  | 36, hp => exact hp
  | 37, hp => obtain ⟨g, h1, h2⟩ := hp; exact ⟨g, h1, h2.keptB hb⟩
  | 38, hp => exact hp
  | 39, hp => exact hp
  | 40, hp => exact hp
  | n + 41, hp => trivial
/-- what the world keeps -/
def GE (h : Hd) (BK gP : Nat) (w0 w : World) : Prop := Holds w BK 32 #[.int .i64 h.t, .int .i64 h.d, .int .i64 h.f, .int .i64 h.c, .int .u8 h.p.c.b0, .int .u8 h.p.c.b1, .int .u8 h.p.c.b2, .int .u8 h.p.c.b3, .int .u8 h.p.c.b4, .int .u8 h.p.c.b5, .int .u8 h.p.c.b6, .int .u8 h.p.c.b7, .int .i64 h.p.n, .int .i64 h.s, .int .i64 h.l] ∧ (∀ i, i < 10 → w.cell? ⟨gP, i, none⟩ = some (.int .u8 ((ptL h.p).getD i 0))) ∧ Below w0.heap.size w0 w
theorem GE_keep {h : Hd} {BK gP : Nat} {w0 : World} (w w' : World) (hb : Below w.heap.size w w') (hg : GE h BK gP w0 w) : GE h BK gP w0 w' :=
  ⟨hg.1.keptB hb, fun i hi => keepc hb (hg.2.1 i hi), bstep hg.2.2 hb⟩
theorem encL_str (h : Hd) : strE h 55 = strOfNums (encL h) := rfl

set_option maxRecDepth 100000 in
set_option maxHeartbeats 400000 in
theorem rencode_no (h : Hd) (w : World) (hr : h.right = false) :
    Calls Tryd.prog 35 #[.agg #[.int .i64 h.t, .int .i64 h.d, .int .i64 h.f, .int .i64 h.c, .int .u8 h.p.c.b0, .int .u8 h.p.c.b1, .int .u8 h.p.c.b2, .int .u8 h.p.c.b3, .int .u8 h.p.c.b4, .int .u8 h.p.c.b5, .int .u8 h.p.c.b6, .int .u8 h.p.c.b7, .int .i64 h.p.n, .int .i64 h.s, .int .i64 h.l]] w fun e w' => e = .returned (.tuple #[.slice none 0 0, .bool false]) ∧ Below w.heap.size w w' := by
  have HR := Lib.hid hr
  clear hr
  have K1 := Lib.hid (Holds.fresh w 32 #[.int .i64 h.t, .int .i64 h.d, .int .i64 h.f, .int .i64 h.c, .int .u8 h.p.c.b0, .int .u8 h.p.c.b1, .int .u8 h.p.c.b2, .int .u8 h.p.c.b3, .int .u8 h.p.c.b4, .int .u8 h.p.c.b5, .int .u8 h.p.c.b6, .int .u8 h.p.c.b7, .int .i64 h.p.n, .int .i64 h.s, .int .i64 h.l] (g := w.heap.size) (by simp))
  have HB := Lib.hid (bnew w (.cells #[.int .i64 h.t, .int .i64 h.d, .int .i64 h.f, .int .i64 h.c, .int .u8 h.p.c.b0, .int .u8 h.p.c.b1, .int .u8 h.p.c.b2, .int .u8 h.p.c.b3, .int .u8 h.p.c.b4, .int .u8 h.p.c.b5, .int .u8 h.p.c.b6, .int .u8 h.p.c.b7, .int .i64 h.p.n, .int .i64 h.s, .int .i64 h.l] 32))
  go_enter Tryd.func35, Tryd.ntmps35
  go_wp2_with fail
  generalize (w.alloc (.cells #[.int .i64 h.t, .int .i64 h.d, .int .i64 h.f, .int .i64 h.c, .int .u8 h.p.c.b0, .int .u8 h.p.c.b1, .int .u8 h.p.c.b2, .int .u8 h.p.c.b3, .int .u8 h.p.c.b4, .int .u8 h.p.c.b5, .int .u8 h.p.c.b6, .int .u8 h.p.c.b7, .int .i64 h.p.n, .int .i64 h.s, .int .i64 h.l] 32)) = W0 at *
  have x1_0 := (K1.out).reads (i := 0) rfl
  have x1_1 := (K1.out).reads (i := 1) rfl
  have x1_2 := (K1.out).reads (i := 2) rfl
  have x1_3 := (K1.out).reads (i := 3) rfl
  have x1_4 := (K1.out).reads (i := 4) rfl
  have x1_5 := (K1.out).reads (i := 5) rfl
  have x1_6 := (K1.out).reads (i := 6) rfl
  have x1_7 := (K1.out).reads (i := 7) rfl
  have x1_8 := (K1.out).reads (i := 8) rfl
  have x1_9 := (K1.out).reads (i := 9) rfl
  have x1_10 := (K1.out).reads (i := 10) rfl
  have x1_11 := (K1.out).reads (i := 11) rfl
  have x1_12 := (K1.out).reads (i := 12) rfl
  have x1_13 := (K1.out).reads (i := 13) rfl
  have x1_14 := (K1.out).reads (i := 14) rfl
  refine (rright5_any h _).mono ?_
  rintro e w1 ⟨rfl, hb1⟩
  rw [HR.out]
  clear x1_0 x1_1 x1_2 x1_3 x1_4 x1_5 x1_6 x1_7 x1_8 x1_9 x1_10 x1_11 x1_12 x1_13 x1_14
  replace HB := Lib.hid (bstep HB.out hb1)
  clear hb1
  go_wp2
  go_ret2
  exact ⟨rfl, HB.out⟩

/-- what the reference's Encode leaves: a slice that reads as the bytes -/
def RRow34 (zs : List Int) (w : World) (e : Ending) (w' : World) : Prop :=
  ∃ g c, w.heap.size ≤ g ∧ g < w'.heap.size ∧ (∀ i, i < zs.length → w'.cell? ⟨g, i, none⟩ = some (.int .u8 (zs.getD i 0))) ∧ Below w.heap.size w w' ∧ e = .returned (.tuple #[.slice (some ⟨g, 0, none⟩) 34 c, .bool true])

set_option maxRecDepth 100000 in
set_option maxHeartbeats 4000000 in
theorem rencode_yes (h : Hd) (w : World) (hr : h.right = true) (hok : ∀ z ∈ encL h, isByte z) :
    Calls Tryd.prog 35 #[.agg #[.int .i64 h.t, .int .i64 h.d, .int .i64 h.f, .int .i64 h.c, .int .u8 h.p.c.b0, .int .u8 h.p.c.b1, .int .u8 h.p.c.b2, .int .u8 h.p.c.b3, .int .u8 h.p.c.b4, .int .u8 h.p.c.b5, .int .u8 h.p.c.b6, .int .u8 h.p.c.b7, .int .i64 h.p.n, .int .i64 h.s, .int .i64 h.l]] w (RRow34 (encL h) w) := by
  obtain ⟨hln, ⟨d0, d1⟩, hfl, ⟨p0, p1⟩, ⟨s0, s1⟩, l0, l1⟩ := Hd.right_iff.1 hr
  have hfb := flagB_bd hfl
  have htb := (longN_ne hln).1
  have hlb := longN_bd h.t
  have HF := Lib.hid (show fitB h.p.n = true from fitB_iff.2 ⟨by omega, by omega⟩)
  have HR := Lib.hid hr
  obtain ⟨s, hs⟩ : ∃ s, strE h = s := ⟨_, rfl⟩
  have HS20 : Hid (s 20 = strOfNums ([h.t, 2])) := by rw [Hid, ← hs]; rfl
  have HS24 : Hid (s 24 = strOfNums (beL 2 (longN h.t))) := by rw [Hid, ← hs]; rfl
  have HS30 : Hid (s 30 = strOfNums ([h.d, 0])) := by rw [Hid, ← hs]; rfl
  have HS34 : Hid (s 34 = strOfNums (beL 2 h.f)) := by rw [Hid, ← hs]; rfl
  have HS38 : Hid (s 38 = strOfNums (beL 8 h.c)) := by rw [Hid, ← hs]; rfl
  have HS42 : Hid (s 42 = strOfNums (ptL h.p)) := by rw [Hid, ← hs]; rfl
  have HS46 : Hid (s 46 = strOfNums (beL 2 h.s)) := by rw [Hid, ← hs]; rfl
  have HS54 : Hid (s 54 = strOfNums ([0, h.l % 256])) := by rw [Hid, ← hs]; rfl
  have HS25 : Hid (s 25 = strOfNums ([h.t, 2] ++ beL 2 (longN h.t))) := by rw [Hid, ← hs]; rfl
  have HS31 : Hid (s 31 = strOfNums (([h.t, 2] ++ beL 2 (longN h.t)) ++ [h.d, 0])) := by rw [Hid, ← hs]; rfl
  have HS35 : Hid (s 35 = strOfNums ((([h.t, 2] ++ beL 2 (longN h.t)) ++ [h.d, 0]) ++ beL 2 h.f)) := by rw [Hid, ← hs]; rfl
  have HS39 : Hid (s 39 = strOfNums (((([h.t, 2] ++ beL 2 (longN h.t)) ++ [h.d, 0]) ++ beL 2 h.f) ++ beL 8 h.c)) := by rw [Hid, ← hs]; rfl
  have HS40 : Hid (s 40 = strOfNums ((((([h.t, 2] ++ beL 2 (longN h.t)) ++ [h.d, 0]) ++ beL 2 h.f) ++ beL 8 h.c) ++ [0, 0, 0, 0])) := by rw [Hid, ← hs]; rfl
  have HS43 : Hid (s 43 = strOfNums (((((([h.t, 2] ++ beL 2 (longN h.t)) ++ [h.d, 0]) ++ beL 2 h.f) ++ beL 8 h.c) ++ [0, 0, 0, 0]) ++ ptL h.p)) := by rw [Hid, ← hs]; rfl
  have HS47 : Hid (s 47 = strOfNums ((((((([h.t, 2] ++ beL 2 (longN h.t)) ++ [h.d, 0]) ++ beL 2 h.f) ++ beL 8 h.c) ++ [0, 0, 0, 0]) ++ ptL h.p) ++ beL 2 h.s)) := by rw [Hid, ← hs]; rfl
  have HS55 : Hid (s 55 = strOfNums (((((((([h.t, 2] ++ beL 2 (longN h.t)) ++ [h.d, 0]) ++ beL 2 h.f) ++ beL 8 h.c) ++ [0, 0, 0, 0]) ++ ptL h.p) ++ beL 2 h.s) ++ [0, h.l % 256])) := by rw [Hid, ← hs]; rfl
  have A25 : Hid (∀ w, (Op.stringOp .add (s 20) (s 24)).run Tryd.prog w = .ok (.string (s 25)) w) := by
    intro w
    rw [HS20.out, HS25.out, HS24.out]
    exact add_str _ _ (by simp [beL_length]) w
  have A31 : Hid (∀ w, (Op.stringOp .add (s 25) (s 30)).run Tryd.prog w = .ok (.string (s 31)) w) := by
    intro w
    rw [HS25.out, HS31.out, HS30.out]
    exact add_str _ _ (by simp [beL_length]) w
  have A35 : Hid (∀ w, (Op.stringOp .add (s 31) (s 34)).run Tryd.prog w = .ok (.string (s 35)) w) := by
    intro w
    rw [HS31.out, HS35.out, HS34.out]
    exact add_str _ _ (by simp [beL_length]) w
  have A39 : Hid (∀ w, (Op.stringOp .add (s 35) (s 38)).run Tryd.prog w = .ok (.string (s 39)) w) := by
    intro w
    rw [HS35.out, HS39.out, HS38.out]
    exact add_str _ _ (by simp [beL_length]) w
  have A40 : Hid (∀ w, (Op.stringOp .add (s 39) ({ data := #[0, 0, 0, 0] })).run Tryd.prog w = .ok (.string (s 40)) w) := by
    intro w
    rw [HS39.out, HS40.out]
    exact add_str _ [0, 0, 0, 0] (by simp [beL_length]) w
  have A43 : Hid (∀ w, (Op.stringOp .add (s 40) (s 42)).run Tryd.prog w = .ok (.string (s 43)) w) := by
    intro w
    rw [HS40.out, HS43.out, HS42.out]
    exact add_str _ _ (by simp [beL_length, ptL_length]) w
  have A47 : Hid (∀ w, (Op.stringOp .add (s 43) (s 46)).run Tryd.prog w = .ok (.string (s 47)) w) := by
    intro w
    rw [HS43.out, HS47.out, HS46.out]
    exact add_str _ _ (by simp [beL_length, ptL_length]) w
  have A55 : Hid (∀ w, (Op.stringOp .add (s 47) (s 54)).run Tryd.prog w = .ok (.string (s 55)) w) := by
    intro w
    rw [HS47.out, HS55.out, HS54.out]
    exact add_str _ _ (by simp [beL_length, ptL_length]) w
  have HE : Hid (s 55 = strOfNums (encL h)) := by rw [Hid, ← hs]; rfl
  clear hs
  have T1 : Hid (∀ v, Calls Tryd.prog 60 #[.int .i64 (longN h.t)] v fun e w' => e = .returned (.string (s 24)) ∧ Below v.heap.size v w') := by rw [HS24.out]; exact fun v => two_any _ v (by omega) (by omega)
  have T2 : Hid (∀ v, Calls Tryd.prog 60 #[.int .i64 h.f] v fun e w' => e = .returned (.string (s 34)) ∧ Below v.heap.size v w') := by rw [HS34.out]; exact fun v => two_any _ v (by omega) (by omega)
  have T3 : Hid (∀ v, Calls Tryd.prog 60 #[.int .i64 h.s] v fun e w' => e = .returned (.string (s 46)) ∧ Below v.heap.size v w') := by rw [HS46.out]; exact fun v => two_any _ v (by omega) (by omega)
  have T4 : Hid (∀ v, Calls Tryd.prog 61 #[.int .i64 h.c] v fun e w' => e = .returned (.string (s 38)) ∧ Below v.heap.size v w') := by rw [HS38.out]; exact fun v => eight_any _ v
  have t0 : 0 ≤ h.t := htb.1
  have t1 : h.t ≤ 11 := htb.2
  clear hr hln hfl hfb htb hlb
  have K1 := Lib.hid (Holds.fresh w 32 #[.int .i64 h.t, .int .i64 h.d, .int .i64 h.f, .int .i64 h.c, .int .u8 h.p.c.b0, .int .u8 h.p.c.b1, .int .u8 h.p.c.b2, .int .u8 h.p.c.b3, .int .u8 h.p.c.b4, .int .u8 h.p.c.b5, .int .u8 h.p.c.b6, .int .u8 h.p.c.b7, .int .i64 h.p.n, .int .i64 h.s, .int .i64 h.l] (g := w.heap.size) (by simp))
  have HB := Lib.hid (bnew w (.cells #[.int .i64 h.t, .int .i64 h.d, .int .i64 h.f, .int .i64 h.c, .int .u8 h.p.c.b0, .int .u8 h.p.c.b1, .int .u8 h.p.c.b2, .int .u8 h.p.c.b3, .int .u8 h.p.c.b4, .int .u8 h.p.c.b5, .int .u8 h.p.c.b6, .int .u8 h.p.c.b7, .int .i64 h.p.n, .int .i64 h.s, .int .i64 h.l] 32))
  go_enter Tryd.func35, Tryd.ntmps35
  go_wp2_with fail
  generalize (w.alloc (.cells #[.int .i64 h.t, .int .i64 h.d, .int .i64 h.f, .int .i64 h.c, .int .u8 h.p.c.b0, .int .u8 h.p.c.b1, .int .u8 h.p.c.b2, .int .u8 h.p.c.b3, .int .u8 h.p.c.b4, .int .u8 h.p.c.b5, .int .u8 h.p.c.b6, .int .u8 h.p.c.b7, .int .i64 h.p.n, .int .i64 h.s, .int .i64 h.l] 32)) = W0 at *
  have x1_0 := (K1.out).reads (i := 0) rfl
  have x1_1 := (K1.out).reads (i := 1) rfl
  have x1_2 := (K1.out).reads (i := 2) rfl
  have x1_3 := (K1.out).reads (i := 3) rfl
  have x1_4 := (K1.out).reads (i := 4) rfl
  have x1_5 := (K1.out).reads (i := 5) rfl
  have x1_6 := (K1.out).reads (i := 6) rfl
  have x1_7 := (K1.out).reads (i := 7) rfl
  have x1_8 := (K1.out).reads (i := 8) rfl
  have x1_9 := (K1.out).reads (i := 9) rfl
  have x1_10 := (K1.out).reads (i := 10) rfl
  have x1_11 := (K1.out).reads (i := 11) rfl
  have x1_12 := (K1.out).reads (i := 12) rfl
  have x1_13 := (K1.out).reads (i := 13) rfl
  have x1_14 := (K1.out).reads (i := 14) rfl
  refine (rright5_any h _).mono ?_
  rintro e w1 ⟨rfl, hb1⟩
  rw [HR.out]
  clear x1_0 x1_1 x1_2 x1_3 x1_4 x1_5 x1_6 x1_7 x1_8 x1_9 x1_10 x1_11 x1_12 x1_13 x1_14
  replace K1 := Lib.hid ((K1.out).keptB hb1)
  replace HB := Lib.hid (bstep HB.out hb1)
  clear hb1
  have x2_0 := (K1.out).reads (i := 0) rfl
  have x2_1 := (K1.out).reads (i := 1) rfl
  have x2_2 := (K1.out).reads (i := 2) rfl
  have x2_3 := (K1.out).reads (i := 3) rfl
  have x2_4 := (K1.out).reads (i := 4) rfl
  have x2_5 := (K1.out).reads (i := 5) rfl
  have x2_6 := (K1.out).reads (i := 6) rfl
  have x2_7 := (K1.out).reads (i := 7) rfl
  have x2_8 := (K1.out).reads (i := 8) rfl
  have x2_9 := (K1.out).reads (i := 9) rfl
  have x2_10 := (K1.out).reads (i := 10) rfl
  have x2_11 := (K1.out).reads (i := 11) rfl
  have x2_12 := (K1.out).reads (i := 12) rfl
  have x2_13 := (K1.out).reads (i := 13) rfl
  have x2_14 := (K1.out).reads (i := 14) rfl
  go_wp2_with fail
  refine (ridput_yes h.p _ HF.out).mono ?_
  rintro e w2 ⟨gP, cP, hgP, hgP2, hcP, hb2, rfl⟩
  clear x2_0 x2_1 x2_2 x2_3 x2_4 x2_5 x2_6 x2_7 x2_8 x2_9 x2_10 x2_11 x2_12 x2_13 x2_14
  replace K1 := Lib.hid ((K1.out).keptB hb2)
  replace HB := Lib.hid (bstep HB.out hb2)
  replace hcP := Lib.hid hcP
  clear hb2 hgP hgP2
  go_wp2_with fail
  refine region_free' [some 16, some 17, some 18, some 19, some 20, some 21, some 22, some 23, some 24, some 25, some 26, some 27, some 28, some 29, some 30, some 31, some 32, some 33, some 34, some 35, some 36, some 37, some 38, some 39, some 40, some 41, some 42, some 43, some 44, some 45, some 46, some 47, some 48, some 49, some 50, some 51, some 52, some 53, some 54, some 55, some 6] (PhiE h w.heap.size gP cP s) (GE h w.heap.size gP w) (by kernel_rfl) (by kernel_rfl) (by kernel_rfl) (by kernel_rfl) (by kernel_rfl) PhiE_keep GE_keep ⟨K1.out, by rw [ptL_length] at hcP; exact hcP.out, bdrew HB.out⟩ ?_ ?_
  · refine ⟨?_, ?_, ?_, ?_, ?_, ?_, ?_, ?_, ?_, ?_, ?_, ?_, ?_, ?_, ?_, ?_, ?_, ?_, ?_, ?_, ?_, ?_, ?_, ?_, ?_, ?_, ?_, ?_, ?_, ?_, ?_, ?_, ?_, ?_, ?_, ?_, ?_, ?_, ?_, ?_, ?_, trivial⟩
    · -- 0
      intro a u hG hk K hK
      have hco : ∀ c, a.eval (.const c) = c := fun _ => rfl
      have hfu : ∀ f, a.eval (.func f) = .func (.func f) #[] #[] := fun _ => rfl
      have h1 : a.eval (.tmp 1) = .pointer (some ⟨w.heap.size, 0, none⟩) := hk.old 1 (by kernel_rfl)
      refine wp_of_run (x := .pointer (some ⟨w.heap.size, 0, none⟩)) (w' := u) ?_ (hK _ _ rfl (Below.refl _ _))
      generalize a.eval = ρ at *
      clear hk hK
      go_simp
    · -- 1
      intro a u hG hk K hK
      have hco : ∀ c, a.eval (.const c) = c := fun _ => rfl
      have hfu : ∀ f, a.eval (.func f) = .func (.func f) #[] #[] := fun _ => rfl
      have h16 := hk.new 0 16 rfl (by kernel_rfl)
      replace h16 : a.eval (.tmp 16) = .pointer (some ⟨w.heap.size, 0, none⟩) := h16
      have c := hG.1.reads (i := 0) rfl
      refine wp_of_run (x := .int .i64 h.t) (w' := u) ?_ (hK _ _ rfl (Below.refl _ _))
      generalize a.eval = ρ at *
      clear hk hK
      go_simp
    · -- 2
      intro a u hG hk K hK
      have hco : ∀ c, a.eval (.const c) = c := fun _ => rfl
      have hfu : ∀ f, a.eval (.func f) = .func (.func f) #[] #[] := fun _ => rfl
      have h17 := hk.new 1 17 rfl (by kernel_rfl)
      replace h17 : a.eval (.tmp 17) = .int .i64 h.t := h17
      refine wp_of_run (x := .int .u8 h.t) (w' := u) ?_ (hK _ _ rfl (Below.refl _ _))
      generalize a.eval = ρ at *
      clear hk hK
      go_simp
      rw [IntKind.wrap_u8']
      omega
    · -- 3
      intro a u hG hk K hK
      have hco : ∀ c, a.eval (.const c) = c := fun _ => rfl
      have hfu : ∀ f, a.eval (.func f) = .func (.func f) #[] #[] := fun _ => rfl
      have h18 := hk.new 2 18 rfl (by kernel_rfl)
      replace h18 : a.eval (.tmp 18) = .int .u8 h.t := h18
      refine wp_of_run (x := .slice (some ⟨u.heap.size, 0, none⟩) 2 2) (w' := u.alloc (.cells #[.int .u8 h.t, .int .u8 2] 5)) ?_ (hK _ _ ⟨_, rfl, Holds.fresh u 5 #[.int .u8 h.t, .int .u8 2] rfl⟩ (bnew _ _))
      generalize a.eval = ρ at *
      clear hk hK
      go_simp
    · -- 4
      intro a u hG hk K hK
      have hco : ∀ c, a.eval (.const c) = c := fun _ => rfl
      have hfu : ∀ f, a.eval (.func f) = .func (.func f) #[] #[] := fun _ => rfl
      have h19 := hk.new 3 19 rfl (by kernel_rfl)
      obtain ⟨g, h19, hh19⟩ := h19
      replace h19 : a.eval (.tmp 19) = .slice (some ⟨g, 0, none⟩) 2 2 := h19
      have hcv := conv_two u g h.t 2 (hh19.reads (i := 0) rfl) (hh19.reads (i := 1) rfl)
      rw [show strOfNums [h.t, 2] = s 20 from (HS20.out).symm] at hcv
      clear hh19
      refine wp_of_run (x := .string (s 20)) (w' := u) ?_ (hK _ _ rfl (Below.refl _ _))
      generalize a.eval = ρ at *
      clear hk hK
      go_simp
    · -- 5
      intro a u hG hk K hK
      have hco : ∀ c, a.eval (.const c) = c := fun _ => rfl
      have hfu : ∀ f, a.eval (.func f) = .func (.func f) #[] #[] := fun _ => rfl
      have h1 : a.eval (.tmp 1) = .pointer (some ⟨w.heap.size, 0, none⟩) := hk.old 1 (by kernel_rfl)
      refine wp_of_run (x := .pointer (some ⟨w.heap.size, 0, none⟩)) (w' := u) ?_ (hK _ _ rfl (Below.refl _ _))
      generalize a.eval = ρ at *
      clear hk hK
      go_simp
    · -- 6
      intro a u hG hk K hK
      have hco : ∀ c, a.eval (.const c) = c := fun _ => rfl
      have hfu : ∀ f, a.eval (.func f) = .func (.func f) #[] #[] := fun _ => rfl
      have h21 := hk.new 5 21 rfl (by kernel_rfl)
      replace h21 : a.eval (.tmp 21) = .pointer (some ⟨w.heap.size, 0, none⟩) := h21
      have c := hG.1.reads (i := 0) rfl
      refine wp_of_run (x := .int .i64 h.t) (w' := u) ?_ (hK _ _ rfl (Below.refl _ _))
      generalize a.eval = ρ at *
      clear hk hK
      go_simp
    · -- 7
      intro a u hG hk K hK
      have hco : ∀ c, a.eval (.const c) = c := fun _ => rfl
      have hfu : ∀ f, a.eval (.func f) = .func (.func f) #[] #[] := fun _ => rfl
      have h22 := hk.new 6 22 rfl (by kernel_rfl)
      replace h22 : a.eval (.tmp 22) = .int .i64 h.t := h22
      refine wp_of_call (f := 27) (args := #[.int .i64 h.t]) ?_ ?_
      · generalize a.eval = ρ at *
        clear hk hK
        go_simp
      · refine (rlong_any h.t _).mono ?_
        rintro e w1 ⟨rfl, hb1⟩
        exact ⟨_, rfl, hK _ _ rfl (by rw [hb1]; exact Below.refl _ _)⟩
    · -- 8
      intro a u hG hk K hK
      have hco : ∀ c, a.eval (.const c) = c := fun _ => rfl
      have hfu : ∀ f, a.eval (.func f) = .func (.func f) #[] #[] := fun _ => rfl
      have h23 := hk.new 7 23 rfl (by kernel_rfl)
      replace h23 : a.eval (.tmp 23) = .int .i64 (longN h.t) := h23
      refine wp_of_call (f := 60) (args := #[.int .i64 (longN h.t)]) ?_ ?_
      · generalize a.eval = ρ at *
        clear hk hK
        go_simp
      · refine (T1.out _).mono ?_
        rintro e w1 ⟨rfl, hb1⟩
        exact ⟨_, rfl, hK _ _ rfl hb1⟩
    · -- 9
      intro a u hG hk K hK
      have hco : ∀ c, a.eval (.const c) = c := fun _ => rfl
      have hfu : ∀ f, a.eval (.func f) = .func (.func f) #[] #[] := fun _ => rfl
      have h20 := hk.new 4 20 rfl (by kernel_rfl)
      replace h20 : a.eval (.tmp 20) = .string (s 20) := h20
      have h24 := hk.new 8 24 rfl (by kernel_rfl)
      replace h24 : a.eval (.tmp 24) = .string (s 24) := h24
      have hadd := A25.out
      refine wp_of_run (x := .string (s 25)) (w' := u) ?_ (hK _ _ rfl (Below.refl _ _))
      generalize a.eval = ρ at *
      clear hk hK
      go_simp
    · -- 10
      intro a u hG hk K hK
      have hco : ∀ c, a.eval (.const c) = c := fun _ => rfl
      have hfu : ∀ f, a.eval (.func f) = .func (.func f) #[] #[] := fun _ => rfl
      have h1 : a.eval (.tmp 1) = .pointer (some ⟨w.heap.size, 0, none⟩) := hk.old 1 (by kernel_rfl)
      refine wp_of_run (x := .pointer (some ⟨w.heap.size, 1, none⟩)) (w' := u) ?_ (hK _ _ rfl (Below.refl _ _))
      generalize a.eval = ρ at *
      clear hk hK
      go_simp
    · -- 11
      intro a u hG hk K hK
      have hco : ∀ c, a.eval (.const c) = c := fun _ => rfl
      have hfu : ∀ f, a.eval (.func f) = .func (.func f) #[] #[] := fun _ => rfl
      have h26 := hk.new 10 26 rfl (by kernel_rfl)
      replace h26 : a.eval (.tmp 26) = .pointer (some ⟨w.heap.size, 1, none⟩) := h26
      have c := hG.1.reads (i := 1) rfl
      refine wp_of_run (x := .int .i64 h.d) (w' := u) ?_ (hK _ _ rfl (Below.refl _ _))
      generalize a.eval = ρ at *
      clear hk hK
      go_simp
    · -- 12
      intro a u hG hk K hK
      have hco : ∀ c, a.eval (.const c) = c := fun _ => rfl
      have hfu : ∀ f, a.eval (.func f) = .func (.func f) #[] #[] := fun _ => rfl
      have h27 := hk.new 11 27 rfl (by kernel_rfl)
      replace h27 : a.eval (.tmp 27) = .int .i64 h.d := h27
      refine wp_of_run (x := .int .u8 h.d) (w' := u) ?_ (hK _ _ rfl (Below.refl _ _))
      generalize a.eval = ρ at *
      clear hk hK
      go_simp
      rw [IntKind.wrap_u8']
      omega
    · -- 13
      intro a u hG hk K hK
      have hco : ∀ c, a.eval (.const c) = c := fun _ => rfl
      have hfu : ∀ f, a.eval (.func f) = .func (.func f) #[] #[] := fun _ => rfl
      have h28 := hk.new 12 28 rfl (by kernel_rfl)
      replace h28 : a.eval (.tmp 28) = .int .u8 h.d := h28
      refine wp_of_run (x := .slice (some ⟨u.heap.size, 0, none⟩) 2 2) (w' := u.alloc (.cells #[.int .u8 h.d, .int .u8 0] 5)) ?_ (hK _ _ ⟨_, rfl, Holds.fresh u 5 #[.int .u8 h.d, .int .u8 0] rfl⟩ (bnew _ _))
      generalize a.eval = ρ at *
      clear hk hK
      go_simp
    · -- 14
      intro a u hG hk K hK
      have hco : ∀ c, a.eval (.const c) = c := fun _ => rfl
      have hfu : ∀ f, a.eval (.func f) = .func (.func f) #[] #[] := fun _ => rfl
      have h29 := hk.new 13 29 rfl (by kernel_rfl)
      obtain ⟨g, h29, hh29⟩ := h29
      replace h29 : a.eval (.tmp 29) = .slice (some ⟨g, 0, none⟩) 2 2 := h29
      have hcv := conv_two u g h.d 0 (hh29.reads (i := 0) rfl) (hh29.reads (i := 1) rfl)
      rw [show strOfNums [h.d, 0] = s 30 from (HS30.out).symm] at hcv
      clear hh29
      refine wp_of_run (x := .string (s 30)) (w' := u) ?_ (hK _ _ rfl (Below.refl _ _))
      generalize a.eval = ρ at *
      clear hk hK
      go_simp
    · -- 15
      intro a u hG hk K hK
      have hco : ∀ c, a.eval (.const c) = c := fun _ => rfl
      have hfu : ∀ f, a.eval (.func f) = .func (.func f) #[] #[] := fun _ => rfl
      have h25 := hk.new 9 25 rfl (by kernel_rfl)
      replace h25 : a.eval (.tmp 25) = .string (s 25) := h25
      have h30 := hk.new 14 30 rfl (by kernel_rfl)
      replace h30 : a.eval (.tmp 30) = .string (s 30) := h30
      have hadd := A31.out
      refine wp_of_run (x := .string (s 31)) (w' := u) ?_ (hK _ _ rfl (Below.refl _ _))
      generalize a.eval = ρ at *
      clear hk hK
      go_simp
    · -- 16
      intro a u hG hk K hK
      have hco : ∀ c, a.eval (.const c) = c := fun _ => rfl
      have hfu : ∀ f, a.eval (.func f) = .func (.func f) #[] #[] := fun _ => rfl
      have h1 : a.eval (.tmp 1) = .pointer (some ⟨w.heap.size, 0, none⟩) := hk.old 1 (by kernel_rfl)
      refine wp_of_run (x := .pointer (some ⟨w.heap.size, 2, none⟩)) (w' := u) ?_ (hK _ _ rfl (Below.refl _ _))
      generalize a.eval = ρ at *
      clear hk hK
      go_simp
    · -- 17
      intro a u hG hk K hK
      have hco : ∀ c, a.eval (.const c) = c := fun _ => rfl
      have hfu : ∀ f, a.eval (.func f) = .func (.func f) #[] #[] := fun _ => rfl
      have h32 := hk.new 16 32 rfl (by kernel_rfl)
      replace h32 : a.eval (.tmp 32) = .pointer (some ⟨w.heap.size, 2, none⟩) := h32
      have c := hG.1.reads (i := 2) rfl
      refine wp_of_run (x := .int .i64 h.f) (w' := u) ?_ (hK _ _ rfl (Below.refl _ _))
      generalize a.eval = ρ at *
      clear hk hK
      go_simp
    · -- 18
      intro a u hG hk K hK
      have hco : ∀ c, a.eval (.const c) = c := fun _ => rfl
      have hfu : ∀ f, a.eval (.func f) = .func (.func f) #[] #[] := fun _ => rfl
      have h33 := hk.new 17 33 rfl (by kernel_rfl)
      replace h33 : a.eval (.tmp 33) = .int .i64 h.f := h33
      refine wp_of_call (f := 60) (args := #[.int .i64 h.f]) ?_ ?_
      · generalize a.eval = ρ at *
        clear hk hK
        go_simp
      · refine (T2.out _).mono ?_
        rintro e w1 ⟨rfl, hb1⟩
        exact ⟨_, rfl, hK _ _ rfl hb1⟩
    · -- 19
      intro a u hG hk K hK
      have hco : ∀ c, a.eval (.const c) = c := fun _ => rfl
      have hfu : ∀ f, a.eval (.func f) = .func (.func f) #[] #[] := fun _ => rfl
      have h31 := hk.new 15 31 rfl (by kernel_rfl)
      replace h31 : a.eval (.tmp 31) = .string (s 31) := h31
      have h34 := hk.new 18 34 rfl (by kernel_rfl)
      replace h34 : a.eval (.tmp 34) = .string (s 34) := h34
      have hadd := A35.out
      refine wp_of_run (x := .string (s 35)) (w' := u) ?_ (hK _ _ rfl (Below.refl _ _))
      generalize a.eval = ρ at *
      clear hk hK
      go_simp
    · -- 20
      intro a u hG hk K hK
      have hco : ∀ c, a.eval (.const c) = c := fun _ => rfl
      have hfu : ∀ f, a.eval (.func f) = .func (.func f) #[] #[] := fun _ => rfl
      have h1 : a.eval (.tmp 1) = .pointer (some ⟨w.heap.size, 0, none⟩) := hk.old 1 (by kernel_rfl)
      refine wp_of_run (x := .pointer (some ⟨w.heap.size, 3, none⟩)) (w' := u) ?_ (hK _ _ rfl (Below.refl _ _))
      generalize a.eval = ρ at *
      clear hk hK
      go_simp
    · -- 21
      intro a u hG hk K hK
      have hco : ∀ c, a.eval (.const c) = c := fun _ => rfl
      have hfu : ∀ f, a.eval (.func f) = .func (.func f) #[] #[] := fun _ => rfl
      have h36 := hk.new 20 36 rfl (by kernel_rfl)
      replace h36 : a.eval (.tmp 36) = .pointer (some ⟨w.heap.size, 3, none⟩) := h36
      have c := hG.1.reads (i := 3) rfl
      refine wp_of_run (x := .int .i64 h.c) (w' := u) ?_ (hK _ _ rfl (Below.refl _ _))
      generalize a.eval = ρ at *
      clear hk hK
      go_simp
    · -- 22
      intro a u hG hk K hK
      have hco : ∀ c, a.eval (.const c) = c := fun _ => rfl
      have hfu : ∀ f, a.eval (.func f) = .func (.func f) #[] #[] := fun _ => rfl
      have h37 := hk.new 21 37 rfl (by kernel_rfl)
      replace h37 : a.eval (.tmp 37) = .int .i64 h.c := h37
      refine wp_of_call (f := 61) (args := #[.int .i64 h.c]) ?_ ?_
      · generalize a.eval = ρ at *
        clear hk hK
        go_simp
      · refine (T4.out _).mono ?_
        rintro e w1 ⟨rfl, hb1⟩
        exact ⟨_, rfl, hK _ _ rfl hb1⟩
    · -- 23
      intro a u hG hk K hK
      have hco : ∀ c, a.eval (.const c) = c := fun _ => rfl
      have hfu : ∀ f, a.eval (.func f) = .func (.func f) #[] #[] := fun _ => rfl
      have h35 := hk.new 19 35 rfl (by kernel_rfl)
      replace h35 : a.eval (.tmp 35) = .string (s 35) := h35
      have h38 := hk.new 22 38 rfl (by kernel_rfl)
      replace h38 : a.eval (.tmp 38) = .string (s 38) := h38
      have hadd := A39.out
      refine wp_of_run (x := .string (s 39)) (w' := u) ?_ (hK _ _ rfl (Below.refl _ _))
      generalize a.eval = ρ at *
      clear hk hK
      go_simp
    · -- 24
      intro a u hG hk K hK
      have hco : ∀ c, a.eval (.const c) = c := fun _ => rfl
      have hfu : ∀ f, a.eval (.func f) = .func (.func f) #[] #[] := fun _ => rfl
      have h39 := hk.new 23 39 rfl (by kernel_rfl)
      replace h39 : a.eval (.tmp 39) = .string (s 39) := h39
      have hadd := A40.out
      refine wp_of_run (x := .string (s 40)) (w' := u) ?_ (hK _ _ rfl (Below.refl _ _))
      generalize a.eval = ρ at *
      clear hk hK
      go_simp
    · -- 25
      intro a u hG hk K hK
      have hco : ∀ c, a.eval (.const c) = c := fun _ => rfl
      have hfu : ∀ f, a.eval (.func f) = .func (.func f) #[] #[] := fun _ => rfl
      have h4 : a.eval (.tmp 4) = .slice (some ⟨gP, 0, none⟩) 10 cP := hk.old 4 (by kernel_rfl)
      refine wp_of_run (x := .slice (some ⟨gP, 0, none⟩) 10 cP) (w' := u) ?_ (hK _ _ rfl (Below.refl _ _))
      generalize a.eval = ρ at *
      clear hk hK
      go_simp
    · -- 26
      intro a u hG hk K hK
      have hco : ∀ c, a.eval (.const c) = c := fun _ => rfl
      have hfu : ∀ f, a.eval (.func f) = .func (.func f) #[] #[] := fun _ => rfl
      have h41 := hk.new 25 41 rfl (by kernel_rfl)
      replace h41 : a.eval (.tmp 41) = .slice (some ⟨gP, 0, none⟩) 10 cP := h41
      have hcv := conv_row gP cP (ptL h.p) u (ptL_length _) (fun i hi => hG.2.1 i (by rw [ptL_length] at hi; exact hi))
      rw [← HS42.out] at hcv
      refine wp_of_run (x := .string (s 42)) (w' := u) ?_ (hK _ _ rfl (Below.refl _ _))
      generalize a.eval = ρ at *
      clear hk hK
      go_simp
    · -- 27
      intro a u hG hk K hK
      have hco : ∀ c, a.eval (.const c) = c := fun _ => rfl
      have hfu : ∀ f, a.eval (.func f) = .func (.func f) #[] #[] := fun _ => rfl
      have h40 := hk.new 24 40 rfl (by kernel_rfl)
      replace h40 : a.eval (.tmp 40) = .string (s 40) := h40
      have h42 := hk.new 26 42 rfl (by kernel_rfl)
      replace h42 : a.eval (.tmp 42) = .string (s 42) := h42
      have hadd := A43.out
      refine wp_of_run (x := .string (s 43)) (w' := u) ?_ (hK _ _ rfl (Below.refl _ _))
      generalize a.eval = ρ at *
      clear hk hK
      go_simp
    · -- 28
      intro a u hG hk K hK
      have hco : ∀ c, a.eval (.const c) = c := fun _ => rfl
      have hfu : ∀ f, a.eval (.func f) = .func (.func f) #[] #[] := fun _ => rfl
      have h1 : a.eval (.tmp 1) = .pointer (some ⟨w.heap.size, 0, none⟩) := hk.old 1 (by kernel_rfl)
      refine wp_of_run (x := .pointer (some ⟨w.heap.size, 13, none⟩)) (w' := u) ?_ (hK _ _ rfl (Below.refl _ _))
      generalize a.eval = ρ at *
      clear hk hK
      go_simp
    · -- 29
      intro a u hG hk K hK
      have hco : ∀ c, a.eval (.const c) = c := fun _ => rfl
      have hfu : ∀ f, a.eval (.func f) = .func (.func f) #[] #[] := fun _ => rfl
      have h44 := hk.new 28 44 rfl (by kernel_rfl)
      replace h44 : a.eval (.tmp 44) = .pointer (some ⟨w.heap.size, 13, none⟩) := h44
      have c := hG.1.reads (i := 13) rfl
      refine wp_of_run (x := .int .i64 h.s) (w' := u) ?_ (hK _ _ rfl (Below.refl _ _))
      generalize a.eval = ρ at *
      clear hk hK
      go_simp
    · -- 30
      intro a u hG hk K hK
      have hco : ∀ c, a.eval (.const c) = c := fun _ => rfl
      have hfu : ∀ f, a.eval (.func f) = .func (.func f) #[] #[] := fun _ => rfl
      have h45 := hk.new 29 45 rfl (by kernel_rfl)
      replace h45 : a.eval (.tmp 45) = .int .i64 h.s := h45
      refine wp_of_call (f := 60) (args := #[.int .i64 h.s]) ?_ ?_
      · generalize a.eval = ρ at *
        clear hk hK
        go_simp
      · refine (T3.out _).mono ?_
        rintro e w1 ⟨rfl, hb1⟩
        exact ⟨_, rfl, hK _ _ rfl hb1⟩
    · -- 31
      intro a u hG hk K hK
      have hco : ∀ c, a.eval (.const c) = c := fun _ => rfl
      have hfu : ∀ f, a.eval (.func f) = .func (.func f) #[] #[] := fun _ => rfl
      have h43 := hk.new 27 43 rfl (by kernel_rfl)
      replace h43 : a.eval (.tmp 43) = .string (s 43) := h43
      have h46 := hk.new 30 46 rfl (by kernel_rfl)
      replace h46 : a.eval (.tmp 46) = .string (s 46) := h46
      have hadd := A47.out
      refine wp_of_run (x := .string (s 47)) (w' := u) ?_ (hK _ _ rfl (Below.refl _ _))
      generalize a.eval = ρ at *
      clear hk hK
      go_simp
    · -- 32
      intro a u hG hk K hK
      have hco : ∀ c, a.eval (.const c) = c := fun _ => rfl
      have hfu : ∀ f, a.eval (.func f) = .func (.func f) #[] #[] := fun _ => rfl
      have h1 : a.eval (.tmp 1) = .pointer (some ⟨w.heap.size, 0, none⟩) := hk.old 1 (by kernel_rfl)
      refine wp_of_run (x := .pointer (some ⟨w.heap.size, 14, none⟩)) (w' := u) ?_ (hK _ _ rfl (Below.refl _ _))
      generalize a.eval = ρ at *
      clear hk hK
      go_simp
    · -- 33
      intro a u hG hk K hK
      have hco : ∀ c, a.eval (.const c) = c := fun _ => rfl
      have hfu : ∀ f, a.eval (.func f) = .func (.func f) #[] #[] := fun _ => rfl
      have h48 := hk.new 32 48 rfl (by kernel_rfl)
      replace h48 : a.eval (.tmp 48) = .pointer (some ⟨w.heap.size, 14, none⟩) := h48
      have c := hG.1.reads (i := 14) rfl
      refine wp_of_run (x := .int .i64 h.l) (w' := u) ?_ (hK _ _ rfl (Below.refl _ _))
      generalize a.eval = ρ at *
      clear hk hK
      go_simp
    · -- 34
      intro a u hG hk K hK
      have hco : ∀ c, a.eval (.const c) = c := fun _ => rfl
      have hfu : ∀ f, a.eval (.func f) = .func (.func f) #[] #[] := fun _ => rfl
      have h49 := hk.new 33 49 rfl (by kernel_rfl)
      replace h49 : a.eval (.tmp 49) = .int .i64 h.l := h49
      refine wp_of_run (x := .int .i64 (h.l + 256)) (w' := u) ?_ (hK _ _ rfl (Below.refl _ _))
      generalize a.eval = ρ at *
      clear hk hK
      go_simp
      rw [IntKind.wrap_i64]
      omega
    · -- 35
      intro a u hG hk K hK
      have hco : ∀ c, a.eval (.const c) = c := fun _ => rfl
      have hfu : ∀ f, a.eval (.func f) = .func (.func f) #[] #[] := fun _ => rfl
      have h50 := hk.new 34 50 rfl (by kernel_rfl)
      replace h50 : a.eval (.tmp 50) = .int .i64 (h.l + 256) := h50
      refine wp_of_run (x := .int .i64 (h.l % 256)) (w' := u) ?_ (hK _ _ rfl (Below.refl _ _))
      generalize a.eval = ρ at *
      clear hk hK
      go_simp
      rw [Int.tmod_eq_emod_of_nonneg (by omega)]
      omega
    · -- 36
      intro a u hG hk K hK
      have hco : ∀ c, a.eval (.const c) = c := fun _ => rfl
      have hfu : ∀ f, a.eval (.func f) = .func (.func f) #[] #[] := fun _ => rfl
      have h51 := hk.new 35 51 rfl (by kernel_rfl)
      replace h51 : a.eval (.tmp 51) = .int .i64 (h.l % 256) := h51
      refine wp_of_run (x := .int .u8 (h.l % 256)) (w' := u) ?_ (hK _ _ rfl (Below.refl _ _))
      generalize a.eval = ρ at *
      clear hk hK
      go_simp
      rw [IntKind.wrap_u8']
      omega
    · -- 37
      intro a u hG hk K hK
      have hco : ∀ c, a.eval (.const c) = c := fun _ => rfl
      have hfu : ∀ f, a.eval (.func f) = .func (.func f) #[] #[] := fun _ => rfl
      have h52 := hk.new 36 52 rfl (by kernel_rfl)
      replace h52 : a.eval (.tmp 52) = .int .u8 (h.l % 256) := h52
      refine wp_of_run (x := .slice (some ⟨u.heap.size, 0, none⟩) 2 2) (w' := u.alloc (.cells #[.int .u8 0, .int .u8 (h.l % 256)] 5)) ?_ (hK _ _ ⟨_, rfl, Holds.fresh u 5 #[.int .u8 0, .int .u8 (h.l % 256)] rfl⟩ (bnew _ _))
      generalize a.eval = ρ at *
      clear hk hK
      go_simp
    · -- 38
      intro a u hG hk K hK
      have hco : ∀ c, a.eval (.const c) = c := fun _ => rfl
      have hfu : ∀ f, a.eval (.func f) = .func (.func f) #[] #[] := fun _ => rfl
      have h53 := hk.new 37 53 rfl (by kernel_rfl)
      obtain ⟨g, h53, hh53⟩ := h53
      replace h53 : a.eval (.tmp 53) = .slice (some ⟨g, 0, none⟩) 2 2 := h53
      have hcv := conv_two u g 0 (h.l % 256) (hh53.reads (i := 0) rfl) (hh53.reads (i := 1) rfl)
      rw [show strOfNums [0, (h.l % 256)] = s 54 from (HS54.out).symm] at hcv
      clear hh53
      refine wp_of_run (x := .string (s 54)) (w' := u) ?_ (hK _ _ rfl (Below.refl _ _))
      generalize a.eval = ρ at *
      clear hk hK
      go_simp
    · -- 39
      intro a u hG hk K hK
      have hco : ∀ c, a.eval (.const c) = c := fun _ => rfl
      have hfu : ∀ f, a.eval (.func f) = .func (.func f) #[] #[] := fun _ => rfl
      have h47 := hk.new 31 47 rfl (by kernel_rfl)
      replace h47 : a.eval (.tmp 47) = .string (s 47) := h47
      have h54 := hk.new 38 54 rfl (by kernel_rfl)
      replace h54 : a.eval (.tmp 54) = .string (s 54) := h54
      have hadd := A55.out
      refine wp_of_run (x := .string (s 55)) (w' := u) ?_ (hK _ _ rfl (Below.refl _ _))
      generalize a.eval = ρ at *
      clear hk hK
      go_simp
    · -- 40
      intro a u hG hk K hK
      have hco : ∀ c, a.eval (.const c) = c := fun _ => rfl
      have hfu : ∀ f, a.eval (.func f) = .func (.func f) #[] #[] := fun _ => rfl
      have h55 := hk.new 39 55 rfl (by kernel_rfl)
      replace h55 : a.eval (.tmp 55) = .string (s 55) := h55
      refine wp_of_run (x := .string (s 55)) (w' := u) ?_ (hK _ _ rfl (Below.refl _ _))
      generalize a.eval = ρ at *
      clear hk hK
      go_simp
  · intro v w9 hG hv
    have v0 : v 0 = .pointer (some ⟨w.heap.size, 0, none⟩) := hv 0 (of_decide_eq_true (by kernel_rfl))
    have v1 : v 1 = .int .i64 h.t := hv 1 (of_decide_eq_true (by kernel_rfl))
    have v2 : v 2 = .int .u8 h.t := hv 2 (of_decide_eq_true (by kernel_rfl))
    obtain ⟨g3, v3, _⟩ := hv 3 (of_decide_eq_true (by kernel_rfl))
    have v4 : v 4 = .string (s 20) := hv 4 (of_decide_eq_true (by kernel_rfl))
    have v5 : v 5 = .pointer (some ⟨w.heap.size, 0, none⟩) := hv 5 (of_decide_eq_true (by kernel_rfl))
    have v6 : v 6 = .int .i64 h.t := hv 6 (of_decide_eq_true (by kernel_rfl))
    have v7 : v 7 = .int .i64 (longN h.t) := hv 7 (of_decide_eq_true (by kernel_rfl))
    have v8 : v 8 = .string (s 24) := hv 8 (of_decide_eq_true (by kernel_rfl))
    have v9 : v 9 = .string (s 25) := hv 9 (of_decide_eq_true (by kernel_rfl))
    have v10 : v 10 = .pointer (some ⟨w.heap.size, 1, none⟩) := hv 10 (of_decide_eq_true (by kernel_rfl))
    have v11 : v 11 = .int .i64 h.d := hv 11 (of_decide_eq_true (by kernel_rfl))
    have v12 : v 12 = .int .u8 h.d := hv 12 (of_decide_eq_true (by kernel_rfl))
    obtain ⟨g13, v13, _⟩ := hv 13 (of_decide_eq_true (by kernel_rfl))
    have v14 : v 14 = .string (s 30) := hv 14 (of_decide_eq_true (by kernel_rfl))
    have v15 : v 15 = .string (s 31) := hv 15 (of_decide_eq_true (by kernel_rfl))
    have v16 : v 16 = .pointer (some ⟨w.heap.size, 2, none⟩) := hv 16 (of_decide_eq_true (by kernel_rfl))
    have v17 : v 17 = .int .i64 h.f := hv 17 (of_decide_eq_true (by kernel_rfl))
    have v18 : v 18 = .string (s 34) := hv 18 (of_decide_eq_true (by kernel_rfl))
    have v19 : v 19 = .string (s 35) := hv 19 (of_decide_eq_true (by kernel_rfl))
    have v20 : v 20 = .pointer (some ⟨w.heap.size, 3, none⟩) := hv 20 (of_decide_eq_true (by kernel_rfl))
    have v21 : v 21 = .int .i64 h.c := hv 21 (of_decide_eq_true (by kernel_rfl))
    have v22 : v 22 = .string (s 38) := hv 22 (of_decide_eq_true (by kernel_rfl))
    have v23 : v 23 = .string (s 39) := hv 23 (of_decide_eq_true (by kernel_rfl))
    have v24 : v 24 = .string (s 40) := hv 24 (of_decide_eq_true (by kernel_rfl))
    have v25 : v 25 = .slice (some ⟨gP, 0, none⟩) 10 cP := hv 25 (of_decide_eq_true (by kernel_rfl))
    have v26 : v 26 = .string (s 42) := hv 26 (of_decide_eq_true (by kernel_rfl))
    have v27 : v 27 = .string (s 43) := hv 27 (of_decide_eq_true (by kernel_rfl))
    have v28 : v 28 = .pointer (some ⟨w.heap.size, 13, none⟩) := hv 28 (of_decide_eq_true (by kernel_rfl))
    have v29 : v 29 = .int .i64 h.s := hv 29 (of_decide_eq_true (by kernel_rfl))
    have v30 : v 30 = .string (s 46) := hv 30 (of_decide_eq_true (by kernel_rfl))
    have v31 : v 31 = .string (s 47) := hv 31 (of_decide_eq_true (by kernel_rfl))
    have v32 : v 32 = .pointer (some ⟨w.heap.size, 14, none⟩) := hv 32 (of_decide_eq_true (by kernel_rfl))
    have v33 : v 33 = .int .i64 h.l := hv 33 (of_decide_eq_true (by kernel_rfl))
    have v34 : v 34 = .int .i64 (h.l + 256) := hv 34 (of_decide_eq_true (by kernel_rfl))
    have v35 : v 35 = .int .i64 (h.l % 256) := hv 35 (of_decide_eq_true (by kernel_rfl))
    have v36 : v 36 = .int .u8 (h.l % 256) := hv 36 (of_decide_eq_true (by kernel_rfl))
    obtain ⟨g37, v37, _⟩ := hv 37 (of_decide_eq_true (by kernel_rfl))
    have v38 : v 38 = .string (s 54) := hv 38 (of_decide_eq_true (by kernel_rfl))
    have v39 : v 39 = .string (s 55) := hv 39 (of_decide_eq_true (by kernel_rfl))
    have v40 : v 40 = .string (s 55) := hv 40 (of_decide_eq_true (by kernel_rfl))
    clear hv
    simp only [putAll, if_true, Act.put, List.setIfInBounds_toArray, List.set_cons_zero, List.set_cons_succ, v0, v1, v2, v3, v4, v5, v6, v7, v8, v9, v10, v11, v12, v13, v14, v15, v16, v17, v18, v19, v20, v21, v22, v23, v24, v25, v26, v27, v28, v29, v30, v31, v32, v33, v34, v35, v36, v37, v38, v39, v40]
    clear v0 v1 v2 v3 v4 v5 v6 v7 v8 v9 v10 v11 v12 v13 v14 v15 v16 v17 v18 v19 v20 v21 v22 v23 v24 v25 v26 v27 v28 v29 v30 v31 v32 v33 v34 v35 v36 v37 v38 v39 v40
    have hconv : (convert 9 22 (.string (s 55))).run Tryd.prog w9 = .ok (.slice (some ⟨w9.heap.size, 0, none⟩) 34 (grownCap w9 34 0 5)) (Lib.bytesWorld w9 5 (s 55)) := by
      have := Lib.run_convert_string_bytes w9 9 22 5 (s 55) Tryd.underlying9 Tryd.underlying22 Tryd.underlying5
      rw [show (s 55).size = 34 by rw [HE.out, strOfNums_size, encL_length]] at this
      exact this
    have HW := Lib.hid (bytes_below w9 5 (s 55))
    have HN := Lib.hid (fun hz => bytes_new w9 5 (encL h) hz)
    rw [← HE.out] at HN
    go_wp2
    go_ret2
    refine ⟨w9.heap.size, grownCap w9 34 0 5, hG.2.2.size, by rw [Lib.bytesWorld_size]; omega, HN.out hok, bstep hG.2.2 HW.out, rfl⟩

end Go.Proofs.YtifhjmhekapaoaaDoor
