/- Plain words on messages: which message is right, its bytes, what bytes are read as. No program is read here. -/
import Derived.Test.YtifhjmhekapaoaaDoorHeadBackMath
import Derived.Test.YtifhjmhekapaoaaDoorHeadEq
import Derived.Test.YtifhjmhekapaoaaDoorHeadAppend
import Derived.Test.YtifhjmhekapaoaaDoorStampMath
namespace Go.Proofs.YtifhjmhekapaoaaDoor
set_option maxRecDepth 100000
open Go.RowKit
set_option linter.unusedVariables false

/-- a message -/
structure Ms where
  h : Hd
  ts : Int
  tn : Int
  ak : Pt
  o : Int
  p1 : Int
  p2 : Int
  q1 : Int
  q2 : Int
  q3 : Int
  gr : Ck
  st : Int
  sn : Pt
  rc : Pt
  src : Int
theorem Ms.ext' {a b : Ms} (h1 : a.h = b.h) (h2 : a.ts = b.ts) (h3 : a.tn = b.tn) (h4 : a.ak = b.ak) (h5 : a.o = b.o) (h6 : a.p1 = b.p1) (h7 : a.p2 = b.p2) (h8 : a.q1 = b.q1) (h9 : a.q2 = b.q2) (h10 : a.q3 = b.q3) (h11 : a.gr = b.gr) (h12 : a.st = b.st) (h13 : a.sn = b.sn) (h14 : a.rc = b.rc) (h15 : a.src = b.src) : a = b := by
  cases a; cases b; simp_all
def zeroM : Ms := ⟨zeroH, 0, 0, zeroP, 0, 0, 0, 0, 0, 0, zeroC, 0, zeroP, zeroP, 0⟩
/-- the cells of a set, of a message -/
def setA (m : Ms) : Array Value := #[.int .i64 m.p1, .int .i64 m.p2, .int .i64 m.q1, .int .i64 m.q2, .int .i64 m.q3, .int .u8 m.gr.b0, .int .u8 m.gr.b1, .int .u8 m.gr.b2, .int .u8 m.gr.b3, .int .u8 m.gr.b4, .int .u8 m.gr.b5, .int .u8 m.gr.b6, .int .u8 m.gr.b7, .int .i64 m.st, .int .u8 m.sn.c.b0, .int .u8 m.sn.c.b1, .int .u8 m.sn.c.b2, .int .u8 m.sn.c.b3, .int .u8 m.sn.c.b4, .int .u8 m.sn.c.b5, .int .u8 m.sn.c.b6, .int .u8 m.sn.c.b7, .int .i64 m.sn.n, .int .u8 m.rc.c.b0, .int .u8 m.rc.c.b1, .int .u8 m.rc.c.b2, .int .u8 m.rc.c.b3, .int .u8 m.rc.c.b4, .int .u8 m.rc.c.b5, .int .u8 m.rc.c.b6, .int .u8 m.rc.c.b7, .int .i64 m.rc.n]
def msA (m : Ms) : Array Value := #[.int .i64 m.h.t, .int .i64 m.h.d, .int .i64 m.h.f, .int .i64 m.h.c, .int .u8 m.h.p.c.b0, .int .u8 m.h.p.c.b1, .int .u8 m.h.p.c.b2, .int .u8 m.h.p.c.b3, .int .u8 m.h.p.c.b4, .int .u8 m.h.p.c.b5, .int .u8 m.h.p.c.b6, .int .u8 m.h.p.c.b7, .int .i64 m.h.p.n, .int .i64 m.h.s, .int .i64 m.h.l, .int .i64 m.ts, .int .i64 m.tn, .int .u8 m.ak.c.b0, .int .u8 m.ak.c.b1, .int .u8 m.ak.c.b2, .int .u8 m.ak.c.b3, .int .u8 m.ak.c.b4, .int .u8 m.ak.c.b5, .int .u8 m.ak.c.b6, .int .u8 m.ak.c.b7, .int .i64 m.ak.n, .int .i64 m.o, .int .i64 m.p1, .int .i64 m.p2, .int .i64 m.q1, .int .i64 m.q2, .int .i64 m.q3, .int .u8 m.gr.b0, .int .u8 m.gr.b1, .int .u8 m.gr.b2, .int .u8 m.gr.b3, .int .u8 m.gr.b4, .int .u8 m.gr.b5, .int .u8 m.gr.b6, .int .u8 m.gr.b7, .int .i64 m.st, .int .u8 m.sn.c.b0, .int .u8 m.sn.c.b1, .int .u8 m.sn.c.b2, .int .u8 m.sn.c.b3, .int .u8 m.sn.c.b4, .int .u8 m.sn.c.b5, .int .u8 m.sn.c.b6, .int .u8 m.sn.c.b7, .int .i64 m.sn.n, .int .u8 m.rc.c.b0, .int .u8 m.rc.c.b1, .int .u8 m.rc.c.b2, .int .u8 m.rc.c.b3, .int .u8 m.rc.c.b4, .int .u8 m.rc.c.b5, .int .u8 m.rc.c.b6, .int .u8 m.rc.c.b7, .int .i64 m.rc.n, .int .i64 m.src]
/-- the same set -/
def eqSet (a b : Ms) : Bool := a.p1 == b.p1 && (a.p2 == b.p2 && ((a.q1 == b.q1 && (a.q2 == b.q2 && a.q3 == b.q3)) && (eqC a.gr b.gr && (a.st == b.st && (eqP a.sn b.sn && eqP a.rc b.rc)))))
/-- the same message -/
def eqM (a b : Ms) : Bool := eqH a.h b.h && ((a.ts == b.ts && a.tn == b.tn) && (eqP a.ak b.ak && (a.o == b.o && (eqSet a b && a.src == b.src))))
theorem eqSet_self (a : Ms) : eqSet a a = true := by unfold eqSet; simp [eqP_self, eqC_self]
theorem eqM_self (a : Ms) : eqM a a = true := by unfold eqM; simp [eqP_self, eqH_self, eqSet_self]
theorem eqM_iff {a b : Ms} : eqM a b = true ↔ a = b := by
  constructor
  · intro h
    unfold eqM eqSet at h
    simp only [Bool.and_eq_true, beq_iff_eq, eqP_iff, eqH_iff, eqC_iff] at h
    obtain ⟨h1, ⟨h2, h3⟩, h4, h5, ⟨h6, h7, ⟨h8, h9, h10⟩, h11, h12, h13, h14⟩, h15⟩ := h
    exact Ms.ext' h1 h2 h3 h4 h5 h6 h7 h8 h9 h10 h11 h12 h13 h14 h15
  · rintro rfl; exact eqM_self a
theorem eqM_not {a b : Ms} (h : a ≠ b) : eqM a b = false := by
  rw [← Bool.not_eq_true, eqM_iff]; exact h
/-- what a message says by its type, all else zero -/
def saidM (m : Ms) : Ms :=
  if m.h.t = 9 then ⟨m.h, m.ts, m.tn, m.ak, 0, 0, 0, 0, 0, 0, zeroC, 0, zeroP, zeroP, 0⟩
  else if m.h.t = 11 then ⟨m.h, m.ts, m.tn, zeroP, m.o, m.p1, m.p2, m.q1, m.q2, m.q3, m.gr, m.st, m.h.p, zeroP, m.src⟩
  else ⟨m.h, m.ts, m.tn, zeroP, 0, 0, 0, 0, 0, 0, zeroC, 0, zeroP, zeroP, 0⟩
/-- a set may be said -/
def setB (m : Ms) : Bool := inB m.p1 0 255 && (inB m.p2 0 255 && (inB m.q1 0 255 && (inB m.q2 0 255 && (inB m.q3 0 65535 && (!eqC m.gr zeroC && inB m.st 0 65535)))))
theorem setB_iff {m : Ms} : setB m = true ↔ (0 ≤ m.p1 ∧ m.p1 ≤ 255) ∧ (0 ≤ m.p2 ∧ m.p2 ≤ 255) ∧ (0 ≤ m.q1 ∧ m.q1 ≤ 255) ∧ (0 ≤ m.q2 ∧ m.q2 ≤ 255) ∧ (0 ≤ m.q3 ∧ m.q3 ≤ 65535) ∧ eqC m.gr zeroC = false ∧ (0 ≤ m.st ∧ m.st ≤ 65535) := by
  unfold setB
  simp only [Bool.and_eq_true, inB_iff, Bool.not_eq_true', and_assoc]
/-- what is said by the type may be -/
def bodyB (m : Ms) : Bool := if m.h.t = 9 then inB m.ak.n 1 65534 else if m.h.t = 11 then inB m.o (-32768) 32767 && (setB m && inB m.src 0 255) else true
/-- a message may be -/
def Ms.right (m : Ms) : Bool := m.h.right && (rightB m.ts m.tn && (eqM m (saidM m) && bodyB m))
theorem Ms.right_iff {m : Ms} : m.right = true ↔ m.h.right = true ∧ rightB m.ts m.tn = true ∧ m = saidM m ∧ bodyB m = true := by
  unfold Ms.right
  simp only [Bool.and_eq_true, eqM_iff]
/-- an announcement's bytes behind its time -/
def annL (m : Ms) : List Int := beL 2 m.o ++ [0, m.p1, m.q1, m.q2] ++ beL 2 m.q3 ++ [m.p2] ++ m.gr.l ++ beL 2 m.st ++ [m.src]
theorem annL_lit (m : Ms) : annL m = [m.o / 256 % 256, m.o % 256, 0, m.p1, m.q1, m.q2, m.q3 / 256 % 256, m.q3 % 256, m.p2, m.gr.b0, m.gr.b1, m.gr.b2, m.gr.b3, m.gr.b4, m.gr.b5, m.gr.b6, m.gr.b7, m.st / 256 % 256, m.st % 256, m.src] := rfl
theorem annL_length (m : Ms) : (annL m).length = 20 := rfl
/-- a message's bytes behind its time -/
def tailL (m : Ms) : List Int := if m.h.t = 9 then ptL m.ak else if m.h.t = 11 then annL m else []
/-- a message's bytes -/
def encM (m : Ms) : List Int := encL m.h ++ ((beL 6 m.ts ++ beL 4 m.tn) ++ tailL m)
theorem tail_length {m : Ms} (hr : longN m.h.t ≠ 0) : ((tailL m).length : Int) = longN m.h.t - 44 := by
  unfold tailL
  by_cases h9 : m.h.t = 9
  · rw [if_pos h9, ptL_length, h9]; rfl
  · rw [if_neg h9]
    by_cases h11 : m.h.t = 11
    · rw [if_pos h11, annL_length, h11]; rfl
    · rw [if_neg h11]
      unfold longN at hr ⊢
      simp only [List.length_nil]
      split
      · omega
      split
      · omega
      split
      · omega
      · rename_i a b c; rw [if_neg a, if_neg b, if_neg c, if_neg h9, if_neg h11] at hr; omega
theorem encM_length {m : Ms} (hr : longN m.h.t ≠ 0) : ((encM m).length : Int) = longN m.h.t := by
  have := tail_length hr
  unfold encM
  rw [List.length_append, List.length_append, encL_length, List.length_append, beL_length, beL_length]
  omega
theorem encM_at {m : Ms} (k : Nat) : (encM m).getD (44 + k) 0 = (tailL m).getD k 0 := by
  unfold encM
  simp only [List.getD]
  rw [List.getElem?_append_right (by rw [encL_length]; omega), encL_length, List.getElem?_append_right (by rw [List.length_append, beL_length, beL_length]; omega), List.length_append, beL_length, beL_length]
  congr 2
  omega
theorem encM_drop34 (m : Ms) : (encM m).drop 34 = (beL 6 m.ts ++ beL 4 m.tn) ++ tailL m := by
  unfold encM
  rw [List.drop_left' (encL_length _)]
theorem encM_drop40 (m : Ms) : (encM m).drop 40 = beL 4 m.tn ++ tailL m := by
  have e : (encM m).drop 40 = ((encM m).drop 34).drop 6 := by rw [List.drop_drop]
  rw [e, encM_drop34, List.append_assoc, List.drop_left' (beL_length _ _)]
theorem encM_drop44 (m : Ms) : (encM m).drop 44 = tailL m := by
  have e : (encM m).drop 44 = ((encM m).drop 40).drop 4 := by rw [List.drop_drop]
  rw [e, encM_drop40, List.drop_left' (beL_length _ _)]
theorem encM_take34 (m : Ms) : (encM m).take 34 = encL m.h := by
  unfold encM
  rw [List.take_left' (encL_length _)]

/-- a number of two bytes with its sign -/
def sg2 (z : Int) : Int := if 32767 < z then z - 65536 else z
def tsOf (zs : List Int) : Int := beN ((zs.drop 34).take 6)
def tnOf (zs : List Int) : Int := beN ((zs.drop 40).take 4)
def ckOf (zs : List Int) (k : Nat) : Ck := ⟨zs.getD k 0, zs.getD (k + 1) 0, zs.getD (k + 2) 0, zs.getD (k + 3) 0, zs.getD (k + 4) 0, zs.getD (k + 5) 0, zs.getD (k + 6) 0, zs.getD (k + 7) 0⟩
/-- what bytes say, as a message -/
def mOf (zs : List Int) : Ms :=
  if (hdOf zs).t = 9 then ⟨hdOf zs, tsOf zs, tnOf zs, getP ((zs.drop 44).take 10), 0, 0, 0, 0, 0, 0, zeroC, 0, zeroP, zeroP, 0⟩
  else if (hdOf zs).t = 11 then ⟨hdOf zs, tsOf zs, tnOf zs, zeroP, sg2 (zs.getD 44 0 * 256 + zs.getD 45 0), zs.getD 47 0, zs.getD 52 0, zs.getD 48 0, zs.getD 49 0, zs.getD 50 0 * 256 + zs.getD 51 0, ckOf zs 53, zs.getD 61 0 * 256 + zs.getD 62 0, (hdOf zs).p, zeroP, zs.getD 63 0⟩
  else ⟨hdOf zs, tsOf zs, tnOf zs, zeroP, 0, 0, 0, 0, 0, 0, zeroC, 0, zeroP, zeroP, 0⟩
theorem mOf_h (zs : List Int) : (mOf zs).h = hdOf zs := by unfold mOf; split; rfl; split <;> rfl
theorem mOf_ts (zs : List Int) : (mOf zs).ts = tsOf zs := by unfold mOf; split; rfl; split <;> rfl
theorem mOf_tn (zs : List Int) : (mOf zs).tn = tnOf zs := by unfold mOf; split; rfl; split <;> rfl
/-- the byte that must be 0 -/
def spareB (zs : List Int) : Bool := if (hdOf zs).t = 11 then zs.getD 46 0 == 0 else true
/-- what is behind the head is as it should be -/
def bodyOk (zs : List Int) : Bool := rightB (tsOf zs) (tnOf zs) && (spareB zs && (mOf zs).right)
theorem bodyOk_iff {zs : List Int} : bodyOk zs = true ↔ rightB (tsOf zs) (tnOf zs) = true ∧ spareB zs = true ∧ (mOf zs).right = true := by
  unfold bodyOk; simp only [Bool.and_eq_true]
/-- what is amiss first with bytes -/
def faultM (L : Int) (zs : List Int) : Int := if faultN L zs ≠ 0 then faultN L zs else if bodyOk zs = true then 0 else 60
theorem faultM_zero {L : Int} {zs : List Int} : faultM L zs = 0 ↔ faultN L zs = 0 ∧ bodyOk zs = true := by
  unfold faultM
  split
  · rename_i h; constructor
    · intro h2; exact absurd h2 h
    · rintro ⟨h2, _⟩; exact absurd h2 h
  · rename_i h
    split
    · rename_i h2; simp at h; simp [h, h2]
    · rename_i h2; simp [h2]
/-- what bytes are read as -/
def decM (L : Int) (zs : List Int) : Ms := if faultM L zs = 0 then mOf zs else zeroM

theorem beN6 {n : Int} (h0 : 0 ≤ n) (h1 : n ≤ 281474976710655) : beN (beL 6 n) = n := beN_beL 6 n h0 (by omega)
theorem beN4 {n : Int} (h0 : 0 ≤ n) (h1 : n ≤ 999999999) : beN (beL 4 n) = n := beN_beL 4 n h0 (by omega)
theorem tsOf_enc {m : Ms} (h : rightB m.ts m.tn = true) : tsOf (encM m) = m.ts := by
  obtain ⟨⟨h0, h1⟩, _⟩ := rightB_iff.1 h
  unfold tsOf
  rw [encM_drop34, List.append_assoc, List.take_left' (beL_length _ _), beN6 h0 h1]
theorem tnOf_enc {m : Ms} (h : rightB m.ts m.tn = true) : tnOf (encM m) = m.tn := by
  obtain ⟨_, h0, h1⟩ := rightB_iff.1 h
  unfold tnOf
  rw [encM_drop40, List.take_left' (beL_length _ _), beN4 h0 h1]
/-- what is written is read as it was -/
theorem m_enc {m : Ms} (hr : m.right = true) (c0 : -9223372036854775808 ≤ m.h.c) (c1 : m.h.c ≤ 9223372036854775807) : mOf (encM m) = m ∧ bodyOk (encM m) = true ∧ faultM (longN m.h.t) (encM m) = 0 := by
  obtain ⟨h1, h2, h3, h4⟩ := Ms.right_iff.1 hr
  have hh : hdOf (encM m) = m.h := hd_enc m.h _ h1 c0 c1
  have hts := tsOf_enc h2
  have htn := tnOf_enc h2
  have hm : mOf (encM m) = m := by
    rw [h3]
    rw [← h3]
    unfold mOf
    rw [hh, hts, htn]
    unfold saidM at h3
    unfold bodyB at h4
    by_cases h9 : m.h.t = 9
    · rw [if_pos h9] at h3 h4 ⊢
      rw [encM_drop44]
      have e : tailL m = ptL m.ak := by unfold tailL; rw [if_pos h9]
      rw [e, List.take_of_length_le (by rw [ptL_length]; omega)]
      have h5 := inB_iff.1 h4
      have eg : getP (ptL m.ak) = m.ak := by
        rw [ptL_lit]
        show (⟨⟨m.ak.c.b0, m.ak.c.b1, m.ak.c.b2, m.ak.c.b3, m.ak.c.b4, m.ak.c.b5, m.ak.c.b6, m.ak.c.b7⟩, m.ak.n / 256 % 256 * 256 + m.ak.n % 256⟩ : Pt) = m.ak
        rw [show m.ak.n / 256 % 256 * 256 + m.ak.n % 256 = m.ak.n by omega]
      rw [eg]
      exact h3.symm
    · rw [if_neg h9] at h3 h4 ⊢
      by_cases h11 : m.h.t = 11
      · rw [if_pos h11] at h3 h4 ⊢
        rw [Bool.and_eq_true, Bool.and_eq_true, inB_iff, inB_iff] at h4
        obtain ⟨ho, hs, hsrc⟩ := h4
        obtain ⟨b1, b2, b3, b4, b5, b6, b7⟩ := setB_iff.1 hs
        have e : tailL m = annL m := by unfold tailL; rw [if_neg h9, if_pos h11]
        have A : ∀ k, (encM m).getD (44 + k) 0 = (annL m).getD k 0 := fun k => by rw [encM_at, e]
        rw [annL_lit] at A
        have a0 := A 0; have a1 := A 1; have a3 := A 3; have a4 := A 4; have a5 := A 5; have a6 := A 6; have a7 := A 7; have a8 := A 8; have a9 := A 9; have a10 := A 10; have a11 := A 11; have a12 := A 12; have a13 := A 13; have a14 := A 14; have a15 := A 15; have a16 := A 16; have a17 := A 17; have a18 := A 18; have a19 := A 19
        simp only [Nat.reduceAdd] at a0 a1 a3 a4 a5 a6 a7 a8 a9 a10 a11 a12 a13 a14 a15 a16 a17 a18 a19
        unfold ckOf
        simp only [Nat.reduceAdd, a0, a1, a3, a4, a5, a6, a7, a8, a9, a10, a11, a12, a13, a14, a15, a16, a17, a18, a19]
        simp only [List.getD_cons_succ, List.getD_cons_zero]
        have e1 : sg2 (m.o / 256 % 256 * 256 + m.o % 256) = m.o := by unfold sg2; split <;> omega
        have e2 : m.q3 / 256 % 256 * 256 + m.q3 % 256 = m.q3 := by omega
        have e3 : m.st / 256 % 256 * 256 + m.st % 256 = m.st := by omega
        rw [e1, e2, e3]
        exact h3.symm
      · rw [if_neg h11] at h3 h4 ⊢
        exact h3.symm
  refine ⟨hm, ?_, ?_⟩
  · rw [bodyOk_iff, hts, htn, hm]
    refine ⟨h2, ?_, hr⟩
    unfold spareB
    rw [hh]
    by_cases h11 : m.h.t = 11
    · rw [if_pos h11]
      have e : tailL m = annL m := by unfold tailL; rw [if_neg (by omega), if_pos h11]
      have A : (encM m).getD (44 + 2) 0 = (annL m).getD 2 0 := by rw [encM_at, e]
      rw [annL_lit] at A
      simp only [Nat.reduceAdd, List.getD_cons_succ, List.getD_cons_zero] at A
      rw [A]; rfl
    · rw [if_neg h11]
  · rw [faultM_zero]
    have hl : 34 ≤ longN m.h.t := by have := (longN_ne (Hd.right_iff.1 h1).1).2; omega
    have hf : faultN (longN m.h.t) (encM m) = 0 := by
      have := fault_enc m.h ((beL 6 m.ts ++ beL 4 m.tn) ++ tailL m) (longN m.h.t) hl h1 c0 c1
      rw [if_pos rfl] at this
      exact this
    refine ⟨hf, ?_⟩
    rw [bodyOk_iff, hts, htn, hm]
    refine ⟨h2, ?_, hr⟩
    unfold spareB
    rw [hh]
    by_cases h11 : m.h.t = 11
    · rw [if_pos h11]
      have e : tailL m = annL m := by unfold tailL; rw [if_neg (by omega), if_pos h11]
      have A : (encM m).getD (44 + 2) 0 = (annL m).getD 2 0 := by rw [encM_at, e]
      rw [annL_lit] at A
      simp only [Nat.reduceAdd, List.getD_cons_succ, List.getD_cons_zero] at A
      rw [A]; rfl
    · rw [if_neg h11]
/-- how long bytes are whose head is right -/
theorem fault_long {zs : List Int} (hf : faultN zs.length zs = 0) : (zs.length : Int) = longN (hdOf zs).t ∧ longN (hdOf zs).t ≠ 0 ∧ 44 ≤ zs.length := by
  have hfo : formN zs.length zs = 0 := by
    unfold faultN at hf
    split at hf
    · rename_i h; exact absurd hf h
    · rename_i h; simpa using h
  have ht : (hdOf zs).t = zs.getD 0 0 % 16 := rfl
  rw [ht]
  unfold formN at hfo
  have hlong := longN_ne (t := zs.getD 0 0 % 16)
  generalize longN (zs.getD 0 0 % 16) = m at *
  split at hfo
  · omega
  split at hfo
  · omega
  split at hfo
  · omega
  split at hfo
  · omega
  rename_i h1 h2 h3 h4
  have hq := hlong h3
  omega
theorem sub_byte {zs : List Int} (hb : ∀ z ∈ zs, isByte z) (k n : Nat) : ∀ z ∈ (zs.drop k).take n, isByte z := fun z hz => hb z (List.mem_of_mem_drop (List.mem_of_mem_take hz))
theorem ptL_getP (x : List Int) (hl : x.length = 10) (hb : ∀ z ∈ x, isByte z) : ptL (getP x) = x := by
  have B : ∀ k, isByte (x.getD k 0) := fun k => getD_byte hb k
  have b8 := B 8
  have b9 := B 9
  unfold isByte at b8 b9
  rw [ptL_lit]
  have e : x = [x.getD 0 0, x.getD 1 0, x.getD 2 0, x.getD 3 0, x.getD 4 0, x.getD 5 0, x.getD 6 0, x.getD 7 0, x.getD 8 0, x.getD 9 0] := by
    have := take_map x 10 (by omega)
    rw [List.take_of_length_le (by omega)] at this
    exact this.trans rfl
  conv => rhs; rw [e]
  show [x.getD 0 0, x.getD 1 0, x.getD 2 0, x.getD 3 0, x.getD 4 0, x.getD 5 0, x.getD 6 0, x.getD 7 0, (x.getD 8 0 * 256 + x.getD 9 0) / 256 % 256, (x.getD 8 0 * 256 + x.getD 9 0) % 256] = _
  rw [show (x.getD 8 0 * 256 + x.getD 9 0) / 256 % 256 = x.getD 8 0 by omega, show (x.getD 8 0 * 256 + x.getD 9 0) % 256 = x.getD 9 0 by omega]
theorem drop_map (zs : List Int) (n m : Nat) (h : zs.length = n + m) : zs.drop n = (List.range m).map (fun k => zs.getD (n + k) 0) := by
  apply List.ext_getElem
  · simp; omega
  · intro i h1 h2
    have hz : n + i < zs.length := by simp at h1; omega
    rw [List.getElem_drop, List.getElem_map, List.getElem_range]
    simp [List.getD, hz]
/-- bytes behind the head whose time, and whose rest, are written as they are -/
theorem tail_dec {zs : List Int} (hb : ∀ z ∈ zs, isByte z) (hf : faultN zs.length zs = 0) (hs : spareB zs = true) : tailL (mOf zs) = zs.drop 44 := by
  obtain ⟨hl, hn, h44⟩ := fault_long hf
  unfold tailL
  rw [mOf_h]
  unfold spareB at hs
  by_cases h9 : (hdOf zs).t = 9
  · rw [if_pos h9]
    have hlen : zs.length = 54 := by rw [h9] at hl; have : longN 9 = 54 := rfl; omega
    have e : (mOf zs).ak = getP ((zs.drop 44).take 10) := by unfold mOf; rw [if_pos h9]
    rw [e, ptL_getP _ (by rw [List.length_take, List.length_drop]; omega) (sub_byte hb 44 10), List.take_of_length_le (by rw [List.length_drop]; omega)]
  · rw [if_neg h9]
    by_cases h11 : (hdOf zs).t = 11
    · rw [if_pos h11] at hs ⊢
      have hlen : zs.length = 64 := by rw [h11] at hl; have : longN 11 = 64 := rfl; omega
      have e : zs.drop 44 = [zs.getD 44 0, zs.getD 45 0, zs.getD 46 0, zs.getD 47 0, zs.getD 48 0, zs.getD 49 0, zs.getD 50 0, zs.getD 51 0, zs.getD 52 0, zs.getD 53 0, zs.getD 54 0, zs.getD 55 0, zs.getD 56 0, zs.getD 57 0, zs.getD 58 0, zs.getD 59 0, zs.getD 60 0, zs.getD 61 0, zs.getD 62 0, zs.getD 63 0] := (drop_map zs 44 20 hlen).trans rfl
      have em : mOf zs = ⟨hdOf zs, tsOf zs, tnOf zs, zeroP, sg2 (zs.getD 44 0 * 256 + zs.getD 45 0), zs.getD 47 0, zs.getD 52 0, zs.getD 48 0, zs.getD 49 0, zs.getD 50 0 * 256 + zs.getD 51 0, ckOf zs 53, zs.getD 61 0 * 256 + zs.getD 62 0, (hdOf zs).p, zeroP, zs.getD 63 0⟩ := by unfold mOf; rw [if_neg h9, if_pos h11]
      have B : ∀ k, isByte (zs.getD k 0) := fun k => getD_byte hb k
      have b44 := B 44; have b45 := B 45; have b50 := B 50; have b51 := B 51; have b61 := B 61; have b62 := B 62
      unfold isByte at b44 b45 b50 b51 b61 b62
      have hs' : zs.getD 46 0 = 0 := by simpa using hs
      rw [e, annL_lit, em]
      simp only [ckOf, Nat.reduceAdd]
      have e1 : sg2 (zs.getD 44 0 * 256 + zs.getD 45 0) / 256 % 256 = zs.getD 44 0 := by unfold sg2; split <;> omega
      have e2 : sg2 (zs.getD 44 0 * 256 + zs.getD 45 0) % 256 = zs.getD 45 0 := by unfold sg2; split <;> omega
      have e3 : (zs.getD 50 0 * 256 + zs.getD 51 0) / 256 % 256 = zs.getD 50 0 := by omega
      have e4 : (zs.getD 50 0 * 256 + zs.getD 51 0) % 256 = zs.getD 51 0 := by omega
      have e5 : (zs.getD 61 0 * 256 + zs.getD 62 0) / 256 % 256 = zs.getD 61 0 := by omega
      have e6 : (zs.getD 61 0 * 256 + zs.getD 62 0) % 256 = zs.getD 62 0 := by omega
      rw [e1, e2, e3, e4, e5, e6, hs']
    · rw [if_neg h11]
      have hlen : zs.length = 44 := by
        unfold longN at hl hn
        split at hl
        · omega
        split at hl
        · omega
        split at hl
        · omega
        · omega
      rw [List.drop_of_length_le (by omega)]
theorem time_dec {zs : List Int} (hb : ∀ z ∈ zs, isByte z) (h44 : 44 ≤ zs.length) : beL 6 (tsOf zs) = (zs.drop 34).take 6 ∧ beL 4 (tnOf zs) = (zs.drop 40).take 4 := by
  constructor
  · have := beL_beN ((zs.drop 34).take 6) (sub_byte hb 34 6)
    rw [List.length_take, List.length_drop, show min 6 (zs.length - 34) = 6 by omega] at this
    exact this
  · have := beL_beN ((zs.drop 40).take 4) (sub_byte hb 40 4)
    rw [List.length_take, List.length_drop, show min 4 (zs.length - 40) = 4 by omega] at this
    exact this
theorem cut_three (zs : List Int) : zs = zs.take 34 ++ (((zs.drop 34).take 6 ++ (zs.drop 40).take 4) ++ zs.drop 44) := by
  have e1 : zs.drop 40 = (zs.drop 34).drop 6 := by rw [List.drop_drop]
  have e2 : zs.drop 44 = (zs.drop 40).drop 4 := by rw [List.drop_drop]
  rw [List.append_assoc, e2, List.take_append_drop, e1, List.take_append_drop, List.take_append_drop]
/-- what is read is written as the same bytes -/
theorem enc_mOf {zs : List Int} (hb : ∀ z ∈ zs, isByte z) (hf : faultN zs.length zs = 0) (hs : spareB zs = true) : encM (mOf zs) = zs := by
  obtain ⟨hl, hn, h44⟩ := fault_long hf
  obtain ⟨t1, t2⟩ := time_dec hb h44
  unfold encM
  rw [tail_dec hb hf hs, mOf_h, mOf_ts, mOf_tn, (enc_dec zs (by omega) hb hf).2, t1, t2]
  exact (cut_three zs).symm
theorem enc_m {zs : List Int} (hb : ∀ z ∈ zs, isByte z) (hf : faultM zs.length zs = 0) : (mOf zs).right = true ∧ encM (mOf zs) = zs := by
  obtain ⟨h1, h2⟩ := faultM_zero.1 hf
  obtain ⟨_, h3, h4⟩ := bodyOk_iff.1 h2
  exact ⟨h4, enc_mOf hb h1 h3⟩
/-- unlike messages have unlike bytes -/
theorem encM_inj {a b : Ms} (ha : a.right = true) (hb : b.right = true) (a0 : -9223372036854775808 ≤ a.h.c) (a1 : a.h.c ≤ 9223372036854775807) (b0 : -9223372036854775808 ≤ b.h.c) (b1 : b.h.c ≤ 9223372036854775807) : encM a = encM b ↔ a = b := by
  constructor
  · intro h
    rw [← (m_enc ha a0 a1).1, ← (m_enc hb b0 b1).1, h]
  · rintro rfl; rfl
theorem encM_byte {m : Ms} (hr : m.right = true) (hc : m.h.p.c.ok) (ha : m.ak.c.ok) (hg : m.gr.ok) : ∀ z ∈ encM m, isByte z := by
  obtain ⟨h1, h2, h3, h4⟩ := Ms.right_iff.1 hr
  unfold encM
  refine app_byte (encL_byte h1 hc) (app_byte (app_byte (beL_byte _ _) (beL_byte _ _)) ?_)
  unfold tailL
  unfold bodyB at h4
  by_cases h9 : m.h.t = 9
  · rw [if_pos h9]; exact ptL_byte _ ha
  · rw [if_neg h9] at h4 ⊢
    by_cases h11 : m.h.t = 11
    · rw [if_pos h11] at h4 ⊢
      rw [Bool.and_eq_true, Bool.and_eq_true, inB_iff, inB_iff] at h4
      obtain ⟨ho, hs, hsrc⟩ := h4
      obtain ⟨b1, b2, b3, b4, b5, b6, b7⟩ := setB_iff.1 hs
      unfold annL
      refine app_byte (app_byte (app_byte (app_byte (app_byte (app_byte (beL_byte _ _) ?_) (beL_byte _ _)) ?_) hg) (beL_byte _ _)) ?_
      · intro z hz
        simp only [List.mem_cons, List.not_mem_nil, or_false] at hz
        unfold isByte
        rcases hz with rfl | rfl | rfl | rfl <;> omega
      · intro z hz
        simp only [List.mem_cons, List.not_mem_nil, or_false] at hz
        unfold isByte
        subst hz; omega
      · intro z hz
        simp only [List.mem_cons, List.not_mem_nil, or_false] at hz
        unfold isByte
        subst hz; omega
    · rw [if_neg h11]; intro z hz; simp at hz
theorem ckOf_ok {zs : List Int} (hb : ∀ z ∈ zs, isByte z) (k : Nat) : (ckOf zs k).ok := by
  intro z hz
  simp only [ckOf, Ck.l, List.mem_cons, List.not_mem_nil, or_false] at hz
  rcases hz with rfl | rfl | rfl | rfl | rfl | rfl | rfl | rfl <;> exact getD_byte hb _

end Go.Proofs.YtifhjmhekapaoaaDoor
