/- Plain words on what a book answers behind its calls: for the laws of layer 11. No program is read here. -/
import Derived.Test.YtpbfnmokhmioaaaDoorSeqsMath
namespace Go.Proofs.YtpbfnmokhmioaaaDoor
set_option maxRecDepth 100000
open Go.RowKit
set_option linter.unusedVariables false

theorem behind_self (s : Int) : behindB s s = false := by
  rw [← Bool.not_eq_true, behindB_iff]
  omega
theorem behind_next {s : Int} (h0 : 0 ≤ s) (h1 : s ≤ 65534) : behindB (s + 1) s = true := by
  rw [behindB_iff]
  omega
theorem behind_prev {s : Int} (h0 : 0 ≤ s) (h1 : s ≤ 65534) : behindB s (s + 1) = false := by
  rw [← Bool.not_eq_true, behindB_iff]
  omega
theorem behind_nine {s : Int} (h0 : 0 ≤ s) (h1 : s ≤ 65535) : behindB ((s + 9) % 65536) s = true := by
  rw [behindB_iff]
  omega
theorem behind_in {t s : Int} (h : behindB t s = true) : inB t 0 65535 = true := by
  rw [behindB_iff] at h
  exact inB_iff.2 h.1
/-- where a sender's last number of a type is known, the next one's newness hangs on that alone -/
theorem fresh_has {b : Bk} {q : Pt} {k s : Int} (hk : longN k ≠ 0) (h1 : hasA b.L q = true) (h2 : atA zRow b.L q k = ⟨true, s⟩) (t : Int) : freshOk b q k t = behindB t s := by
  have hd : (longN k == 0) = false := by simpa using hk
  have hr : roomB b q = true := by unfold roomB; rw [h1]; rfl
  unfold freshOk aheadB
  rw [hd, hr, h2]
  cases hb : behindB t s
  · simp
  · simp [behind_in hb]
/-- behind a number that was new -/
theorem fresh_at {b : Bk} {q : Pt} {k s : Int} (h : freshOk b q k s = true) : longN k ≠ 0 ∧ hasA (freshB b q k s).L q = true ∧ atA zRow (freshB b q k s).L q k = ⟨true, s⟩ := by
  have hk : longN k ≠ 0 := by
    unfold freshOk at h
    simp only [Bool.and_eq_true, Bool.not_eq_true'] at h
    simpa using h.1
  unfold freshB
  rw [h]
  refine ⟨hk, hasA_put_same _ _ _, ?_⟩
  show atA zRow (putA b.L q _) q k = _
  rw [atA_put_same, updN_same]
theorem fresh_then {b : Bk} {q : Pt} {k s : Int} (h : freshOk b q k s = true) (t : Int) : freshOk (freshB b q k s) q k t = behindB t s :=
  fresh_has (fresh_at h).1 (fresh_at h).2.1 (fresh_at h).2.2 t
theorem fresh_no {b : Bk} {q : Pt} {k s : Int} (h : freshOk b q k s = false) : freshB b q k s = b := by unfold freshB; rw [h]; rfl
theorem fresh_in {b : Bk} {q : Pt} {k s : Int} (h : freshOk b q k s = true) : inB s 0 65535 = true := by
  unfold freshOk at h
  simp only [Bool.and_eq_true] at h
  exact h.2.1
theorem ahead_zero (s : Int) : aheadB zNb s = true := rfl
/-- with room, and without a last number, every number is new -/
theorem fresh_first {b : Bk} {q : Pt} {k s : Int} (hk : longN k ≠ 0) (hs : inB s 0 65535 = true) (h1 : hasA b.L q = false) (h2 : b.L.length < 16) : freshOk b q k s = true := by
  have hd : (longN k == 0) = false := by simpa using hk
  have hr : roomB b q = true := by unfold roomB; rw [h1, Bool.false_or, decide_eq_true_eq]; omega
  unfold freshOk
  rw [hd, hr, atA_no zRow h1, hs]
  rfl
theorem fresh_new (q : Pt) (s : Int) : freshOk newBk q 0 s = inB s 0 65535 := by
  unfold freshOk
  rw [show (longN 0 == 0) = false from rfl, show roomB newBk q = true from rfl, show aheadB (atA zRow newBk.L q 0) s = true from rfl]
  simp
/-- halves -/
theorem keep_at {b : Bk} {q : Pt} {s x0 x1 x2 : Int} (h : keepOk b q s = true) : atA zHf (keepB b q s x0 x1 x2).H q = ⟨⟨true, s⟩, x0, x1, x2⟩ := by
  unfold keepB
  rw [h]
  exact atA_put_same _ _ _ _
theorem keep_take {b : Bk} {q : Pt} {s x0 x1 x2 : Int} (h : keepOk b q s = true) (t : Int) : takeOk (keepB b q s x0 x1 x2) q t = (s == t) := by
  unfold takeOk
  rw [keep_at h]
  rfl
theorem keep_half {b : Bk} {q : Pt} {s x0 x1 x2 : Int} (h : keepOk b q s = true) : takeH (keepB b q s x0 x1 x2) q s = ⟨⟨true, s⟩, x0, x1, x2⟩ := by
  unfold takeH
  rw [keep_take h, keep_at h]
  simp
theorem take_no {b : Bk} {q : Pt} {s : Int} (h : takeOk b q s = false) : takeB b q s = b ∧ takeH b q s = zHf := by
  unfold takeB takeH
  rw [h]
  exact ⟨rfl, rfl⟩
theorem take_again {b : Bk} {q : Pt} {s : Int} (h : takeOk b q s = true) : takeOk (takeB b q s) q s = false := by
  have e : takeB b q s = ⟨b.nx, b.L, putA b.H q zHf⟩ := by unfold takeB; rw [h]; rfl
  rw [e]
  unfold takeOk
  rw [show atA zHf (putA b.H q zHf) q = zHf from atA_put_same _ _ _ _]
  rfl
/-- behind a sender was forgotten -/
theorem forget_has (b : Bk) (q : Pt) : hasA (forgetB b q).L q = false := hasA_del_same _ _
theorem forget_take (b : Bk) (q : Pt) (s : Int) : takeOk (forgetB b q) q s = false := by
  unfold takeOk
  rw [show atA zHf (forgetB b q).H q = zHf from atA_del_same _ _ _]
  rfl
theorem forget_len {b : Bk} (h : b.ok) {q : Pt} (hq : hasA b.L q = true) : (forgetB (forgetB b q) q).L.length < 16 := by
  have h1 := delA_yes h.aL hq
  have h2 := delA_le (delA b.L q) q
  have h3 := h.len
  show (delA (delA b.L q) q).length < 16
  omega
/-- what is sent of a type -/
theorem next_mod (k : Int) : nextN (k % 65536) = (k + 1) % 65536 := by
  unfold nextN
  by_cases h : k % 65536 = 65535
  · rw [if_neg (by simp [h])]; omega
  · rw [if_pos ⟨inB_iff.2 (by omega), h⟩]; omega
theorem nextA_one (b : Bk) : nextA b 1 = b.nx 1 := rfl
theorem nextB_one {b : Bk} {k : Int} (h : b.nx 1 = k % 65536) : (nextB b 1).nx 1 = (k + 1) % 65536 := by
  show nextN (b.nx 1) = _
  rw [h, next_mod]
theorem next_nx (b : Bk) {k : Int} (h : k ≠ 1) : (nextB b k).nx 1 = b.nx 1 := by
  unfold nextB
  split
  · rfl
  · exact updN_ne _ _ (Ne.symm h)
theorem does_nx (b : Bk) (o : Co) (h : ¬ (o.kd = 0 ∧ o.ty = 1)) : (doB b o).nx 1 = b.nx 1 := by
  unfold doB
  split
  · rename_i h0
    exact next_nx b fun h1 => h ⟨h0, h1⟩
  split
  · unfold freshB; split <;> rfl
  split
  · unfold keepB; split <;> rfl
  split
  · unfold takeB; split <;> rfl
  split
  · rfl
  rfl
theorem does_next (b : Bk) (o : Co) (h0 : o.kd = 0) (h1 : o.ty = 1) : doA b o = ⟨b.nx 1, 0, 0, 0, false⟩ ∧ doB b o = nextB b 1 := by
  unfold doA doB
  rw [if_pos h0, if_pos h0, h1]
  exact ⟨rfl, rfl⟩
/-- one sender's calls are not seen at another one's numbers -/
theorem does_apart (b : Bk) (o : Co) {q : Pt} (hq : o.p ≠ q) : getA (doB b o).L q = getA b.L q := by
  unfold doB
  split
  · unfold nextB; split <;> rfl
  split
  · unfold freshB
    split
    · exact getA_put_ne _ _ hq
    · rfl
  split
  · unfold keepB; split <;> rfl
  split
  · unfold takeB; split <;> rfl
  split
  · exact getA_del_ne _ hq
  rfl
/-- what stays so of a sender whose number was new once -/
def Seen (b : Bk) (q : Pt) (k s : Int) : Prop := hasA b.L q = true ∧ atA zRow b.L q k = ⟨true, s⟩
theorem Seen.does {b : Bk} {q : Pt} {k s : Int} (h : Seen b q k s) (o : Co) (hq : o.p ≠ q) : Seen (doB b o) q k s := by
  have e := does_apart b o hq
  refine ⟨?_, ?_⟩
  · unfold hasA; rw [e]; exact h.1
  · unfold atA; rw [e]; exact h.2
theorem seen_fresh {b : Bk} {q : Pt} {k s : Int} (h : freshOk b q k s = true) : Seen (freshB b q k s) q k s := ⟨(fresh_at h).2.1, (fresh_at h).2.2⟩

end Go.Proofs.YtpbfnmokhmioaaaDoor
