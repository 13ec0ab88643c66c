/- Plain words on the program's own book of numbers: what each call makes of it, and what it tells. No program is read here. -/
import Derived.Test.YtpbfnmokhmioaaaDoorRankMath
import Derived.Test.YtpbfnmokhmioaaaDoorHeadNum
namespace Go.Proofs.YtpbfnmokhmioaaaDoor
set_option maxRecDepth 100000
open Go.RowKit
set_option linter.unusedVariables false

/-- a number, or none -/
structure Nb where
  is : Bool
  s : Int
def zNb : Nb := ⟨false, 0⟩
def zRow : Int → Nb := fun _ => zNb
def updN {α : Type} (f : Int → α) (k : Int) (x : α) : Int → α := fun j => if j = k then x else f j
theorem updN_same {α : Type} (f : Int → α) (k : Int) (x : α) : updN f k x k = x := if_pos rfl
theorem updN_ne {α : Type} (f : Int → α) {k j : Int} (x : α) (h : j ≠ k) : updN f k x j = f j := if_neg h
/-- a sender's last numbers, by types -/
def rowA (f : Int → Nb) : Array Value := #[.bool (f 0).is, .int .i64 (f 0).s, .bool (f 1).is, .int .i64 (f 1).s, .bool (f 2).is, .int .i64 (f 2).s, .bool (f 3).is, .int .i64 (f 3).s, .bool (f 4).is, .int .i64 (f 4).s, .bool (f 5).is, .int .i64 (f 5).s, .bool (f 6).is, .int .i64 (f 6).s, .bool (f 7).is, .int .i64 (f 7).s, .bool (f 8).is, .int .i64 (f 8).s, .bool (f 9).is, .int .i64 (f 9).s, .bool (f 10).is, .int .i64 (f 10).s, .bool (f 11).is, .int .i64 (f 11).s]
/-- a half -/
structure Hf where
  n : Nb
  x0 : Int
  x1 : Int
  x2 : Int
def zHf : Hf := ⟨zNb, 0, 0, 0⟩
def hfA (h : Hf) : Array Value := #[.bool h.n.is, .int .i64 h.n.s, .int .i64 h.x0, .int .i64 h.x1, .int .i64 h.x2]
/-- a book's cells -/
def bkC (f : Int → Int) (m h : Nat) : Array Value := #[.int .i64 (f 0), .int .i64 (f 1), .int .i64 (f 2), .int .i64 (f 3), .int .i64 (f 4), .int .i64 (f 5), .int .i64 (f 6), .int .i64 (f 7), .int .i64 (f 8), .int .i64 (f 9), .int .i64 (f 10), .int .i64 (f 11), .map (some m), .map (some h)]

/- lists of what senders have -/
section
variable {α : Type}
def getA (L : List (Pt × α)) (p : Pt) : Option α := (L.find? fun e => eqP e.1 p).map (·.2)
def atA (z : α) (L : List (Pt × α)) (p : Pt) : α := (getA L p).getD z
def hasA (L : List (Pt × α)) (p : Pt) : Bool := (getA L p).isSome
def delA (L : List (Pt × α)) (p : Pt) : List (Pt × α) := L.filter fun e => !eqP e.1 p
def putA (L : List (Pt × α)) (p : Pt) (a : α) : List (Pt × α) := (p, a) :: delA L p
def ApartA (L : List (Pt × α)) : Prop := L.Pairwise fun a b => a.1 ≠ b.1
theorem eqP_ne {a b : Pt} (h : a ≠ b) : eqP a b = false := by
  cases hk : eqP a b
  · rfl
  · exact absurd (eqP_iff.1 hk) h
theorem getA_nil (p : Pt) : getA ([] : List (Pt × α)) p = none := rfl
theorem getA_cons_same (L : List (Pt × α)) (p : Pt) (a : α) : getA ((p, a) :: L) p = some a := by
  unfold getA
  rw [List.find?_cons, eqP_self]
  rfl
theorem getA_cons_ne (L : List (Pt × α)) {p q : Pt} (a : α) (h : p ≠ q) : getA ((p, a) :: L) q = getA L q := by
  unfold getA
  rw [List.find?_cons, eqP_ne h]
theorem getA_del_ne (L : List (Pt × α)) {p q : Pt} (h : p ≠ q) : getA (delA L p) q = getA L q := by
  induction L with
  | nil => rfl
  | cons e l ih =>
    obtain ⟨k, a⟩ := e
    by_cases hk : k = p
    · subst hk
      have h1 : delA ((k, a) :: l) k = delA l k := by unfold delA; rw [List.filter_cons, eqP_self]; rfl
      rw [h1, ih, getA_cons_ne l a h]
    · have h1 : delA ((k, a) :: l) p = (k, a) :: delA l p := by unfold delA; rw [List.filter_cons, eqP_ne hk]; rfl
      rw [h1]
      by_cases hq : k = q
      · subst hq
        rw [getA_cons_same, getA_cons_same]
      · rw [getA_cons_ne _ a hq, getA_cons_ne _ a hq, ih]
theorem getA_del_same (L : List (Pt × α)) (p : Pt) : getA (delA L p) p = none := by
  unfold getA delA
  rw [Option.map_eq_none_iff, List.find?_eq_none]
  intro e he
  have := (List.mem_filter.1 he).2
  intro h
  rw [h] at this
  cases this
theorem getA_put_same (L : List (Pt × α)) (p : Pt) (a : α) : getA (putA L p a) p = some a := getA_cons_same _ p a
theorem getA_put_ne (L : List (Pt × α)) {p q : Pt} (a : α) (h : p ≠ q) : getA (putA L p a) q = getA L q := by
  unfold putA
  rw [getA_cons_ne _ a h, getA_del_ne L h]
theorem hasA_put_same (L : List (Pt × α)) (p : Pt) (a : α) : hasA (putA L p a) p = true := by unfold hasA; rw [getA_put_same]; rfl
theorem hasA_put_ne (L : List (Pt × α)) {p q : Pt} (a : α) (h : p ≠ q) : hasA (putA L p a) q = hasA L q := by unfold hasA; rw [getA_put_ne L a h]
theorem hasA_del_same (L : List (Pt × α)) (p : Pt) : hasA (delA L p) p = false := by unfold hasA; rw [getA_del_same]; rfl
theorem hasA_del_ne (L : List (Pt × α)) {p q : Pt} (h : p ≠ q) : hasA (delA L p) q = hasA L q := by unfold hasA; rw [getA_del_ne L h]
theorem atA_put_same (z : α) (L : List (Pt × α)) (p : Pt) (a : α) : atA z (putA L p a) p = a := by unfold atA; rw [getA_put_same]; rfl
theorem atA_put_ne (z : α) (L : List (Pt × α)) {p q : Pt} (a : α) (h : p ≠ q) : atA z (putA L p a) q = atA z L q := by unfold atA; rw [getA_put_ne L a h]
theorem atA_del_same (z : α) (L : List (Pt × α)) (p : Pt) : atA z (delA L p) p = z := by unfold atA; rw [getA_del_same]; rfl
theorem atA_del_ne (z : α) (L : List (Pt × α)) {p q : Pt} (h : p ≠ q) : atA z (delA L p) q = atA z L q := by unfold atA; rw [getA_del_ne L h]
theorem atA_no (z : α) {L : List (Pt × α)} {p : Pt} (h : hasA L p = false) : atA z L p = z := by
  unfold hasA at h
  unfold atA
  cases hg : getA L p
  · rfl
  · rw [hg] at h; cases h
theorem mem_delA {L : List (Pt × α)} {p : Pt} {e : Pt × α} : e ∈ delA L p ↔ e ∈ L ∧ e.1 ≠ p := by
  unfold delA
  rw [List.mem_filter]
  constructor
  · rintro ⟨h1, h2⟩
    exact ⟨h1, fun h => by rw [eqP_iff.2 h] at h2; cases h2⟩
  · rintro ⟨h1, h2⟩
    exact ⟨h1, by rw [eqP_ne h2]; rfl⟩
theorem mem_putA {L : List (Pt × α)} {p : Pt} {a : α} {e : Pt × α} : e ∈ putA L p a ↔ e = (p, a) ∨ (e ∈ L ∧ e.1 ≠ p) := by
  unfold putA
  rw [List.mem_cons, mem_delA]
theorem hasA_iff {L : List (Pt × α)} {p : Pt} : hasA L p = true ↔ ∃ e ∈ L, e.1 = p := by
  unfold hasA getA
  rw [Option.isSome_map, List.find?_isSome]
  constructor
  · rintro ⟨e, he, h⟩
    exact ⟨e, he, eqP_iff.1 h⟩
  · rintro ⟨e, he, h⟩
    exact ⟨e, he, eqP_iff.2 h⟩
theorem ApartA.del {L : List (Pt × α)} (h : ApartA L) (p : Pt) : ApartA (delA L p) := h.filter _
theorem ApartA.put {L : List (Pt × α)} (h : ApartA L) (p : Pt) (a : α) : ApartA (putA L p a) :=
  List.pairwise_cons.2 ⟨fun e he => Ne.symm (mem_delA.1 he).2, h.del p⟩
theorem delA_le (L : List (Pt × α)) (p : Pt) : (delA L p).length ≤ L.length := List.length_filter_le _ _
theorem delA_no {L : List (Pt × α)} {p : Pt} (h : hasA L p = false) : delA L p = L := by
  unfold delA
  rw [List.filter_eq_self]
  intro e he
  rw [eqP_ne fun hk => by rw [hasA_iff.2 ⟨e, he, hk⟩] at h; cases h]
  rfl
theorem delA_yes {L : List (Pt × α)} (h : ApartA L) {p : Pt} (hp : hasA L p = true) : (delA L p).length + 1 = L.length := by
  induction L with
  | nil => cases hp
  | cons x l ih =>
    obtain ⟨h1, h2⟩ := List.pairwise_cons.1 h
    by_cases hx : x.1 = p
    · have hno : hasA l p = false := by
        cases hh : hasA l p
        · rfl
        · obtain ⟨e, he, hk⟩ := hasA_iff.1 hh
          exact absurd (hx.trans hk.symm) (h1 e he)
      have e1 : delA (x :: l) p = delA l p := by unfold delA; rw [List.filter_cons, eqP_iff.2 hx]; rfl
      rw [e1, delA_no hno]
      rfl
    · have e1 : delA (x :: l) p = x :: delA l p := by unfold delA; rw [List.filter_cons, eqP_ne hx]; rfl
      have hp2 : hasA l p = true := by
        obtain ⟨e, he, hk⟩ := hasA_iff.1 hp
        rcases List.mem_cons.1 he with rfl | he
        · exact absurd hk hx
        · exact hasA_iff.2 ⟨e, he, hk⟩
      rw [e1, List.length_cons, List.length_cons, ih h2 hp2]
theorem putA_len_yes {L : List (Pt × α)} (h : ApartA L) {p : Pt} (hp : hasA L p = true) (a : α) : (putA L p a).length = L.length := delA_yes h hp
theorem putA_len_no {L : List (Pt × α)} {p : Pt} (hp : hasA L p = false) (a : α) : (putA L p a).length = L.length + 1 := by
  unfold putA
  rw [List.length_cons, delA_no hp]
/-- who is among others is not more -/
theorem len_sub {β : Type} : ∀ {H : List (Pt × β)} {L : List (Pt × α)}, ApartA H → ApartA L → (∀ p, hasA H p = true → hasA L p = true) → H.length ≤ L.length
  | [], _, _, _, _ => Nat.zero_le _
  | x :: H, L, hH, hL, h => by
    obtain ⟨h1, h2⟩ := List.pairwise_cons.1 hH
    have hx := delA_yes hL (h x.1 (hasA_iff.2 ⟨x, by simp, rfl⟩))
    have := len_sub (H := H) (L := delA L x.1) h2 (hL.del _) fun p hp => by
      obtain ⟨e, he, hk⟩ := hasA_iff.1 hp
      have hne : x.1 ≠ p := fun hxp => h1 e he (hxp.trans hk.symm)
      rw [hasA_del_ne L hne]
      exact h p (hasA_iff.2 ⟨e, by simp [he], hk⟩)
    rw [List.length_cons]
    omega
end

/-- a book -/
structure Bk where
  nx : Int → Int
  L : List (Pt × (Int → Nb))
  H : List (Pt × Hf)
def newBk : Bk := ⟨fun _ => 0, [], []⟩
/-- what stays so of a book -/
structure Bk.ok (b : Bk) : Prop where
  aL : ApartA b.L
  aH : ApartA b.H
  sub : ∀ p, hasA b.H p = true → hasA b.L p = true
  len : b.L.length ≤ 16
theorem Bk.ok.lenH {b : Bk} (h : b.ok) : b.H.length ≤ 16 := Nat.le_trans (len_sub h.aH h.aL h.sub) h.len
theorem newBk_ok : newBk.ok := ⟨List.Pairwise.nil, List.Pairwise.nil, fun p h => h, by decide⟩
/-- Next -/
def nextA (b : Bk) (k : Int) : Int := if longN k = 0 then 0 else b.nx k
def nextB (b : Bk) (k : Int) : Bk := if longN k = 0 then b else ⟨updN b.nx k (nextN (b.nx k)), b.L, b.H⟩
/-- Fresh -/
def roomB (b : Bk) (p : Pt) : Bool := hasA b.L p || decide ((b.L.length : Int) < 16)
def aheadB (x : Nb) (s : Int) : Bool := !(x.is && !behindB s x.s)
def freshOk (b : Bk) (p : Pt) (k s : Int) : Bool := !(longN k == 0) && (inB s 0 65535 && (roomB b p && aheadB (atA zRow b.L p k) s))
def freshB (b : Bk) (p : Pt) (k s : Int) : Bk := if freshOk b p k s then ⟨b.nx, putA b.L p (updN (atA zRow b.L p) k ⟨true, s⟩), b.H⟩ else b
/-- Keep -/
def keepOk (b : Bk) (p : Pt) (s : Int) : Bool := inB s 0 65535 && hasA b.L p
def keepB (b : Bk) (p : Pt) (s x0 x1 x2 : Int) : Bk := if keepOk b p s then ⟨b.nx, b.L, putA b.H p ⟨⟨true, s⟩, x0, x1, x2⟩⟩ else b
/-- Take -/
def takeOk (b : Bk) (p : Pt) (s : Int) : Bool := (atA zHf b.H p).n.is && ((atA zHf b.H p).n.s == s)
def takeH (b : Bk) (p : Pt) (s : Int) : Hf := if takeOk b p s then atA zHf b.H p else zHf
def takeB (b : Bk) (p : Pt) (s : Int) : Bk := if takeOk b p s then ⟨b.nx, b.L, putA b.H p zHf⟩ else b
/-- Forget -/
def forgetB (b : Bk) (p : Pt) : Bk := ⟨b.nx, delA b.L p, delA b.H p⟩

theorem Bk.ok.next {b : Bk} (h : b.ok) (k : Int) : (nextB b k).ok := by
  unfold nextB
  split
  · exact h
  · exact ⟨h.aL, h.aH, h.sub, h.len⟩
theorem Bk.ok.fresh {b : Bk} (h : b.ok) (p : Pt) (k s : Int) : (freshB b p k s).ok := by
  unfold freshB
  split
  · rename_i hf
    refine ⟨h.aL.put _ _, h.aH, fun q hq => ?_, ?_⟩
    · by_cases hpq : p = q
      · subst hpq; exact hasA_put_same _ _ _
      · rw [hasA_put_ne _ _ hpq]; exact h.sub q hq
    · show (putA b.L p _).length ≤ 16
      cases hp : hasA b.L p
      · have hr : roomB b p = true := by
          unfold freshOk at hf
          simp only [Bool.and_eq_true] at hf
          exact hf.2.2.1
        unfold roomB at hr
        rw [hp, Bool.false_or, decide_eq_true_eq] at hr
        rw [putA_len_no hp]
        omega
      · rw [putA_len_yes h.aL hp]; exact h.len
  · exact h
theorem Bk.ok.keep {b : Bk} (h : b.ok) (p : Pt) (s x0 x1 x2 : Int) : (keepB b p s x0 x1 x2).ok := by
  unfold keepB
  split
  · rename_i hf
    refine ⟨h.aL, h.aH.put _ _, fun q hq => ?_, h.len⟩
    by_cases hpq : p = q
    · subst hpq
      unfold keepOk at hf
      simp only [Bool.and_eq_true] at hf
      exact hf.2
    · exact h.sub q (by rw [← hasA_put_ne b.H _ hpq]; exact hq)
  · exact h
theorem takeOk_has {b : Bk} {p : Pt} {s : Int} (h : takeOk b p s = true) : hasA b.H p = true := by
  cases hp : hasA b.H p
  · unfold takeOk at h
    rw [atA_no zHf hp] at h
    cases h
  · rfl
theorem Bk.ok.take {b : Bk} (h : b.ok) (p : Pt) (s : Int) : (takeB b p s).ok := by
  unfold takeB
  split
  · rename_i hf
    refine ⟨h.aL, h.aH.put _ _, fun q hq => ?_, h.len⟩
    by_cases hpq : p = q
    · subst hpq; exact h.sub _ (takeOk_has hf)
    · exact h.sub q (by rw [← hasA_put_ne b.H _ hpq]; exact hq)
  · exact h
theorem Bk.ok.forget {b : Bk} (h : b.ok) (p : Pt) : (forgetB b p).ok := by
  refine ⟨h.aL.del _, h.aH.del _, fun q hq => ?_, Nat.le_trans (delA_le _ _) h.len⟩
  by_cases hpq : p = q
  · subst hpq
    have h1 := hasA_del_same b.H p
    rw [show hasA (delA b.H p) p = true from hq] at h1
    cases h1
  · show hasA (delA b.L p) q = true
    rw [hasA_del_ne b.L hpq]
    exact h.sub q (by rw [← hasA_del_ne b.H hpq]; exact hq)

/-- a call of a script -/
structure Co where
  kd : Int
  ty : Int
  sq : Int
  p : Pt
  x0 : Int
  x1 : Int
  x2 : Int
def coA (o : Co) : Array Value := #[.int .i64 o.kd, .int .i64 o.ty, .int .i64 o.sq, .int .u8 o.p.c.b0, .int .u8 o.p.c.b1, .int .u8 o.p.c.b2, .int .u8 o.p.c.b3, .int .u8 o.p.c.b4, .int .u8 o.p.c.b5, .int .u8 o.p.c.b6, .int .u8 o.p.c.b7, .int .i64 o.p.n, .int .i64 o.x0, .int .i64 o.x1, .int .i64 o.x2]
/-- what a call tells -/
structure An where
  n : Int
  x0 : Int
  x1 : Int
  x2 : Int
  is : Bool
def anA (a : An) : Array Value := #[.int .i64 a.n, .int .i64 a.x0, .int .i64 a.x1, .int .i64 a.x2, .bool a.is]
def zAn : An := ⟨0, 0, 0, 0, false⟩
def doA (b : Bk) (o : Co) : An :=
  if o.kd = 0 then ⟨nextA b o.ty, 0, 0, 0, false⟩ else if o.kd = 1 then ⟨0, 0, 0, 0, freshOk b o.p o.ty o.sq⟩ else if o.kd = 2 then ⟨0, 0, 0, 0, keepOk b o.p o.sq⟩
  else if o.kd = 3 then ⟨0, (takeH b o.p o.sq).x0, (takeH b o.p o.sq).x1, (takeH b o.p o.sq).x2, takeOk b o.p o.sq⟩ else if o.kd = 4 then ⟨0, 0, 0, 0, hasA b.L o.p⟩ else zAn
def doB (b : Bk) (o : Co) : Bk :=
  if o.kd = 0 then nextB b o.ty else if o.kd = 1 then freshB b o.p o.ty o.sq else if o.kd = 2 then keepB b o.p o.sq o.x0 o.x1 o.x2
  else if o.kd = 3 then takeB b o.p o.sq else if o.kd = 4 then forgetB b o.p else b
theorem Bk.ok.does {b : Bk} (h : b.ok) (o : Co) : (doB b o).ok := by
  unfold doB
  split
  · exact h.next _
  split
  · exact h.fresh _ _ _
  split
  · exact h.keep _ _ _ _ _
  split
  · exact h.take _ _
  split
  · exact h.forget _
  exact h

end Go.Proofs.YtpbfnmokhmioaaaDoor
