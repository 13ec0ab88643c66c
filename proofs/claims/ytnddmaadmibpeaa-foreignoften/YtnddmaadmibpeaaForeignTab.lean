/- Plain words on the program's own table of those who are heard: entries by rising senders; what each call makes of them. No program is read here. -/
import Derived.Test.YtnddmaadmibpeaaForeignMath
import Derived.Test.YtnddmaadmibpeaaRankSets
namespace Go.Proofs.Ytnddmaadmibpeaa
set_option maxRecDepth 100000
open Go.RowKit
set_option linter.unusedVariables false

/-- an entry of the program's own table: what was heard last, the two last times, how many there are -/
structure Fe where
  s : Rs
  t0 : Int
  t1 : Int
  c : Int
/-- its cells -/
def feA (e : Fe) : Array Value := #[.int .i64 e.s.p1, .int .i64 e.s.p2, .int .i64 e.s.q1, .int .i64 e.s.q2, .int .i64 e.s.q3, .int .u8 e.s.gr.b0, .int .u8 e.s.gr.b1, .int .u8 e.s.gr.b2, .int .u8 e.s.gr.b3, .int .u8 e.s.gr.b4, .int .u8 e.s.gr.b5, .int .u8 e.s.gr.b6, .int .u8 e.s.gr.b7, .int .i64 e.s.st, .int .u8 e.s.sn.c.b0, .int .u8 e.s.sn.c.b1, .int .u8 e.s.sn.c.b2, .int .u8 e.s.sn.c.b3, .int .u8 e.s.sn.c.b4, .int .u8 e.s.sn.c.b5, .int .u8 e.s.sn.c.b6, .int .u8 e.s.sn.c.b7, .int .i64 e.s.sn.n, .int .u8 e.s.rc.c.b0, .int .u8 e.s.rc.c.b1, .int .u8 e.s.rc.c.b2, .int .u8 e.s.rc.c.b3, .int .u8 e.s.rc.c.b4, .int .u8 e.s.rc.c.b5, .int .u8 e.s.rc.c.b6, .int .u8 e.s.rc.c.b7, .int .i64 e.s.rc.n, .int .i64 e.t0, .int .i64 e.t1, .int .i64 e.c]
def zeroFe : Fe := ⟨zeroR, 0, 0, 0⟩
/-- a sender's entry -/
def getE (L : List Fe) (p : Pt) : Option Fe := L.find? fun e => eqP e.s.sn p
def atE (L : List Fe) (p : Pt) : Fe := (getE L p).getD zeroFe
def hasE (L : List Fe) (p : Pt) : Bool := (getE L p).isSome
def delE (L : List Fe) (p : Pt) : List Fe := L.filter fun e => !eqP e.s.sn p
def insE (e : Fe) : List Fe → List Fe
  | [] => [e]
  | x :: l => if cmpP e.s.sn x.s.sn < 0 then e :: x :: l else x :: insE e l
def putE (L : List Fe) (e : Fe) : List Fe := insE e (delE L e.s.sn)
/-- heard once more -/
def heardE (x : Fe) (s : Rs) (now : Int) : Fe := ⟨s, now, x.t0, if x.c + 1 < 2 then x.c + 1 else 2⟩
def inW (t start now : Int) : Bool := !(decide (t ≤ start) || decide (t > now))
/-- heard often enough -/
def oftenE (x : Fe) (start now : Int) : Bool := !decide (x.c < 2) && (inW x.t0 start now && inW x.t1 start now)
def qualE (L : List Fe) (start now : Int) : List Rs := (L.filter fun e => oftenE e start now).map (·.s)
/-- those that are over, and the one of them that is longest -/
def overE (L : List Fe) (start : Int) : List Fe := L.filter fun e => decide (e.t0 < start)
def minFrom (m : Fe) : List Fe → Fe
  | [] => m
  | x :: l => minFrom (if x.t0 < m.t0 then x else m) l
def oldE (L : List Fe) (start : Int) : Option Fe :=
  match overE L start with
  | [] => none
  | x :: l => some (minFrom x l)
/-- does it count at all? -/
def saysB (own : Ck) (s : Rs) (now : Int) : Bool := decide (now < 0) || decide (now > 4611686018427387904) || eqC s.sn.c own || decide (s.st < 0) || decide (s.st ≥ 255)
def heedE (own : Ck) (L : List Fe) (s : Rs) (now : Int) : Bool := !saysB own s now && (!hasE L s.sn || decide (now ≥ (atE L s.sn).t0))
/-- room for a sender -/
def roomE (L : List Fe) (p : Pt) (start : Int) : Int × List Fe :=
  if hasE L p then (1, L) else if L.length < 5 then (2, L) else
  match oldE L start with
  | none => (4, L)
  | some o => (3, delE L o.s.sn)
def hearE (own : Ck) (win : Int) (L : List Fe) (s : Rs) (now : Int) : Int × List Fe :=
  if heedE own L s now then
    if (roomE L s.sn (now - win)).1 = 4 then (4, (roomE L s.sn (now - win)).2)
    else ((roomE L s.sn (now - win)).1, putE (roomE L s.sn (now - win)).2 (heardE (atE (roomE L s.sn (now - win)).2 s.sn) s now))
  else (0, L)

/-- an entry that may stand in a table -/
structure Fe.ok (e : Fe) : Prop where
  s : e.s.ok
  n0 : -9223372036854775808 ≤ e.s.sn.n
  n1 : e.s.sn.n ≤ 9223372036854775807
  c0 : 0 ≤ e.c
  c2 : e.c ≤ 2
  a0 : 0 ≤ e.t0
  a1 : e.t0 ≤ 4611686018427387904
  b0 : 0 ≤ e.t1
  b1 : e.t1 ≤ 4611686018427387904
structure TabOk (L : List Fe) : Prop where
  ok : ∀ e ∈ L, e.ok
  up : L.Pairwise fun a b => cmpP a.s.sn b.s.sn < 0
  len : L.length ≤ 5

theorem cmpP_lt_ne {a b : Pt} (h : cmpP a b < 0) : a ≠ b := by
  rintro rfl
  have := cmpP_neg a a
  omega
theorem TabOk.apart {L : List Fe} (h : TabOk L) : L.Pairwise fun a b => a.s.sn ≠ b.s.sn := h.up.imp cmpP_lt_ne
theorem tab_nil : TabOk [] := ⟨by simp, List.Pairwise.nil, by simp⟩
theorem getE_some {L : List Fe} {p : Pt} {e : Fe} (h : getE L p = some e) : e ∈ L ∧ e.s.sn = p := by
  unfold getE at h
  exact ⟨List.mem_of_find?_eq_some h, eqP_iff.1 (List.find?_some (p := fun e : Fe => eqP e.s.sn p) h)⟩
theorem getE_none {L : List Fe} {p : Pt} (h : getE L p = none) : ∀ e ∈ L, e.s.sn ≠ p := by
  intro e he hp
  have := List.find?_eq_none.1 h e he
  exact this (eqP_iff.2 hp)
theorem getE_of {L : List Fe} (h : L.Pairwise fun a b => a.s.sn ≠ b.s.sn) {e : Fe} (he : e ∈ L) : getE L e.s.sn = some e := by
  cases hg : getE L e.s.sn with
  | none => exact absurd rfl (getE_none hg e he)
  | some x =>
    obtain ⟨hx, hk⟩ := getE_some hg
    have : ∀ {l : List Fe}, l.Pairwise (fun a b => a.s.sn ≠ b.s.sn) → x ∈ l → e ∈ l → x = e := by
      intro l hl
      induction l with
      | nil => intro h1; cases h1
      | cons y l ih =>
        obtain ⟨h1, h2⟩ := List.pairwise_cons.1 hl
        intro ha hb
        rcases List.mem_cons.1 ha with rfl | ha'
        · rcases List.mem_cons.1 hb with rfl | hb'
          · rfl
          · exact absurd hk (h1 e hb')
        · rcases List.mem_cons.1 hb with rfl | hb'
          · exact absurd hk.symm (h1 x ha')
          · exact ih h2 ha' hb'
    rw [this h hx he]
theorem hasE_iff {L : List Fe} {p : Pt} : hasE L p = true ↔ ∃ e ∈ L, e.s.sn = p := by
  unfold hasE
  cases hg : getE L p with
  | none => simp; exact fun e he => getE_none hg e he
  | some x => simp; exact ⟨x, (getE_some hg).1, (getE_some hg).2⟩
theorem mem_delE {L : List Fe} {p : Pt} {e : Fe} : e ∈ delE L p ↔ e ∈ L ∧ e.s.sn ≠ p := by
  unfold delE
  rw [List.mem_filter]
  constructor
  · rintro ⟨h1, h2⟩
    exact ⟨h1, fun h => by rw [eqP_iff.2 h] at h2; cases h2⟩
  · rintro ⟨h1, h2⟩
    refine ⟨h1, ?_⟩
    cases h : eqP e.s.sn p
    · rfl
    · exact absurd (eqP_iff.1 h) h2
theorem delE_le (L : List Fe) (p : Pt) : (delE L p).length ≤ L.length := List.length_filter_le _ _
theorem delE_no {L : List Fe} {p : Pt} (h : hasE L p = false) : delE L p = L := by
  unfold delE
  rw [List.filter_eq_self]
  intro e he
  cases hk : eqP e.s.sn p
  · rfl
  · have := hasE_iff.2 ⟨e, he, eqP_iff.1 hk⟩
    rw [this] at h; cases h
theorem delE_yes {L : List Fe} (h : L.Pairwise fun a b => a.s.sn ≠ b.s.sn) {p : Pt} (hp : hasE L p = true) : (delE L p).length + 1 = L.length := by
  induction L with
  | nil => simp [hasE, getE] at hp
  | cons x l ih =>
    obtain ⟨h1, h2⟩ := List.pairwise_cons.1 h
    by_cases hx : x.s.sn = p
    · have hno : hasE l p = false := by
        cases hh : hasE l p
        · rfl
        · obtain ⟨e, he, hk⟩ := hasE_iff.1 hh
          exact absurd (hx.trans hk.symm) (h1 e he)
      have := delE_no hno
      unfold delE at this ⊢
      rw [List.filter_cons, eqP_iff.2 hx]
      simp [this]
    · have hp' : hasE l p = true := by
        obtain ⟨e, he, hk⟩ := hasE_iff.1 hp
        rcases List.mem_cons.1 he with rfl | he
        · exact absurd hk hx
        · exact hasE_iff.2 ⟨e, he, hk⟩
      have := ih h2 hp'
      unfold delE at this ⊢
      have hx' : eqP x.s.sn p = false := by
        cases hk : eqP x.s.sn p
        · rfl
        · exact absurd (eqP_iff.1 hk) hx
      rw [List.filter_cons, hx']
      simp [this]
theorem TabOk.del {L : List Fe} (h : TabOk L) (p : Pt) : TabOk (delE L p) :=
  ⟨fun e he => h.ok e (mem_delE.1 he).1, h.up.filter _, Nat.le_trans (delE_le L p) h.len⟩
theorem mem_insE {e x : Fe} : ∀ {L : List Fe}, x ∈ insE e L ↔ x = e ∨ x ∈ L
  | [] => by simp [insE]
  | y :: l => by
    unfold insE
    split
    · simp
    · rw [List.mem_cons, mem_insE, List.mem_cons]
      constructor
      · rintro (h | h | h)
        · exact .inr (.inl h)
        · exact .inl h
        · exact .inr (.inr h)
      · rintro (h | h | h)
        · exact .inr (.inl h)
        · exact .inl h
        · exact .inr (.inr h)
theorem insE_len (e : Fe) : ∀ L : List Fe, (insE e L).length = L.length + 1
  | [] => rfl
  | y :: l => by
    unfold insE
    split
    · simp
    · simp [insE_len e l]
theorem insE_perm (e : Fe) : ∀ L : List Fe, (insE e L).Perm (e :: L)
  | [] => List.Perm.refl _
  | y :: l => by
    unfold insE
    split
    · exact List.Perm.refl _
    · exact ((insE_perm e l).cons y).trans (List.Perm.swap e y l)
theorem lt_trans_P {a b c : Pt} (ha : a.c.ok) (hb : b.c.ok) (hc : c.c.ok) (h1 : cmpP a b < 0) (h2 : cmpP b c < 0) : cmpP a c < 0 := by
  rcases (cmpP_trans ha hb hc (by omega) (by omega)).2 with h | ⟨h, _⟩
  · exact h
  · exact absurd h (cmpP_lt_ne h1)
theorem insE_up {e : Fe} (he : e.s.sn.c.ok) : ∀ {L : List Fe}, (∀ x ∈ L, x.s.sn.c.ok) → (∀ x ∈ L, x.s.sn ≠ e.s.sn) → (L.Pairwise fun a b => cmpP a.s.sn b.s.sn < 0) → (insE e L).Pairwise fun a b => cmpP a.s.sn b.s.sn < 0
  | [], _, _, _ => by simp [insE]
  | y :: l, hok, hne, h => by
    obtain ⟨h1, h2⟩ := List.pairwise_cons.1 h
    unfold insE
    split
    · rename_i hlt
      refine List.pairwise_cons.2 ⟨?_, h⟩
      intro x hx
      rcases List.mem_cons.1 hx with rfl | hx
      · exact hlt
      · exact lt_trans_P he (hok y (by simp)) (hok x (by simp [hx])) hlt (h1 x hx)
    · rename_i hlt
      refine List.pairwise_cons.2 ⟨?_, insE_up he (fun x hx => hok x (by simp [hx])) (fun x hx => hne x (by simp [hx])) h2⟩
      intro x hx
      rcases mem_insE.1 hx with rfl | hx
      · have h3 := cmpP_neg x.s.sn y.s.sn
        have h4 : cmpP x.s.sn y.s.sn ≠ 0 := fun h0 => hne y (by simp) ((cmpP_zero he (hok y (by simp))).1 h0).symm
        show cmpP y.s.sn x.s.sn < 0
        omega
      · exact h1 x hx
theorem TabOk.put {L : List Fe} (h : TabOk L) {e : Fe} (he : e.ok) (hl : hasE L e.s.sn = true ∨ L.length < 5) : TabOk (putE L e) := by
  have hd := h.del e.s.sn
  refine ⟨?_, insE_up he.s.s (fun x hx => (hd.ok x hx).s.s) (fun x hx => (mem_delE.1 hx).2) hd.up, ?_⟩
  · intro x hx
    rcases mem_insE.1 hx with rfl | hx
    · exact he
    · exact hd.ok x hx
  · unfold putE
    rw [insE_len]
    rcases hl with hl | hl
    · rw [delE_yes h.apart hl]; exact h.len
    · have := delE_le L e.s.sn; omega
theorem mem_putE {L : List Fe} {e x : Fe} : x ∈ putE L e ↔ x = e ∨ (x ∈ L ∧ x.s.sn ≠ e.s.sn) := by
  unfold putE
  rw [mem_insE, mem_delE]
theorem zero_ok : zeroR.ok := ⟨by unfold Ck.ok Ck.l isByte; decide, by unfold Ck.ok Ck.l isByte; decide, by unfold Ck.ok Ck.l isByte; decide, by decide, by decide⟩
theorem zeroFe_ok : zeroFe.ok := ⟨zero_ok, by decide, by decide, by decide, by decide, by decide, by decide, by decide, by decide⟩
theorem atE_ok {L : List Fe} (h : TabOk L) (p : Pt) : (atE L p).ok := by
  unfold atE
  cases hg : getE L p with
  | none => exact zeroFe_ok
  | some x => exact h.ok x (getE_some hg).1
theorem heardE_ok {x : Fe} (hx : x.ok) {s : Rs} (hs : s.ok) (n0 : -9223372036854775808 ≤ s.sn.n) (n1 : s.sn.n ≤ 9223372036854775807) {now : Int} (h0 : 0 ≤ now) (h1 : now ≤ 4611686018427387904) : (heardE x s now).ok := by
  refine ⟨hs, n0, n1, ?_, ?_, h0, h1, hx.a0, hx.a1⟩
  · show 0 ≤ if x.c + 1 < 2 then x.c + 1 else 2
    have := hx.c0
    split <;> omega
  · show (if x.c + 1 < 2 then x.c + 1 else 2) ≤ 2
    split <;> omega
theorem mem_minFrom : ∀ (l : List Fe) (m : Fe), minFrom m l = m ∨ minFrom m l ∈ l
  | [], m => .inl rfl
  | x :: l, m => by
    unfold minFrom
    rcases mem_minFrom l (if x.t0 < m.t0 then x else m) with h | h
    · rw [h]
      split
      · exact .inr (by simp)
      · exact .inl rfl
    · exact .inr (by simp [h])
theorem oldE_mem {L : List Fe} {start : Int} {o : Fe} (h : oldE L start = some o) : o ∈ L ∧ o.t0 < start := by
  have key : o ∈ overE L start := by
    unfold oldE at h
    cases hl : overE L start with
    | nil => rw [hl] at h; cases h
    | cons x l =>
      rw [hl] at h
      simp only [Option.some.injEq] at h
      rw [← h]
      rcases mem_minFrom l x with h1 | h1
      · rw [h1]; simp
      · simp [h1]
  have := List.mem_filter.1 key
  exact ⟨this.1, by simpa using this.2⟩
theorem oldE_none {L : List Fe} {start : Int} : oldE L start = none ↔ ∀ e ∈ L, start ≤ e.t0 := by
  unfold oldE
  cases hl : overE L start with
  | nil =>
    simp only [true_iff]
    intro e he
    have := List.filter_eq_nil_iff.1 hl e he
    simpa using this
  | cons x l =>
    simp only [reduceCtorEq, false_iff]
    intro h
    have hx : x ∈ overE L start := by rw [hl]; simp
    have := List.mem_filter.1 hx
    have h1 := h x this.1
    have h2 : x.t0 < start := by simpa using this.2
    omega
/-- where an answer is told that makes room, there is room -/
theorem roomE_spec (L : List Fe) (h : TabOk L) (p : Pt) (start : Int) :
    TabOk (roomE L p start).2 ∧ ((roomE L p start).1 = 4 ∧ (roomE L p start).2 = L ∨ ((roomE L p start).1 ≠ 4 ∧ (hasE (roomE L p start).2 p = true ∨ (roomE L p start).2.length < 5))) := by
  unfold roomE
  cases hp : hasE L p
  · by_cases hl : L.length < 5
    · simp [hl, h]
    · cases ho : oldE L start with
      | none => simp [hl, h]
      | some o =>
        obtain ⟨hm, _⟩ := oldE_mem ho
        have := delE_yes h.apart (hasE_iff.2 ⟨o, hm, rfl⟩)
        have h5 := h.len
        simp [hl]
        exact ⟨h.del _, .inr (by omega)⟩
  · simp [h, hp]
theorem roomE_range (L : List Fe) (p : Pt) (start : Int) : 1 ≤ (roomE L p start).1 ∧ (roomE L p start).1 ≤ 4 := by
  unfold roomE
  split
  · simp
  · split
    · simp
    · split <;> simp
theorem says_no {own : Ck} {s : Rs} {now : Int} (h : saysB own s now = false) : 0 ≤ now ∧ now ≤ 4611686018427387904 ∧ eqC s.sn.c own = false ∧ 0 ≤ s.st ∧ s.st < 255 := by
  unfold saysB at h
  simp only [Bool.or_eq_false_iff, decide_eq_false_iff_not] at h
  obtain ⟨⟨⟨⟨h1, h2⟩, h3⟩, h4⟩, h5⟩ := h
  exact ⟨by omega, by omega, h3, by omega, by omega⟩
theorem heed_yes {own : Ck} {L : List Fe} {s : Rs} {now : Int} (h : heedE own L s now = true) : saysB own s now = false ∧ (hasE L s.sn = false ∨ (atE L s.sn).t0 ≤ now) := by
  unfold heedE at h
  simp only [Bool.and_eq_true, Bool.not_eq_true', Bool.or_eq_true, decide_eq_true_eq] at h
  exact h
theorem hearE_ok {own : Ck} {win : Int} {L : List Fe} (h : TabOk L) {s : Rs} (hs : s.ok) (n0 : -9223372036854775808 ≤ s.sn.n) (n1 : s.sn.n ≤ 9223372036854775807) (now : Int) : TabOk (hearE own win L s now).2 := by
  unfold hearE
  split
  · rename_i hh
    obtain ⟨h1, h2, _⟩ := says_no (heed_yes hh).1
    have hr := roomE_spec L h s.sn (now - win)
    split
    · exact hr.1
    · rename_i h4
      rcases hr.2 with ⟨hc, _⟩ | ⟨_, hc⟩
      · exact absurd hc h4
      · exact hr.1.put (heardE_ok (atE_ok hr.1 s.sn) hs n0 n1 h1 h2) hc
  · exact h

end Go.Proofs.Ytnddmaadmibpeaa
