/- Plain words on the reference's book: lists; what each call makes of it; how it stands to the program's own. No program is read here. -/
import Derived.Test.YtpbfnmokhmioaaaDoorSeqsInv
namespace Go.Proofs.YtpbfnmokhmioaaaDoor
set_option maxRecDepth 100000
open Go.RowKit
set_option linter.unusedVariables false

/-- a last number, and a half, as the reference keeps them -/
structure Rl where
  p : Pt
  k : Int
  s : Int
structure Rh where
  p : Pt
  s : Int
  x0 : Int
  x1 : Int
  x2 : Int
def rlA (x : Rl) : Array Value := #[.int .u8 x.p.c.b0, .int .u8 x.p.c.b1, .int .u8 x.p.c.b2, .int .u8 x.p.c.b3, .int .u8 x.p.c.b4, .int .u8 x.p.c.b5, .int .u8 x.p.c.b6, .int .u8 x.p.c.b7, .int .i64 x.p.n, .int .i64 x.k, .int .i64 x.s]
def rhA (x : Rh) : Array Value := #[.int .u8 x.p.c.b0, .int .u8 x.p.c.b1, .int .u8 x.p.c.b2, .int .u8 x.p.c.b3, .int .u8 x.p.c.b4, .int .u8 x.p.c.b5, .int .u8 x.p.c.b6, .int .u8 x.p.c.b7, .int .i64 x.p.n, .int .i64 x.s, .int .i64 x.x0, .int .i64 x.x1, .int .i64 x.x2]
structure Rb where
  sent : Int → Int
  S : List Pt
  L : List Rl
  H : List Rh
def newRb : Rb := ⟨fun _ => 0, [], [], []⟩
/-- a slice -/
structure Sl where
  a : Option Addr
  n : Nat
  c : Nat
def nilS : Sl := ⟨none, 0, 0⟩
/-- a book's cells: how often, and the three slices -/
def rbA (f : Int → Int) (vs vl vh : Sl) : Array Value := #[.int .i64 (f 0), .int .i64 (f 1), .int .i64 (f 2), .int .i64 (f 3), .int .i64 (f 4), .int .i64 (f 5), .int .i64 (f 6), .int .i64 (f 7), .int .i64 (f 8), .int .i64 (f 9), .int .i64 (f 10), .int .i64 (f 11), .int .i64 (f 12), .int .i64 (f 13), .int .i64 (f 14), .int .i64 (f 15), .slice vs.a vs.n vs.c, .slice vl.a vl.n vl.c, .slice vh.a vh.n vh.c]
def knownB (S : List Pt) (q : Pt) : Bool := S.any fun x => eqP x q
def noH (H : List Rh) (q : Pt) : List Rh := H.filter fun x => !eqP x.p q
def noL (L : List Rl) (q : Pt) : List Rl := L.filter fun x => !eqP x.p q
def noS (S : List Pt) (q : Pt) : List Pt := S.filter fun x => !eqP x q
/-- Next -/
def rnextN (r : Rb) (k : Int) : Int := if longN k = 0 then 0 else r.sent k % 65536
def rnextR (r : Rb) (k : Int) : Rb := if longN k = 0 then r else ⟨updN r.sent k (r.sent k + 1), r.S, r.L, r.H⟩
/-- Fresh -/
def hitL (q : Pt) (k : Int) (x : Rl) : Bool := eqP x.p q && (x.k == k)
def badL (q : Pt) (k s : Int) (x : Rl) : Bool := hitL q k x && !behindB s x.s
def restL (L : List Rl) (q : Pt) (k : Int) : List Rl := L.filter fun x => !hitL q k x
def okN (k s : Int) : Bool := !(longN k == 0) && inB s 0 65535
def rfreshOk (r : Rb) (q : Pt) (k s : Int) : Bool := okN k s && (!(r.L.any (badL q k s)) && (knownB r.S q || decide (r.S.length < 16)))
def rfreshR (r : Rb) (q : Pt) (k s : Int) : Rb := if rfreshOk r q k s then ⟨r.sent, if knownB r.S q then r.S else r.S ++ [q], restL r.L q k ++ [⟨q, k, s⟩], r.H⟩ else r
/-- Keep -/
def rkeepOk (r : Rb) (q : Pt) (s : Int) : Bool := knownB r.S q && inB s 0 65535
def rkeepR (r : Rb) (q : Pt) (s x0 x1 x2 : Int) : Rb := if rkeepOk r q s then ⟨r.sent, r.S, r.L, noH r.H q ++ [⟨q, s, x0, x1, x2⟩]⟩ else r
/-- Take -/
def hitH (q : Pt) (s : Int) (x : Rh) : Bool := eqP x.p q && (x.s == s)
def takenH (r : Rb) (q : Pt) (s : Int) : Option Rh := r.H.find? (hitH q s)
def rtakeR (r : Rb) (q : Pt) (s : Int) : Rb := match takenH r q s with | none => r | some _ => ⟨r.sent, r.S, r.L, noH r.H q⟩
def rtakeX (r : Rb) (q : Pt) (s : Int) : Rh := match takenH r q s with | none => ⟨q, 0, 0, 0, 0⟩ | some x => x
/-- Forget -/
def rforgetR (r : Rb) (q : Pt) : Rb := if knownB r.S q then ⟨r.sent, noS r.S q, noL r.L q, noH r.H q⟩ else r
def doR (r : Rb) (o : Co) : Rb :=
  if o.kd = 0 then rnextR r o.ty else if o.kd = 1 then rfreshR r o.p o.ty o.sq else if o.kd = 2 then rkeepR r o.p o.sq o.x0 o.x1 o.x2
  else if o.kd = 3 then rtakeR r o.p o.sq else if o.kd = 4 then rforgetR r o.p else r
def doAR (r : Rb) (o : Co) : An :=
  if o.kd = 0 then ⟨rnextN r o.ty, 0, 0, 0, false⟩ else if o.kd = 1 then ⟨0, 0, 0, 0, rfreshOk r o.p o.ty o.sq⟩ else if o.kd = 2 then ⟨0, 0, 0, 0, rkeepOk r o.p o.sq⟩
  else if o.kd = 3 then ⟨0, (rtakeX r o.p o.sq).x0, (rtakeX r o.p o.sq).x1, (rtakeX r o.p o.sq).x2, (takenH r o.p o.sq).isSome⟩ else if o.kd = 4 then ⟨0, 0, 0, 0, knownB r.S o.p⟩ else zAn

/-- how the two books stand to each other behind j calls -/
structure Rel11 (b : Bk) (r : Rb) (j : Nat) : Prop where
  nx : ∀ k, longN k ≠ 0 → b.nx k = r.sent k % 65536 ∧ 0 ≤ r.sent k ∧ r.sent k ≤ j
  sl : r.S.length = b.L.length
  sm : ∀ q, knownB r.S q = hasA b.L q
  sn : r.S.Pairwise fun a b => a ≠ b
  lx : ∀ x ∈ r.L, atA zRow b.L x.p x.k = ⟨true, x.s⟩
  ly : ∀ q k, (atA zRow b.L q k).is = true → ∃ x ∈ r.L, x.p = q ∧ x.k = k
  hx : ∀ x ∈ r.H, atA zHf b.H x.p = ⟨⟨true, x.s⟩, x.x0, x.x1, x.x2⟩
  hy : ∀ q, (atA zHf b.H q).n.is = true → ∃ x ∈ r.H, x.p = q
  ll : r.L.length ≤ j
  hl : r.H.length ≤ j

theorem known_iff {S : List Pt} {q : Pt} : knownB S q = true ↔ q ∈ S := by
  unfold knownB
  rw [List.any_eq_true]
  constructor
  · rintro ⟨x, hx, h⟩
    rw [← eqP_iff.1 h]; exact hx
  · exact fun h => ⟨q, h, eqP_self q⟩
theorem hitL_iff {q : Pt} {k : Int} {x : Rl} : hitL q k x = true ↔ x.p = q ∧ x.k = k := by
  unfold hitL
  rw [Bool.and_eq_true, eqP_iff, beq_iff_eq]
theorem hitH_iff {q : Pt} {s : Int} {x : Rh} : hitH q s x = true ↔ x.p = q ∧ x.s = s := by
  unfold hitH
  rw [Bool.and_eq_true, eqP_iff, beq_iff_eq]
theorem mem_noH {H : List Rh} {q : Pt} {x : Rh} : x ∈ noH H q ↔ x ∈ H ∧ x.p ≠ q := by
  unfold noH
  rw [List.mem_filter]
  constructor
  · rintro ⟨h1, h2⟩; exact ⟨h1, fun h => by rw [eqP_iff.2 h] at h2; cases h2⟩
  · rintro ⟨h1, h2⟩; exact ⟨h1, by rw [eqP_ne h2]; rfl⟩
theorem mem_noL {L : List Rl} {q : Pt} {x : Rl} : x ∈ noL L q ↔ x ∈ L ∧ x.p ≠ q := by
  unfold noL
  rw [List.mem_filter]
  constructor
  · rintro ⟨h1, h2⟩; exact ⟨h1, fun h => by rw [eqP_iff.2 h] at h2; cases h2⟩
  · rintro ⟨h1, h2⟩; exact ⟨h1, by rw [eqP_ne h2]; rfl⟩
theorem mem_restL {L : List Rl} {q : Pt} {k : Int} {x : Rl} : x ∈ restL L q k ↔ x ∈ L ∧ ¬ (x.p = q ∧ x.k = k) := by
  unfold restL
  rw [List.mem_filter]
  constructor
  · rintro ⟨h1, h2⟩; exact ⟨h1, fun h => by rw [hitL_iff.2 h] at h2; cases h2⟩
  · rintro ⟨h1, h2⟩
    refine ⟨h1, ?_⟩
    cases hh : hitL q k x
    · rfl
    · exact absurd (hitL_iff.1 hh) h2
theorem noS_len : ∀ {S : List Pt} {q : Pt}, (S.Pairwise fun a b => a ≠ b) → q ∈ S → (noS S q).length + 1 = S.length
  | x :: S, q, h, hq => by
    obtain ⟨h1, h2⟩ := List.pairwise_cons.1 h
    by_cases hx : x = q
    · subst hx
      have e1 : noS (x :: S) x = noS S x := by unfold noS; rw [List.filter_cons, eqP_self]; rfl
      have e2 : noS S x = S := by
        unfold noS
        rw [List.filter_eq_self]
        intro y hy
        rw [eqP_ne (Ne.symm (h1 y hy))]; rfl
      rw [e1, e2]; rfl
    · have e1 : noS (x :: S) q = x :: noS S q := by unfold noS; rw [List.filter_cons, eqP_ne hx]; rfl
      rcases List.mem_cons.1 hq with rfl | hq
      · exact absurd rfl hx
      · rw [e1, List.length_cons, List.length_cons, noS_len h2 hq]
theorem known_noS {S : List Pt} {q p : Pt} : knownB (noS S q) p = (knownB S p && !eqP p q) := by
  rw [Bool.eq_iff_iff, known_iff, Bool.and_eq_true, known_iff]
  unfold noS
  rw [List.mem_filter]
theorem known_snoc {S : List Pt} {q p : Pt} : knownB (S ++ [q]) p = (knownB S p || eqP q p) := by
  unfold knownB
  rw [List.any_append]
  simp
/-- the two answers to Fresh -/
theorem fresh_same {b : Bk} {r : Rb} {j : Nat} (h : Rel11 b r j) (q : Pt) (k s : Int) : freshOk b q k s = rfreshOk r q k s := by
  have hbad : r.L.any (badL q k s) = !aheadB (atA zRow b.L q k) s := by
    rw [Bool.eq_iff_iff, List.any_eq_true]
    constructor
    · rintro ⟨x, hx, hb⟩
      unfold badL at hb
      rw [Bool.and_eq_true] at hb
      obtain ⟨rfl, rfl⟩ := hitL_iff.1 hb.1
      rw [h.lx x hx]
      unfold aheadB
      simp only [Bool.not_not, Bool.true_and]
      exact hb.2
    · intro ha
      unfold aheadB at ha
      rw [Bool.not_not, Bool.and_eq_true] at ha
      obtain ⟨x, hx, rfl, rfl⟩ := h.ly q k ha.1
      refine ⟨x, hx, ?_⟩
      have e := h.lx x hx
      rw [e] at ha
      unfold badL
      rw [hitL_iff.2 ⟨rfl, rfl⟩]
      exact ha.2
  have hroom : (knownB r.S q || decide (r.S.length < 16)) = roomB b q := by
    unfold roomB
    rw [h.sm q, h.sl]
    congr 1
    rw [Bool.eq_iff_iff, decide_eq_true_eq, decide_eq_true_eq]
    omega
  unfold freshOk rfreshOk okN
  rw [hbad, hroom, Bool.not_not]
  cases (!(longN k == 0)) <;> cases inB s 0 65535 <;> cases roomB b q <;> cases aheadB (atA zRow b.L q k) s <;> rfl
theorem keep_same {b : Bk} {r : Rb} {j : Nat} (h : Rel11 b r j) (q : Pt) (s : Int) : keepOk b q s = rkeepOk r q s := by
  unfold keepOk rkeepOk
  rw [h.sm q, Bool.and_comm]
theorem take_same {b : Bk} {r : Rb} {j : Nat} (h : Rel11 b r j) (q : Pt) (s : Int) : takeOk b q s = (takenH r q s).isSome ∧ (takeH b q s).x0 = (rtakeX r q s).x0 ∧ (takeH b q s).x1 = (rtakeX r q s).x1 ∧ (takeH b q s).x2 = (rtakeX r q s).x2 := by
  cases ht : takenH r q s with
  | none =>
    have hno : takeOk b q s = false := by
      rw [← Bool.not_eq_true]
      intro hk
      unfold takeOk at hk
      rw [Bool.and_eq_true, beq_iff_eq] at hk
      obtain ⟨x, hx, rfl⟩ := h.hy q hk.1
      rw [h.hx x hx] at hk
      have := List.find?_eq_none.1 ht x hx
      exact this (hitH_iff.2 ⟨rfl, hk.2⟩)
    have hx : rtakeX r q s = ⟨q, 0, 0, 0, 0⟩ := by unfold rtakeX; rw [ht]
    rw [hno, (take_no hno).2, hx]
    exact ⟨rfl, rfl, rfl, rfl⟩
  | some x =>
    have hm := List.mem_of_find?_eq_some ht
    obtain ⟨hp, hs⟩ := hitH_iff.1 (List.find?_some ht)
    have e := h.hx x hm
    rw [hp] at e
    have hyes : takeOk b q s = true := by unfold takeOk; rw [e]; simp [hs]
    have e2 : takeH b q s = ⟨⟨true, x.s⟩, x.x0, x.x1, x.x2⟩ := by unfold takeH; rw [hyes, if_pos rfl, e]
    have hx : rtakeX r q s = x := by unfold rtakeX; rw [ht]
    rw [hyes, e2, hx]
    exact ⟨rfl, rfl, rfl, rfl⟩
theorem next_same {b : Bk} {r : Rb} {j : Nat} (h : Rel11 b r j) (k : Int) : nextA b k = rnextN r k := by
  unfold nextA rnextN
  split
  · rfl
  · rename_i hk
    exact (h.nx k hk).1
theorem Rel11.more {b : Bk} {r : Rb} {j : Nat} (h : Rel11 b r j) : Rel11 b r (j + 1) := ⟨fun k hk => ⟨(h.nx k hk).1, (h.nx k hk).2.1, by have := (h.nx k hk).2.2; omega⟩, h.sl, h.sm, h.sn, h.lx, h.ly, h.hx, h.hy, by have := h.ll; omega, by have := h.hl; omega⟩
theorem rel_next {b : Bk} {r : Rb} {j : Nat} (h : Rel11 b r j) (k : Int) : Rel11 (nextB b k) (rnextR r k) (j + 1) := by
  unfold nextB rnextR
  split
  · exact h.more
  · rename_i hk
    obtain ⟨h1, h2, h3⟩ := h.nx k hk
    refine ⟨fun i hi => ?_, h.sl, h.sm, h.sn, h.lx, h.ly, h.hx, h.hy, h.more.ll, h.more.hl⟩
    by_cases hik : i = k
    · subst hik
      show updN b.nx i (nextN (b.nx i)) i = updN r.sent i (r.sent i + 1) i % 65536 ∧ 0 ≤ updN r.sent i (r.sent i + 1) i ∧ updN r.sent i (r.sent i + 1) i ≤ _
      rw [updN_same, updN_same, h1, next_mod]
      refine ⟨rfl, by omega, by omega⟩
    · show updN b.nx k (nextN (b.nx k)) i = updN r.sent k (r.sent k + 1) i % 65536 ∧ 0 ≤ updN r.sent k (r.sent k + 1) i ∧ updN r.sent k (r.sent k + 1) i ≤ _
      rw [updN_ne _ _ hik, updN_ne _ _ hik]
      obtain ⟨h4, h5, h6⟩ := h.nx i hi
      exact ⟨h4, h5, by omega⟩
theorem rel_fresh {b : Bk} {r : Rb} {j : Nat} (h : Rel11 b r j) (hb : b.ok) (q : Pt) (k s : Int) : Rel11 (freshB b q k s) (rfreshR r q k s) (j + 1) := by
  unfold freshB rfreshR
  rw [fresh_same h]
  split
  · refine ⟨h.more.nx, ?_, fun p => ?_, ?_, fun x hx => ?_, fun p i hp => ?_, h.hx, h.hy, ?_, h.more.hl⟩
    · show (if knownB r.S q then r.S else r.S ++ [q]).length = (putA b.L q _).length
      cases hk : knownB r.S q
      · rw [putA_len_no (by rw [← h.sm q]; exact hk), if_neg (by decide), List.length_append, h.sl]; rfl
      · rw [putA_len_yes hb.aL (by rw [← h.sm q]; exact hk), if_pos rfl, h.sl]
    · show knownB (if knownB r.S q then r.S else r.S ++ [q]) p = hasA (putA b.L q _) p
      by_cases hqp : q = p
      · subst hqp
        rw [hasA_put_same]
        cases hk : knownB r.S q
        · rw [if_neg (by decide), known_snoc, eqP_self, Bool.or_true]
        · rw [if_pos rfl, hk]
      · rw [hasA_put_ne _ _ hqp, ← h.sm p]
        cases hk : knownB r.S q
        · rw [if_neg (by decide), known_snoc, eqP_ne hqp, Bool.or_false]
        · rw [if_pos rfl]
    · show (if knownB r.S q then r.S else r.S ++ [q]).Pairwise _
      cases hk : knownB r.S q
      · rw [if_neg (by decide), List.pairwise_append]
        refine ⟨h.sn, List.pairwise_singleton _ _, fun x hx y hy => ?_⟩
        rw [List.mem_singleton.1 hy]
        rintro rfl
        rw [known_iff.2 hx] at hk
        cases hk
      · rw [if_pos rfl]; exact h.sn
    · show atA zRow (putA b.L q _) x.p x.k = _
      rcases List.mem_append.1 hx with hx | hx
      · obtain ⟨h1, h2⟩ := mem_restL.1 hx
        by_cases hp : q = x.p
        · have hk : x.k ≠ k := fun e => h2 ⟨hp.symm, e⟩
          rw [hp, atA_put_same, updN_ne _ _ hk]
          exact h.lx x h1
        · rw [atA_put_ne _ _ _ hp]
          exact h.lx x h1
      · rw [List.mem_singleton.1 hx]
        show atA zRow (putA b.L q _) q k = _
        rw [atA_put_same, updN_same]
    · have hp2 : (atA zRow (putA b.L q (updN (atA zRow b.L q) k ⟨true, s⟩)) p i).is = true := hp
      show ∃ x ∈ restL r.L q k ++ [⟨q, k, s⟩], x.p = p ∧ x.k = i
      by_cases hqi : q = p ∧ k = i
      · exact ⟨(⟨q, k, s⟩ : Rl), by simp, hqi.1, hqi.2⟩
      · have hold : (atA zRow b.L p i).is = true := by
          by_cases hqp : q = p
          · subst hqp
            rw [atA_put_same, updN_ne _ _ (fun e => hqi ⟨rfl, e.symm⟩)] at hp2
            exact hp2
          · rw [atA_put_ne _ _ _ hqp] at hp2
            exact hp2
        obtain ⟨x, hx, h1, h2⟩ := h.ly p i hold
        exact ⟨x, List.mem_append.2 (.inl (mem_restL.2 ⟨hx, fun e => hqi ⟨e.1.symm.trans h1, e.2.symm.trans h2⟩⟩)), h1, h2⟩
    · show (restL r.L q k ++ [(⟨q, k, s⟩ : Rl)]).length ≤ j + 1
      have := h.ll
      have h2 : (restL r.L q k).length ≤ r.L.length := List.length_filter_le _ _
      rw [List.length_append, List.length_singleton]
      omega
  · exact h.more
theorem rel_keep {b : Bk} {r : Rb} {j : Nat} (h : Rel11 b r j) (q : Pt) (s x0 x1 x2 : Int) : Rel11 (keepB b q s x0 x1 x2) (rkeepR r q s x0 x1 x2) (j + 1) := by
  unfold keepB rkeepR
  rw [keep_same h]
  split
  · refine ⟨h.more.nx, h.sl, h.sm, h.sn, h.lx, h.ly, fun x hx => ?_, fun p hp => ?_, h.more.ll, ?_⟩
    · show atA zHf (putA b.H q _) x.p = _
      rcases List.mem_append.1 hx with hx | hx
      · obtain ⟨h1, h2⟩ := mem_noH.1 hx
        rw [atA_put_ne _ _ _ (Ne.symm h2)]
        exact h.hx x h1
      · rw [List.mem_singleton.1 hx]
        exact atA_put_same _ _ _ _
    · have hp2 : (atA zHf (putA b.H q ⟨⟨true, s⟩, x0, x1, x2⟩) p).n.is = true := hp
      show ∃ x ∈ noH r.H q ++ [⟨q, s, x0, x1, x2⟩], x.p = p
      by_cases hqp : q = p
      · exact ⟨(⟨q, s, x0, x1, x2⟩ : Rh), by simp, hqp⟩
      · rw [atA_put_ne _ _ _ hqp] at hp2
        obtain ⟨x, hx, h1⟩ := h.hy p hp2
        exact ⟨x, List.mem_append.2 (.inl (mem_noH.2 ⟨hx, fun e => hqp (e.symm.trans h1)⟩)), h1⟩
    · show (noH r.H q ++ [(⟨q, s, x0, x1, x2⟩ : Rh)]).length ≤ j + 1
      have := h.hl
      have h2 : (noH r.H q).length ≤ r.H.length := List.length_filter_le _ _
      rw [List.length_append, List.length_singleton]
      omega
  · exact h.more
theorem rel_take {b : Bk} {r : Rb} {j : Nat} (h : Rel11 b r j) (q : Pt) (s : Int) : Rel11 (takeB b q s) (rtakeR r q s) (j + 1) := by
  have hs := (take_same h q s).1
  unfold takeB rtakeR
  cases ht : takenH r q s with
  | none =>
    rw [hs, ht]
    exact h.more
  | some y =>
    rw [hs, ht]
    show Rel11 ⟨b.nx, b.L, putA b.H q zHf⟩ ⟨r.sent, r.S, r.L, noH r.H q⟩ (j + 1)
    refine ⟨h.more.nx, h.sl, h.sm, h.sn, h.lx, h.ly, fun x hx => ?_, fun p hp => ?_, h.more.ll, ?_⟩
    · show atA zHf (putA b.H q _) x.p = _
      obtain ⟨h1, h2⟩ := mem_noH.1 hx
      rw [atA_put_ne _ _ _ (Ne.symm h2)]
      exact h.hx x h1
    · have hp2 : (atA zHf (putA b.H q zHf) p).n.is = true := hp
      by_cases hqp : q = p
      · subst hqp
        rw [atA_put_same] at hp2
        cases hp2
      · rw [atA_put_ne _ _ _ hqp] at hp2
        obtain ⟨x, hx, h1⟩ := h.hy p hp2
        exact ⟨x, mem_noH.2 ⟨hx, fun e => hqp (e.symm.trans h1)⟩, h1⟩
    · have := h.hl
      have h2 : (noH r.H q).length ≤ r.H.length := List.length_filter_le _ _
      show (noH r.H q).length ≤ j + 1
      omega
theorem rel_forget {b : Bk} {r : Rb} {j : Nat} (h : Rel11 b r j) (hb : b.ok) (q : Pt) : Rel11 (forgetB b q) (rforgetR r q) (j + 1) := by
  unfold rforgetR
  cases hk : knownB r.S q
  · rw [if_neg (by decide)]
    have hL : hasA b.L q = false := by rw [← h.sm q]; exact hk
    have hH : hasA b.H q = false := by
      cases hh : hasA b.H q
      · rfl
      · rw [hb.sub q hh] at hL; cases hL
    have e : forgetB b q = b := by
      show (⟨b.nx, delA b.L q, delA b.H q⟩ : Bk) = b
      rw [delA_no hL, delA_no hH]
    rw [e]
    exact h.more
  · rw [if_pos rfl]
    have hL : hasA b.L q = true := by rw [← h.sm q]; exact hk
    have hlen := delA_yes hb.aL hL
    have hS := noS_len h.sn (known_iff.1 hk)
    refine ⟨h.more.nx, ?_, fun p => ?_, h.sn.filter _, fun x hx => ?_, fun p i hp => ?_, fun x hx => ?_, fun p hp => ?_, ?_, ?_⟩
    · show (noS r.S q).length = (delA b.L q).length
      have := h.sl
      omega
    · show knownB (noS r.S q) p = hasA (delA b.L q) p
      rw [known_noS]
      by_cases hqp : q = p
      · subst hqp
        rw [hasA_del_same, eqP_self]; simp
      · rw [hasA_del_ne _ hqp, ← h.sm p, eqP_ne (Ne.symm hqp)]; simp
    · show atA zRow (delA b.L q) x.p x.k = _
      obtain ⟨h1, h2⟩ := mem_noL.1 hx
      rw [atA_del_ne _ _ (Ne.symm h2)]
      exact h.lx x h1
    · have hp2 : (atA zRow (delA b.L q) p i).is = true := hp
      by_cases hqp : q = p
      · subst hqp
        rw [atA_del_same] at hp2
        cases hp2
      · rw [atA_del_ne _ _ hqp] at hp2
        obtain ⟨x, hx, h1, h2⟩ := h.ly p i hp2
        exact ⟨x, mem_noL.2 ⟨hx, fun e => hqp (e.symm.trans h1)⟩, h1, h2⟩
    · show atA zHf (delA b.H q) x.p = _
      obtain ⟨h1, h2⟩ := mem_noH.1 hx
      rw [atA_del_ne _ _ (Ne.symm h2)]
      exact h.hx x h1
    · have hp2 : (atA zHf (delA b.H q) p).n.is = true := hp
      by_cases hqp : q = p
      · subst hqp
        rw [atA_del_same] at hp2
        cases hp2
      · rw [atA_del_ne _ _ hqp] at hp2
        obtain ⟨x, hx, h1⟩ := h.hy p hp2
        exact ⟨x, mem_noH.2 ⟨hx, fun e => hqp (e.symm.trans h1)⟩, h1⟩
    · have := h.ll
      have h2 : (noL r.L q).length ≤ r.L.length := List.length_filter_le _ _
      show (noL r.L q).length ≤ j + 1
      omega
    · have := h.hl
      have h2 : (noH r.H q).length ≤ r.H.length := List.length_filter_le _ _
      show (noH r.H q).length ≤ j + 1
      omega
/-- a call is answered alike, and the books stay alike -/
theorem rel_does {b : Bk} {r : Rb} {j : Nat} (h : Rel11 b r j) (hb : b.ok) (o : Co) : Rel11 (doB b o) (doR r o) (j + 1) ∧ doA b o = doAR r o := by
  unfold doB doR doA doAR
  by_cases h0 : o.kd = 0
  · simp only [if_pos h0]
    exact ⟨rel_next h _, by rw [next_same h]⟩
  simp only [if_neg h0]
  by_cases h1 : o.kd = 1
  · simp only [if_pos h1]
    exact ⟨rel_fresh h hb _ _ _, by rw [fresh_same h]⟩
  simp only [if_neg h1]
  by_cases h2 : o.kd = 2
  · simp only [if_pos h2]
    exact ⟨rel_keep h _ _ _ _ _, by rw [keep_same h]⟩
  simp only [if_neg h2]
  by_cases h3 : o.kd = 3
  · simp only [if_pos h3]
    obtain ⟨e0, e1, e2, e3⟩ := take_same h o.p o.sq
    exact ⟨rel_take h _ _, by rw [e0, e1, e2, e3]⟩
  simp only [if_neg h3]
  by_cases h4 : o.kd = 4
  · simp only [if_pos h4]
    exact ⟨rel_forget h hb _, by rw [h.sm]⟩
  simp only [if_neg h4]
  exact ⟨h.more, trivial⟩
theorem rel_new : Rel11 newBk newRb 0 where
  nx := fun k _ => ⟨rfl, Int.le_refl 0, Int.le_refl 0⟩
  sl := rfl
  sm := fun q => rfl
  sn := List.Pairwise.nil
  lx := fun x hx => by cases hx
  ly := fun q k h => by cases h
  hx := fun x hx => by cases hx
  hy := fun q h => by cases h
  ll := Nat.le_refl 0
  hl := Nat.le_refl 0

end Go.Proofs.YtpbfnmokhmioaaaDoor
