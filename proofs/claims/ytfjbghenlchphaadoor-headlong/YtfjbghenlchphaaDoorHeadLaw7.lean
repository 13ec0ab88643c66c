/- The walk over the law HeadLong. -/
import Derived.Test.YtfjbghenlchphaaDoorHeadWords
import Derived.Deep.AppendLies
import Derived.Deep.Upon
namespace Go.Proofs.YtfjbghenlchphaaDoor
open Go.RowKit
set_option linter.unusedVariables false

def kH (k : Int) : Hd := ⟨k, 0, 0, 0, ⟨zeroC, 1⟩, 0, 0⟩
theorem kH_right {k : Int} (h : longN k ≠ 0) : (kH k).right = true := by
  rw [Hd.right_iff]
  refine ⟨h, by unfold kH; simp, ?_, by unfold kH; simp, by unfold kH; simp, by unfold kH; simp⟩
  show flagB k 0 = true
  unfold flagB
  split
  · rfl
  · split <;> rfl
theorem kH_ok (k : Int) : (kH k).p.c.ok := by show zeroC.ok; unfold Ck.ok Ck.l isByte zeroC; decide
theorem kH_enc (k : Int) (hk : longN k ≠ 0) (w : World) (hl : Lens w) : Calls Tryd.prog 10 #[.agg #[.int .i64 k, .int .i64 0, .int .i64 0, .int .i64 0, .int .u8 0, .int .u8 0, .int .u8 0, .int .u8 0, .int .u8 0, .int .u8 0, .int .u8 0, .int .u8 0, .int .i64 1, .int .i64 0, .int .i64 0]] w fun e w' => ∃ g, w.heap.size ≤ g ∧ e = .returned (.tuple #[.slice (some ⟨g, 0, none⟩) 34 34, .bool true]) ∧ Holds w' g 5 (byteCells (encL (kH k))) ∧ Below w.heap.size w w' := encode_yes (kH k) w hl (kH_right hk)
theorem kH_dec (k : Int) (hk : longN k ≠ 0) (w : World) (g C : Nat) (zs : List Int) (n : Nat) (hn : n = 34 + zs.length) (hb : ∀ z ∈ zs, isByte z) (hC : n ≤ C) (hM : C ≤ maxLen) (hl : Lens w) (hc : BytesAt w ⟨g, 0, none⟩ (encL (kH k) ++ zs)) :
    Calls Tryd.prog 17 #[.slice (some ⟨g, 0, none⟩) n C] w fun e w' => ∃ G : Hd, e = .returned (.tuple #[.agg #[.int .i64 G.t, .int .i64 G.d, .int .i64 G.f, .int .i64 G.c, .int .u8 G.p.c.b0, .int .u8 G.p.c.b1, .int .u8 G.p.c.b2, .int .u8 G.p.c.b3, .int .u8 G.p.c.b4, .int .u8 G.p.c.b5, .int .u8 G.p.c.b6, .int .u8 G.p.c.b7, .int .i64 G.p.n, .int .i64 G.s, .int .i64 G.l], .int .i64 (if (n : Int) = longN k then 0 else 53)]) ∧ Below w.heap.size w w' := by
  have hlen : (encL (kH k) ++ zs).length = n := by rw [List.length_append, encL_length, hn]
  have h := decode_any ⟨g, 0, none⟩ n C _ w hlen (by omega) hC hM (app_byte (encL_byte (kH_right hk) (kH_ok k)) hb) hc hl
  have hd := fault_enc (kH k) zs n (by omega) (kH_right hk) (by show -9223372036854775808 ≤ (0 : Int); omega) (by show (0 : Int) ≤ 9223372036854775807; omega)
  rw [hd] at h
  exact h.mono fun _ _ ⟨he, hb⟩ => ⟨_, he, hb⟩
theorem owns_whole {w : World} {g base : Nat} {zs : List Int} (hl : zs.length = 34) (hg : base ≤ g) (h : Holds w g 5 (byteCells zs)) : w.ownsRow base 5 1 (.slice (some ⟨g, 0, none⟩) 34 34) 34 (zs.map (Value.int .u8)) :=
  ⟨by simp [hl], .inr ⟨g, 34, _, rfl, hg, h, Nat.le_refl _, by unfold maxLen; omega, by simp [byteCells, hl], by simp only [byteCells]; rw [List.take_of_length_le (by simp [hl])]⟩⟩
theorem wpList_append_none {w : World} {ops : Array Oper} {rest : List Oper} {o : Oper} {a : Act} {Q : Exit → Act → World → Prop} (hgd : o.guard = none) (s x : Operand)
    (ho : o.op = .call { callee := .builtin .append, args := #[s, x], argTypes := #[28, 28] }) (g : Nat) (A : Option Addr) (C : Nat)
    (hs : a.eval s = .slice (some ⟨g, 0, none⟩) 34 34) (hx : a.eval x = .slice A 0 C) (h : wpList Tryd.prog ops Q rest (a.put o.dst (.slice (some ⟨g, 0, none⟩) 34 34)) w) :
    wpList Tryd.prog ops Q (o :: rest) a w := by
  obtain ⟨i0, hi0, hz0, hz1, hz2⟩ := info_parts info_byte
  have hA : Src Tryd.prog i0.size 28 (.slice A 0 C) 0 [] w := by
    cases A with
    | none => exact Src.ofNil w Tryd.underlying28 C
    | some a => exact Src.ofSlice w Tryd.underlying28 a 0 C [] (by simp) (fun j u h => by simp at h) (fun u h => by cases h)
  have h3 := run_append_nothing w 28 28 o.type 5 i0 Tryd.underlying28 hi0 (some ⟨g, 0, none⟩) 34 34 (Nat.le_refl _) _ hA
  refine wpList_plain hgd fun K hK => wp_of_run ?_ (hK _ _ h)
  unfold execOp
  simp only [ho, resolve, invoke, builtin, Sem.run_bind, Sem.run_pure, Result.andThen_ok, List.map_toArray, List.map_cons, List.map_nil, hs, hx, h3]
theorem owned_cap {w : World} {base g n cap : Nat} {t : TypeId} {xs : List Value} (h : w.ownsRow base t 1 (.slice (some ⟨g, 0, none⟩) n cap) n xs) : n ≤ cap ∧ cap ≤ maxLen := by
  rcases h.2 with ⟨h0, _⟩ | ⟨g', cap', cur, hv, hbg, hg, hnc, hcm, hcs, htake⟩
  · cases h0
  · cases hv; exact ⟨hnc, hcm⟩
set_option maxRecDepth 100000 in
set_option maxHeartbeats 4000000 in
theorem long5_walk (k : Int) (A : Option Addr) (L C : Nat) (zs : List Int) (w : World) (hs : sliceOk .u8 w A L C zs) (hl : Lens w) :
    Calls Tryd.prog 9 #[.int .i64 k, .slice A L C] w fun e w' => e = .returned (.bool true) ∧ Below w.heap.size w w' := by
  obtain ⟨m, Hm⟩ : ∃ m, Hid (longN k = m) := ⟨_, Lib.hid rfl⟩
  have C1 : Hid (∀ v, Lens v → Calls Tryd.prog 15 #[.int .i64 k] v fun e w' => e = .returned (.int .i64 m) ∧ Below v.heap.size v w') := fun v hv => (long_any k v hv).mono fun _ _ ⟨he, hw⟩ => ⟨by rw [he, Hm.out], hw ▸ Below.refl _ _⟩
  have C2 : Hid (∀ v, Lens v → Calls Tryd.prog 16 #[.int .i64 k] v fun e w' => e = .returned (.int .i64 m) ∧ Below v.heap.size v w') := fun v hv => (rlong_any k v).mono fun _ _ ⟨he, hw⟩ => ⟨by rw [he, Hm.out], hw ▸ Below.refl _ _⟩
  have HL := Lib.hid hl
  clear hl
  have HB := Lib.hid (Below.refl w.heap.size w)
  by_cases hm : m = 0
  · subst hm
    clear hs
    go_enter Tryd.func9, Tryd.ntmps9
    go_wp2_with fail
    refine (C1.out _ HL.out).mono ?_
    rintro e w1 ⟨rfl, hw1⟩
    replace HL := Lib.hid ((HL.out).keptB hw1)
    replace HB := Lib.hid (bstep HB.out hw1)
    clear hw1
    go_wp2_with fail
    refine (C2.out _ HL.out).mono ?_
    rintro e w2 ⟨rfl, hw2⟩
    replace HL := Lib.hid ((HL.out).keptB hw2)
    replace HB := Lib.hid (bstep HB.out hw2)
    clear hw2
    go_wp2_with fail
    refine (alive5_any _ HL.out).mono ?_
    rintro e w3 ⟨rfl, hw3⟩
    replace HL := Lib.hid ((HL.out).keptB hw3)
    replace HB := Lib.hid (bstep HB.out hw3)
    clear hw3
    go_wp2_with fail
    refine (C2.out _ HL.out).mono ?_
    rintro e w4 ⟨rfl, hw4⟩
    replace HL := Lib.hid ((HL.out).keptB hw4)
    replace HB := Lib.hid (bstep HB.out hw4)
    clear hw4
    go_wp2
    go_ret
    exact ⟨rfl, HB.out⟩
  have dm : (m == 0) = false := by simpa using hm
  by_cases hL : 200 < L
  · have d1 : decide (200 < (L : Int)) = true := by simp; omega
    clear hs
    go_enter Tryd.func9, Tryd.ntmps9
    go_wp2_with fail
    refine (C1.out _ HL.out).mono ?_
    rintro e w1 ⟨rfl, hw1⟩
    replace HL := Lib.hid ((HL.out).keptB hw1)
    replace HB := Lib.hid (bstep HB.out hw1)
    clear hw1
    go_wp2_with fail
    refine (C2.out _ HL.out).mono ?_
    rintro e w2 ⟨rfl, hw2⟩
    replace HL := Lib.hid ((HL.out).keptB hw2)
    replace HB := Lib.hid (bstep HB.out hw2)
    clear hw2
    go_wp2_with fail
    refine (alive5_any _ HL.out).mono ?_
    rintro e w3 ⟨rfl, hw3⟩
    replace HL := Lib.hid ((HL.out).keptB hw3)
    replace HB := Lib.hid (bstep HB.out hw3)
    clear hw3
    go_wp2_with fail
    refine (C2.out _ HL.out).mono ?_
    rintro e w4 ⟨rfl, hw4⟩
    replace HL := Lib.hid ((HL.out).keptB hw4)
    replace HB := Lib.hid (bstep HB.out hw4)
    clear hw4
    go_wp2
    go_ret
    exact ⟨rfl, HB.out⟩
  have d1 : decide (200 < (L : Int)) = false := by simp; omega
  have hk : longN k ≠ 0 := by rw [Hm.out]; exact hm
  have E0 := Lib.hid (kH_enc k hk)
  by_cases hL0 : L = 0
  · subst hL0
    have D0 : Hid (∀ v g, Lens v → Holds v g 5 (byteCells (encL (kH k))) → Calls Tryd.prog 17 #[.slice (some ⟨g, 0, none⟩) 34 34] v fun e w' => ∃ G : Hd, e = .returned (.tuple #[.agg #[.int .i64 G.t, .int .i64 G.d, .int .i64 G.f, .int .i64 G.c, .int .u8 G.p.c.b0, .int .u8 G.p.c.b1, .int .u8 G.p.c.b2, .int .u8 G.p.c.b3, .int .u8 G.p.c.b4, .int .u8 G.p.c.b5, .int .u8 G.p.c.b6, .int .u8 G.p.c.b7, .int .i64 G.p.n, .int .i64 G.s, .int .i64 G.l], .int .i64 53]) ∧ Below v.heap.size v w') := fun v g hv hh => by
      have h := kH_dec k hk v g 34 [] 34 rfl (fun z hz => by cases hz) (Nat.le_refl _) (by unfold maxLen; omega) hv (by rw [List.append_nil]; exact row_bytes hh)
      have hb := longN_ne hk
      rw [if_neg (by omega)] at h
      exact h
    have dq : ((34 : Int) == m) = false := by
      have hb := longN_ne hk
      rw [Hm.out] at hb
      simp; omega
    clear hs hk
    rcases A with _ | a
    · go_enter Tryd.func9, Tryd.ntmps9
      go_wp2_with fail
      refine (C1.out _ HL.out).mono ?_
      rintro e w1 ⟨rfl, hw1⟩
      replace HL := Lib.hid ((HL.out).keptB hw1)
      replace HB := Lib.hid (bstep HB.out hw1)
      clear hw1
      go_wp2_with fail
      refine (C2.out _ HL.out).mono ?_
      rintro e w2 ⟨rfl, hw2⟩
      replace HL := Lib.hid ((HL.out).keptB hw2)
      replace HB := Lib.hid (bstep HB.out hw2)
      clear hw2
      have hb0 := (HB.out).size
      go_wp2_with fail
      refine (E0.out _ HL.out).mono ?_
      rintro e w3 ⟨g1, n_hg, rfl, n_KG, hw3⟩
      replace HL := Lib.hid ((HL.out).keptB hw3)
      replace HB := Lib.hid (bstep HB.out hw3)
      have KG := Lib.hid (show Holds w3 g1 5 (byteCells (encL (kH k))) from n_KG)
      clear n_KG
      clear hw3
      have hg1 : w.heap.size ≤ g1 := Nat.le_trans hb0 n_hg
      clear hb0 n_hg
      go_wp2_with (at_builtin; refine wpList_append_none rfl _ _ rfl g1 _ C rfl rfl ?_)
      go_wp2_with fail
      refine (D0.out _ _ HL.out KG.out).mono ?_
      rintro e w4 ⟨G, rfl, hw4⟩
      replace HL := Lib.hid ((HL.out).keptB hw4)
      replace KG := Lib.hid ((KG.out).keptB hw4)
      replace HB := Lib.hid (bstep HB.out hw4)
      clear hw4
      replace HL := Lib.hid ((HL.out).laid (.cells #[.int .i64 G.t, .int .i64 G.d, .int .i64 G.f, .int .i64 G.c, .int .u8 G.p.c.b0, .int .u8 G.p.c.b1, .int .u8 G.p.c.b2, .int .u8 G.p.c.b3, .int .u8 G.p.c.b4, .int .u8 G.p.c.b5, .int .u8 G.p.c.b6, .int .u8 G.p.c.b7, .int .i64 G.p.n, .int .i64 G.s, .int .i64 G.l] 31))
      replace KG := Lib.hid ((KG.out).laid (.cells #[.int .i64 G.t, .int .i64 G.d, .int .i64 G.f, .int .i64 G.c, .int .u8 G.p.c.b0, .int .u8 G.p.c.b1, .int .u8 G.p.c.b2, .int .u8 G.p.c.b3, .int .u8 G.p.c.b4, .int .u8 G.p.c.b5, .int .u8 G.p.c.b6, .int .u8 G.p.c.b7, .int .i64 G.p.n, .int .i64 G.s, .int .i64 G.l] 31))
      have KB := Lib.hid (Holds.fresh w4 31 #[.int .i64 G.t, .int .i64 G.d, .int .i64 G.f, .int .i64 G.c, .int .u8 G.p.c.b0, .int .u8 G.p.c.b1, .int .u8 G.p.c.b2, .int .u8 G.p.c.b3, .int .u8 G.p.c.b4, .int .u8 G.p.c.b5, .int .u8 G.p.c.b6, .int .u8 G.p.c.b7, .int .i64 G.p.n, .int .i64 G.s, .int .i64 G.l] (g := (w4).heap.size) rfl)
      replace HB := Lib.hid (bstep HB.out (bnew _ (.cells #[.int .i64 G.t, .int .i64 G.d, .int .i64 G.f, .int .i64 G.c, .int .u8 G.p.c.b0, .int .u8 G.p.c.b1, .int .u8 G.p.c.b2, .int .u8 G.p.c.b3, .int .u8 G.p.c.b4, .int .u8 G.p.c.b5, .int .u8 G.p.c.b6, .int .u8 G.p.c.b7, .int .i64 G.p.n, .int .i64 G.s, .int .i64 G.l] 31)))
      go_wp2_with fail
      refine (alive5_any _ HL.out).mono ?_
      rintro e w5 ⟨rfl, hw5⟩
      replace HL := Lib.hid ((HL.out).keptB hw5)
      replace KG := Lib.hid ((KG.out).keptB hw5)
      replace KB := Lib.hid ((KB.out).keptB hw5)
      replace HB := Lib.hid (bstep HB.out hw5)
      clear hw5
      go_wp2
      go_ret
      exact ⟨rfl, HB.out⟩
    · go_enter Tryd.func9, Tryd.ntmps9
      go_wp2_with fail
      refine (C1.out _ HL.out).mono ?_
      rintro e w1 ⟨rfl, hw1⟩
      replace HL := Lib.hid ((HL.out).keptB hw1)
      replace HB := Lib.hid (bstep HB.out hw1)
      clear hw1
      go_wp2_with fail
      refine (C2.out _ HL.out).mono ?_
      rintro e w2 ⟨rfl, hw2⟩
      replace HL := Lib.hid ((HL.out).keptB hw2)
      replace HB := Lib.hid (bstep HB.out hw2)
      clear hw2
      have hb0 := (HB.out).size
      go_wp2_with fail
      refine (E0.out _ HL.out).mono ?_
      rintro e w3 ⟨g1, n_hg, rfl, n_KG, hw3⟩
      replace HL := Lib.hid ((HL.out).keptB hw3)
      replace HB := Lib.hid (bstep HB.out hw3)
      have KG := Lib.hid (show Holds w3 g1 5 (byteCells (encL (kH k))) from n_KG)
      clear n_KG
      clear hw3
      have hg1 : w.heap.size ≤ g1 := Nat.le_trans hb0 n_hg
      clear hb0 n_hg
      go_wp2_with (at_builtin; refine wpList_append_none rfl _ _ rfl g1 _ C rfl rfl ?_)
      go_wp2_with fail
      refine (D0.out _ _ HL.out KG.out).mono ?_
      rintro e w4 ⟨G, rfl, hw4⟩
      replace HL := Lib.hid ((HL.out).keptB hw4)
      replace KG := Lib.hid ((KG.out).keptB hw4)
      replace HB := Lib.hid (bstep HB.out hw4)
      clear hw4
      replace HL := Lib.hid ((HL.out).laid (.cells #[.int .i64 G.t, .int .i64 G.d, .int .i64 G.f, .int .i64 G.c, .int .u8 G.p.c.b0, .int .u8 G.p.c.b1, .int .u8 G.p.c.b2, .int .u8 G.p.c.b3, .int .u8 G.p.c.b4, .int .u8 G.p.c.b5, .int .u8 G.p.c.b6, .int .u8 G.p.c.b7, .int .i64 G.p.n, .int .i64 G.s, .int .i64 G.l] 31))
      replace KG := Lib.hid ((KG.out).laid (.cells #[.int .i64 G.t, .int .i64 G.d, .int .i64 G.f, .int .i64 G.c, .int .u8 G.p.c.b0, .int .u8 G.p.c.b1, .int .u8 G.p.c.b2, .int .u8 G.p.c.b3, .int .u8 G.p.c.b4, .int .u8 G.p.c.b5, .int .u8 G.p.c.b6, .int .u8 G.p.c.b7, .int .i64 G.p.n, .int .i64 G.s, .int .i64 G.l] 31))
      have KB := Lib.hid (Holds.fresh w4 31 #[.int .i64 G.t, .int .i64 G.d, .int .i64 G.f, .int .i64 G.c, .int .u8 G.p.c.b0, .int .u8 G.p.c.b1, .int .u8 G.p.c.b2, .int .u8 G.p.c.b3, .int .u8 G.p.c.b4, .int .u8 G.p.c.b5, .int .u8 G.p.c.b6, .int .u8 G.p.c.b7, .int .i64 G.p.n, .int .i64 G.s, .int .i64 G.l] (g := (w4).heap.size) rfl)
      replace HB := Lib.hid (bstep HB.out (bnew _ (.cells #[.int .i64 G.t, .int .i64 G.d, .int .i64 G.f, .int .i64 G.c, .int .u8 G.p.c.b0, .int .u8 G.p.c.b1, .int .u8 G.p.c.b2, .int .u8 G.p.c.b3, .int .u8 G.p.c.b4, .int .u8 G.p.c.b5, .int .u8 G.p.c.b6, .int .u8 G.p.c.b7, .int .i64 G.p.n, .int .i64 G.s, .int .i64 G.l] 31)))
      go_wp2_with fail
      refine (alive5_any _ HL.out).mono ?_
      rintro e w5 ⟨rfl, hw5⟩
      replace HL := Lib.hid ((HL.out).keptB hw5)
      replace KG := Lib.hid ((KG.out).keptB hw5)
      replace KB := Lib.hid ((KB.out).keptB hw5)
      replace HB := Lib.hid (bstep HB.out hw5)
      clear hw5
      go_wp2
      go_ret
      exact ⟨rfl, HB.out⟩
  · have HLw := Lib.hid (HL.out)
    rcases hs with ⟨_, h0, _⟩ | ⟨a, rfl, h1, h2, h3, h4, h5⟩
    · omega
    have HZ : Hid (BytesAt w a (zs.take L)) := by
      intro i hi
      rw [List.length_take] at hi
      rw [h4 i (by omega)]
      simp only [List.getD, List.getElem?_take, if_pos (show i < L by omega)]
    have HZb : Hid (∀ z ∈ zs.take L, isByte z) := fun z hz => byte_wf (h5 z (List.mem_of_mem_take hz))
    have HZl : Hid ((zs.take L).length = L) := by rw [Hid, List.length_take]; omega
    clear h4 h5 h3
    obtain ⟨ys, hys⟩ : ∃ ys, zs.take L = ys := ⟨_, rfl⟩
    rw [hys] at HZ HZb HZl
    clear hys
    obtain ⟨i0, hi0, hz0, hz1, hz2⟩ := info_parts info_byte
    obtain ⟨q, hq⟩ : ∃ q : Int, (if ((34 + L : Nat) : Int) = longN k then 0 else 53) = q := ⟨_, rfl⟩
    have D0 : Hid (∀ v g c, 34 + L ≤ c → c ≤ maxLen → Lens v → BytesAt v ⟨g, 0, none⟩ (encL (kH k) ++ ys) → Calls Tryd.prog 17 #[.slice (some ⟨g, 0, none⟩) (34 + L) c] v fun e w' => ∃ G : Hd, e = .returned (.tuple #[.agg #[.int .i64 G.t, .int .i64 G.d, .int .i64 G.f, .int .i64 G.c, .int .u8 G.p.c.b0, .int .u8 G.p.c.b1, .int .u8 G.p.c.b2, .int .u8 G.p.c.b3, .int .u8 G.p.c.b4, .int .u8 G.p.c.b5, .int .u8 G.p.c.b6, .int .u8 G.p.c.b7, .int .i64 G.p.n, .int .i64 G.s, .int .i64 G.l], .int .i64 q]) ∧ Below v.heap.size v w') := fun v g c hc1 hc2 hv hh => by
      have h := kH_dec k hk v g c ys (34 + L) (by rw [HZl.out]) HZb.out hc1 hc2 hv hh
      rw [hq] at h
      exact h
    have hw64 : IntKind.i64.wrap (34 + (L : Int)) = 34 + L := by rw [IntKind.wrap_i64]; omega
    have dq : ((q == 0) == ((34 + (L : Int)) == m)) = true := by
      rw [← hq, Hm.out]
      by_cases hh : 34 + (L : Int) = m
      · rw [if_pos (by omega), hh]; simp
      · rw [if_neg (by omega)]
        have e1 : (34 + (L : Int) == m) = false := by simpa using hh
        rw [e1]; rfl
    have HDQ := Lib.hid dq
    clear hq dq hk
    go_enter Tryd.func9, Tryd.ntmps9
    go_wp2_with fail
    refine (C1.out _ HL.out).mono ?_
    rintro e w1 ⟨rfl, hw1⟩
    replace HL := Lib.hid ((HL.out).keptB hw1)
    replace HZ := Lib.hid ((HZ.out).keptB hw1)
    replace HB := Lib.hid (bstep HB.out hw1)
    clear hw1
    go_wp2_with fail
    refine (C2.out _ HL.out).mono ?_
    rintro e w2 ⟨rfl, hw2⟩
    replace HL := Lib.hid ((HL.out).keptB hw2)
    replace HZ := Lib.hid ((HZ.out).keptB hw2)
    replace HB := Lib.hid (bstep HB.out hw2)
    clear hw2
    have hb0 := (HB.out).size
    go_wp2_with fail
    refine (E0.out _ HL.out).mono ?_
    rintro e w3 ⟨g1, n_hg, rfl, n_KG, hw3⟩
    replace HL := Lib.hid ((HL.out).keptB hw3)
    replace HZ := Lib.hid ((HZ.out).keptB hw3)
    replace HB := Lib.hid (bstep HB.out hw3)
    have KG := Lib.hid (show Holds w3 g1 5 (byteCells (encL (kH k))) from n_KG)
    clear n_KG
    clear hw3
    have hg1 : w.heap.size ≤ g1 := Nat.le_trans hb0 n_hg
    clear hb0 n_hg
    have HO := Lib.hid (owns_whole (encL_length (kH k)) hg1 KG.out)
    go_wp2_with (at_builtin; refine wpList_append_lies _ rfl _ _ _ rfl w.heap.size 5 i0 _ 1 1 Tryd.underlying28 hi0 hz0 hz1 hz2 rfl (by omega) _ 34 _ rfl HO.out a L C (ys.map (Value.int .u8)) rfl (by simp [HZl.out]) (news_bytes HZ.out) (by simp [Value.oneCell']) (by omega) (by unfold maxLen; omega) (by omega) (HB.out).size _ rfl ?_; intro g2 cap w9 hown hgrow hat hlt2)
    replace HL := Lib.hid (HLw.out.keep ((HB.out).grown hgrow (HB.out).size (fun g hg => by cases hg; exact hg1)))
    replace HB := Lib.hid ((HB.out).grown hgrow (HB.out).size (fun g hg => by cases hg; exact hg1))
    rw [← List.map_append] at hown
    have hcap := owned_cap hown
    have HN := Lib.hid (owned_bytes hown)
    clear hown hgrow hat hlt2 HO KG HZ
    go_wp2_with fail
    refine (D0.out _ _ _ hcap.1 hcap.2 HL.out HN.out).mono ?_
    rintro e w4 ⟨G, rfl, hw4⟩
    replace HL := Lib.hid ((HL.out).keptB hw4)
    replace HB := Lib.hid (bstep HB.out hw4)
    clear hw4
    clear HN
    replace HL := Lib.hid ((HL.out).laid (.cells #[.int .i64 G.t, .int .i64 G.d, .int .i64 G.f, .int .i64 G.c, .int .u8 G.p.c.b0, .int .u8 G.p.c.b1, .int .u8 G.p.c.b2, .int .u8 G.p.c.b3, .int .u8 G.p.c.b4, .int .u8 G.p.c.b5, .int .u8 G.p.c.b6, .int .u8 G.p.c.b7, .int .i64 G.p.n, .int .i64 G.s, .int .i64 G.l] 31))
    have KB := Lib.hid (Holds.fresh w4 31 #[.int .i64 G.t, .int .i64 G.d, .int .i64 G.f, .int .i64 G.c, .int .u8 G.p.c.b0, .int .u8 G.p.c.b1, .int .u8 G.p.c.b2, .int .u8 G.p.c.b3, .int .u8 G.p.c.b4, .int .u8 G.p.c.b5, .int .u8 G.p.c.b6, .int .u8 G.p.c.b7, .int .i64 G.p.n, .int .i64 G.s, .int .i64 G.l] (g := (w4).heap.size) rfl)
    replace HB := Lib.hid (bstep HB.out (bnew _ (.cells #[.int .i64 G.t, .int .i64 G.d, .int .i64 G.f, .int .i64 G.c, .int .u8 G.p.c.b0, .int .u8 G.p.c.b1, .int .u8 G.p.c.b2, .int .u8 G.p.c.b3, .int .u8 G.p.c.b4, .int .u8 G.p.c.b5, .int .u8 G.p.c.b6, .int .u8 G.p.c.b7, .int .i64 G.p.n, .int .i64 G.s, .int .i64 G.l] 31)))
    have hdq := HDQ.out
    go_wp2_with fail
    refine (alive5_any _ HL.out).mono ?_
    rintro e w5 ⟨rfl, hw5⟩
    replace HL := Lib.hid ((HL.out).keptB hw5)
    replace KB := Lib.hid ((KB.out).keptB hw5)
    replace HB := Lib.hid (bstep HB.out hw5)
    clear hw5
    go_wp2
    go_ret
    exact ⟨rfl, HB.out⟩

end Go.Proofs.YtfjbghenlchphaaDoor
