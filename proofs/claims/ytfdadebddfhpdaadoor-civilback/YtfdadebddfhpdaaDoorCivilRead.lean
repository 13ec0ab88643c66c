/- The walk over civil's Read. -/
import Derived.Test.YtfdadebddfhpdaaDoorCivilReadMath
import Derived.Test.YtfdadebddfhpdaaDoorCivilText3
import Derived.Deep.DeepCutAuto
import Derived.Deep.Light
namespace Go.Proofs.YtfdadebddfhpdaaDoor
set_option maxRecDepth 100000
open Go.RowKit
set_option linter.unusedVariables false
set_option linter.unusedSimpArgs false

def pcP (zs : List Int) : Nat → ByteArray
  | 0 => strOfNums (zs.take 4)
  | 1 => strOfNums ((zs.take 7).drop 5)
  | 2 => strOfNums ((zs.take 10).drop 8)
  | 3 => strOfNums ((zs.take 13).drop 11)
  | 4 => strOfNums ((zs.take 16).drop 14)
  | 5 => strOfNums (zs.drop 17)
  | _ => ByteArray.empty
/-- what each operation yields -/
def PhiRP (s : ByteArray) (l : Lb) (p : Nat → ByteArray) (BK : Nat) (BW : Nat) : Nat → World → Value → Prop
  | 0, _, x => x = .string s
  | 1, _, x => x = .string (p 0)
  | 2, _, x => x = .int .i64 l.y
  | 3, _, x => x = .string s
  | 4, _, x => x = .string (p 1)
  | 5, _, x => x = .int .i64 l.m
  | 6, _, x => x = .string s
  | 7, _, x => x = .string (p 2)
  | 8, _, x => x = .int .i64 l.d
  | 9, _, x => x = .string s
  | 10, _, x => x = .string (p 3)
  | 11, _, x => x = .int .i64 l.hh
  | 12, _, x => x = .string s
  | 13, _, x => x = .string (p 4)
  | 14, _, x => x = .int .i64 l.mi
  | 15, _, x => x = .string s
  | 16, _, x => x = .string (p 5)
  | 17, _, x => x = .int .i64 l.se
  | 18, _, x => x = .agg #[.int .i64 l.y, .int .i64 l.m, .int .i64 l.d, .int .i64 l.hh, .int .i64 l.mi, .int .i64 l.se]
  | 19, w, x => ∃ g, x = .pointer (some ⟨g, 0, none⟩) ∧ BK < g ∧ BW ≤ g ∧ Holds w g 34 (lbA zLb)
  | _, _, _ => True
theorem PhiRP_keep {s : ByteArray} {l : Lb} {p : Nat → ByteArray} {BK : Nat} {BW : Nat} (i : Nat) (w w' : World) (x : Value) (hb : Below w.heap.size w w') (hp : PhiRP s l p BK BW i w x) : PhiRP s l p BK BW i w' x := by
  match i, hp with
  | 0, hp => exact hp
  | 1, hp => exact hp
  | 2, hp => exact hp
  | 3, hp => exact hp
  | 4, hp => exact hp
  | 5, hp => exact hp
  | 6, hp => exact hp
  | 7, hp => exact hp
  | 8, hp => exact hp
  | 9, hp => exact hp
  | 10, hp => exact hp
  | 11, hp => exact hp
  | 12, hp => exact hp
  | 13, hp => exact hp
  | 14, hp => exact hp
  | 15, hp => exact hp
  | 16, hp => exact hp
  | 17, hp => exact hp
  | 18, hp => exact hp
  | 19, hp => obtain ⟨g, h1, h2, h3, h4⟩ := hp; exact ⟨g, h1, h2, h3, h4.keptB hb⟩
  | n + 20, hp => trivial
theorem PhiRP_at19 {s : ByteArray} {l : Lb} {p : Nat → ByteArray} {BK : Nat} {BW : Nat} {w : World} {x : Value} (h : PhiRP s l p BK BW 19 w x) : ∃ g, x = .pointer (some ⟨g, 0, none⟩) ∧ BK < g ∧ BW ≤ g ∧ Holds w g 34 (lbA zLb) := h
def GRdP (BK : Nat) (w0 w : World) : Prop := Holds w BK 34 (lbA zLb) ∧ Below w0.heap.size w0 w
theorem GRdP_keep {BK : Nat} {w0 : World} (w w' : World) (hb : Below w.heap.size w w') (hg : GRdP BK w0 w) : GRdP BK w0 w' := ⟨hg.1.keptB hb, bstep hg.2 hb⟩

set_option maxRecDepth 100000 in
set_option maxHeartbeats 4000000 in
theorem pread15_any (s : ByteArray) (w : World) (hT : Tabs w) (hm : s.size ≤ maxLen) :
    Calls Tryd.prog 28 #[.string s] w fun e w' => e = .returned (.tuple #[.agg (lbA (rdV (strB s))), .bool (rdB (strB s))]) ∧ Below w.heap.size w w' := by
  have HB := Lib.hid (Below.refl w.heap.size w)
  have HT := Lib.hid hT
  clear hT
  by_cases hs : s.size = 19
  · have hL : ((s.size : Int) != 19) = false := by simp; omega
    obtain ⟨zs, hz⟩ : ∃ zs, strB s = zs := ⟨_, rfl⟩
    have hb : ∀ z ∈ zs, isByte z := by rw [← hz]; exact strB_byte s
    have hl : zs.length = 19 := by rw [← hz, strB_length]; exact hs
    obtain ⟨p, hp⟩ : ∃ p, pcP zs = p := ⟨_, rfl⟩
    obtain ⟨l, hl2⟩ : ∃ l, rdP zs = l := ⟨_, rfl⟩
    have S0 : Hid (∀ w, (Instr.slice 9 (.string s) none (some (.int .i64 4)) none).run Tryd.prog w = .ok (.string (p 0)) w) := by
      rw [Hid, ← hp]
      intro w
      have h := slice_strB_h s 4 4 rfl (by omega) w
      rw [hz] at h
      exact h
    have C0 : Hid (∀ v, Calls Tryd.prog 37 #[.string (p 0)] v fun e w' => e = .returned (.int .i64 l.y) ∧ v = w') := by
      rw [Hid, ← hp, ← hl2]
      exact fun v => pnumber15_str (zs.take 4) v (fun x hx => hb x (List.mem_of_mem_take hx)) (by simp [hl])
    have S1 : Hid (∀ w, (Instr.slice 9 (.string s) (some (.int .i64 5)) (some (.int .i64 7)) none).run Tryd.prog w = .ok (.string (p 1)) w) := by
      rw [Hid, ← hp]
      intro w
      have h := slice_strB s 5 7 5 7 rfl rfl (by omega) (by omega) w
      rw [hz] at h
      exact h
    have C1 : Hid (∀ v, Calls Tryd.prog 37 #[.string (p 1)] v fun e w' => e = .returned (.int .i64 l.m) ∧ v = w') := by
      rw [Hid, ← hp, ← hl2]
      exact fun v => pnumber15_str ((zs.take 7).drop 5) v (fun x hx => hb x (List.mem_of_mem_take (List.mem_of_mem_drop hx))) (by simp [hl])
    have S2 : Hid (∀ w, (Instr.slice 9 (.string s) (some (.int .i64 8)) (some (.int .i64 10)) none).run Tryd.prog w = .ok (.string (p 2)) w) := by
      rw [Hid, ← hp]
      intro w
      have h := slice_strB s 8 10 8 10 rfl rfl (by omega) (by omega) w
      rw [hz] at h
      exact h
    have C2 : Hid (∀ v, Calls Tryd.prog 37 #[.string (p 2)] v fun e w' => e = .returned (.int .i64 l.d) ∧ v = w') := by
      rw [Hid, ← hp, ← hl2]
      exact fun v => pnumber15_str ((zs.take 10).drop 8) v (fun x hx => hb x (List.mem_of_mem_take (List.mem_of_mem_drop hx))) (by simp [hl])
    have S3 : Hid (∀ w, (Instr.slice 9 (.string s) (some (.int .i64 11)) (some (.int .i64 13)) none).run Tryd.prog w = .ok (.string (p 3)) w) := by
      rw [Hid, ← hp]
      intro w
      have h := slice_strB s 11 13 11 13 rfl rfl (by omega) (by omega) w
      rw [hz] at h
      exact h
    have C3 : Hid (∀ v, Calls Tryd.prog 37 #[.string (p 3)] v fun e w' => e = .returned (.int .i64 l.hh) ∧ v = w') := by
      rw [Hid, ← hp, ← hl2]
      exact fun v => pnumber15_str ((zs.take 13).drop 11) v (fun x hx => hb x (List.mem_of_mem_take (List.mem_of_mem_drop hx))) (by simp [hl])
    have S4 : Hid (∀ w, (Instr.slice 9 (.string s) (some (.int .i64 14)) (some (.int .i64 16)) none).run Tryd.prog w = .ok (.string (p 4)) w) := by
      rw [Hid, ← hp]
      intro w
      have h := slice_strB s 14 16 14 16 rfl rfl (by omega) (by omega) w
      rw [hz] at h
      exact h
    have C4 : Hid (∀ v, Calls Tryd.prog 37 #[.string (p 4)] v fun e w' => e = .returned (.int .i64 l.mi) ∧ v = w') := by
      rw [Hid, ← hp, ← hl2]
      exact fun v => pnumber15_str ((zs.take 16).drop 14) v (fun x hx => hb x (List.mem_of_mem_take (List.mem_of_mem_drop hx))) (by simp [hl])
    have S5 : Hid (∀ w, (Instr.slice 9 (.string s) (some (.int .i64 17)) none none).run Tryd.prog w = .ok (.string (p 5)) w) := by
      rw [Hid, ← hp]
      intro w
      have h := slice_strB_l s 17 17 rfl (by omega) w
      rw [hz] at h
      exact h
    have C5 : Hid (∀ v, Calls Tryd.prog 37 #[.string (p 5)] v fun e w' => e = .returned (.int .i64 l.se) ∧ v = w') := by
      rw [Hid, ← hp, ← hl2]
      exact fun v => pnumber15_str (zs.drop 17) v (fun x hx => hb x (List.mem_of_mem_drop hx)) (by simp [hl])
    have HV := Lib.hid (show txL l = zs → rdB zs = true ∧ rdV zs = l from fun h => by
        have e : rdB zs = true := by unfold rdB; rw [hl2, h, hl]; simp
        exact ⟨e, by unfold rdV; rw [if_pos e]; exact hl2⟩)
    have HW := Lib.hid (show txL l ≠ zs → rdB zs = false ∧ rdV zs = zLb from fun h => by
        have e : rdB zs = false := by unfold rdB; rw [hl2]; simp [h]
        exact ⟨e, by unfold rdV; rw [e]; rfl⟩)
    have HE : Hid (((strOfNums (txL l)).toList == s.toList) = (txL l == zs)) := by rw [Hid, ← str_strB s, hz]; exact beq_strB (txL_byte l) hb
    obtain ⟨t, ht⟩ : ∃ t, strOfNums (txL l) = t := ⟨_, rfl⟩
    rw [ht] at HE
    replace ht := Lib.hid ht
    rw [hz]
    clear hz hb hl hp hl2 hs
    go_enter Tryd.func28, Tryd.ntmps28
    go_upto_region 1 with ((refine big_alloc rfl 34 rfl (lbA zLb) (by kernel_rfl) ?_; intro gK2 wK2 hlK2 nK2 hbK2; have K2 := Lib.hid nK2; have LK2 := Lib.hid (Nat.le_trans (HB.out).size hlK2); replace HB := Lib.hid (bstep HB.out hbK2); clear hlK2 nK2 hbK2; try simp only [Act.put, List.setIfInBounds_toArray, List.set_cons_zero, List.set_cons_succ]))
    go_upto_region 3 with fail
    refine region_tail' [some 9, some 10, some 11, some 12, some 13, some 14, some 15, some 16, some 17, some 18, some 19, some 20, some 21, some 22, some 23, some 24, some 25, some 26, some 27, some 4] (PhiRP s l p gK2 w.heap.size) (GRdP gK2 w) rfl (by kernel_rfl) (by kernel_rfl) (by kernel_rfl) (by kernel_rfl) (by kernel_rfl) (by kernel_rfl) PhiRP_keep GRdP_keep ⟨(K2.out).drew, bdrew HB.out⟩ ?_ ?_
    · refine ⟨?_, ?_, ?_, ?_, ?_, ?_, ?_, ?_, ?_, ?_, ?_, ?_, ?_, ?_, ?_, ?_, ?_, ?_, ?_, ?_, trivial⟩
      · as_aux_lemma =>
          -- 0
          intro ac u hG hk K hK
          have hco : ∀ c, ac.eval (.const c) = c := fun _ => rfl
          have hfu : ∀ f, ac.eval (.func f) = .func (.func f) #[] #[] := fun _ => rfl
          have hgl : ∀ g, ac.eval (.global g) = .pointer (some ⟨g, 0, none⟩) := fun _ => rfl
          have h0 : ac.eval (.tmp 0) = .string s := hk.old 0 (by kernel_rfl)
          refine wp_of_run (x := .string s) (w' := u) ?_ (hK _ _ rfl (Below.refl _ _))
          clear hk hK
          go_light
          generalize ac.eval = ρ at *
          go_simp
      · as_aux_lemma =>
          -- 1
          intro ac u hG hk K hK
          have hco : ∀ c, ac.eval (.const c) = c := fun _ => rfl
          have hfu : ∀ f, ac.eval (.func f) = .func (.func f) #[] #[] := fun _ => rfl
          have hgl : ∀ g, ac.eval (.global g) = .pointer (some ⟨g, 0, none⟩) := fun _ => rfl
          have h9 := hk.new 0 9 rfl (by kernel_rfl)
          replace h9 : ac.eval (.tmp 9) = .string s := h9
          have hsl := S0.out
          refine wp_of_run (x := .string (p 0)) (w' := u) ?_ (hK _ _ rfl (Below.refl _ _))
          clear hk hK
          go_light
          generalize ac.eval = ρ at *
          go_simp
      · as_aux_lemma =>
          -- 2
          intro ac u hG hk K hK
          have hco : ∀ c, ac.eval (.const c) = c := fun _ => rfl
          have hfu : ∀ f, ac.eval (.func f) = .func (.func f) #[] #[] := fun _ => rfl
          have hgl : ∀ g, ac.eval (.global g) = .pointer (some ⟨g, 0, none⟩) := fun _ => rfl
          have h10 := hk.new 1 10 rfl (by kernel_rfl)
          replace h10 : ac.eval (.tmp 10) = .string (p 0) := h10
          refine wp_of_call (f := 37) (args := #[.string (p 0)]) ?_ ?_
          · clear hk hK
            go_light
            generalize ac.eval = ρ at *
            go_simp
          · refine (C0.out _).mono ?_
            rintro e w1 ⟨rfl, hb1⟩
            exact ⟨_, rfl, hK _ _ rfl (by rw [hb1]; exact Below.refl _ _)⟩
      · as_aux_lemma =>
          -- 3
          intro ac u hG hk K hK
          have hco : ∀ c, ac.eval (.const c) = c := fun _ => rfl
          have hfu : ∀ f, ac.eval (.func f) = .func (.func f) #[] #[] := fun _ => rfl
          have hgl : ∀ g, ac.eval (.global g) = .pointer (some ⟨g, 0, none⟩) := fun _ => rfl
          have h0 : ac.eval (.tmp 0) = .string s := hk.old 0 (by kernel_rfl)
          refine wp_of_run (x := .string s) (w' := u) ?_ (hK _ _ rfl (Below.refl _ _))
          clear hk hK
          go_light
          generalize ac.eval = ρ at *
          go_simp
      · as_aux_lemma =>
          -- 4
          intro ac u hG hk K hK
          have hco : ∀ c, ac.eval (.const c) = c := fun _ => rfl
          have hfu : ∀ f, ac.eval (.func f) = .func (.func f) #[] #[] := fun _ => rfl
          have hgl : ∀ g, ac.eval (.global g) = .pointer (some ⟨g, 0, none⟩) := fun _ => rfl
          have h12 := hk.new 3 12 rfl (by kernel_rfl)
          replace h12 : ac.eval (.tmp 12) = .string s := h12
          have hsl := S1.out
          refine wp_of_run (x := .string (p 1)) (w' := u) ?_ (hK _ _ rfl (Below.refl _ _))
          clear hk hK
          go_light
          generalize ac.eval = ρ at *
          go_simp
      · as_aux_lemma =>
          -- 5
          intro ac u hG hk K hK
          have hco : ∀ c, ac.eval (.const c) = c := fun _ => rfl
          have hfu : ∀ f, ac.eval (.func f) = .func (.func f) #[] #[] := fun _ => rfl
          have hgl : ∀ g, ac.eval (.global g) = .pointer (some ⟨g, 0, none⟩) := fun _ => rfl
          have h13 := hk.new 4 13 rfl (by kernel_rfl)
          replace h13 : ac.eval (.tmp 13) = .string (p 1) := h13
          refine wp_of_call (f := 37) (args := #[.string (p 1)]) ?_ ?_
          · clear hk hK
            go_light
            generalize ac.eval = ρ at *
            go_simp
          · refine (C1.out _).mono ?_
            rintro e w1 ⟨rfl, hb1⟩
            exact ⟨_, rfl, hK _ _ rfl (by rw [hb1]; exact Below.refl _ _)⟩
      · as_aux_lemma =>
          -- 6
          intro ac u hG hk K hK
          have hco : ∀ c, ac.eval (.const c) = c := fun _ => rfl
          have hfu : ∀ f, ac.eval (.func f) = .func (.func f) #[] #[] := fun _ => rfl
          have hgl : ∀ g, ac.eval (.global g) = .pointer (some ⟨g, 0, none⟩) := fun _ => rfl
          have h0 : ac.eval (.tmp 0) = .string s := hk.old 0 (by kernel_rfl)
          refine wp_of_run (x := .string s) (w' := u) ?_ (hK _ _ rfl (Below.refl _ _))
          clear hk hK
          go_light
          generalize ac.eval = ρ at *
          go_simp
      · as_aux_lemma =>
          -- 7
          intro ac u hG hk K hK
          have hco : ∀ c, ac.eval (.const c) = c := fun _ => rfl
          have hfu : ∀ f, ac.eval (.func f) = .func (.func f) #[] #[] := fun _ => rfl
          have hgl : ∀ g, ac.eval (.global g) = .pointer (some ⟨g, 0, none⟩) := fun _ => rfl
          have h15 := hk.new 6 15 rfl (by kernel_rfl)
          replace h15 : ac.eval (.tmp 15) = .string s := h15
          have hsl := S2.out
          refine wp_of_run (x := .string (p 2)) (w' := u) ?_ (hK _ _ rfl (Below.refl _ _))
          clear hk hK
          go_light
          generalize ac.eval = ρ at *
          go_simp
      · as_aux_lemma =>
          -- 8
          intro ac u hG hk K hK
          have hco : ∀ c, ac.eval (.const c) = c := fun _ => rfl
          have hfu : ∀ f, ac.eval (.func f) = .func (.func f) #[] #[] := fun _ => rfl
          have hgl : ∀ g, ac.eval (.global g) = .pointer (some ⟨g, 0, none⟩) := fun _ => rfl
          have h16 := hk.new 7 16 rfl (by kernel_rfl)
          replace h16 : ac.eval (.tmp 16) = .string (p 2) := h16
          refine wp_of_call (f := 37) (args := #[.string (p 2)]) ?_ ?_
          · clear hk hK
            go_light
            generalize ac.eval = ρ at *
            go_simp
          · refine (C2.out _).mono ?_
            rintro e w1 ⟨rfl, hb1⟩
            exact ⟨_, rfl, hK _ _ rfl (by rw [hb1]; exact Below.refl _ _)⟩
      · as_aux_lemma =>
          -- 9
          intro ac u hG hk K hK
          have hco : ∀ c, ac.eval (.const c) = c := fun _ => rfl
          have hfu : ∀ f, ac.eval (.func f) = .func (.func f) #[] #[] := fun _ => rfl
          have hgl : ∀ g, ac.eval (.global g) = .pointer (some ⟨g, 0, none⟩) := fun _ => rfl
          have h0 : ac.eval (.tmp 0) = .string s := hk.old 0 (by kernel_rfl)
          refine wp_of_run (x := .string s) (w' := u) ?_ (hK _ _ rfl (Below.refl _ _))
          clear hk hK
          go_light
          generalize ac.eval = ρ at *
          go_simp
      · as_aux_lemma =>
          -- 10
          intro ac u hG hk K hK
          have hco : ∀ c, ac.eval (.const c) = c := fun _ => rfl
          have hfu : ∀ f, ac.eval (.func f) = .func (.func f) #[] #[] := fun _ => rfl
          have hgl : ∀ g, ac.eval (.global g) = .pointer (some ⟨g, 0, none⟩) := fun _ => rfl
          have h18 := hk.new 9 18 rfl (by kernel_rfl)
          replace h18 : ac.eval (.tmp 18) = .string s := h18
          have hsl := S3.out
          refine wp_of_run (x := .string (p 3)) (w' := u) ?_ (hK _ _ rfl (Below.refl _ _))
          clear hk hK
          go_light
          generalize ac.eval = ρ at *
          go_simp
      · as_aux_lemma =>
          -- 11
          intro ac u hG hk K hK
          have hco : ∀ c, ac.eval (.const c) = c := fun _ => rfl
          have hfu : ∀ f, ac.eval (.func f) = .func (.func f) #[] #[] := fun _ => rfl
          have hgl : ∀ g, ac.eval (.global g) = .pointer (some ⟨g, 0, none⟩) := fun _ => rfl
          have h19 := hk.new 10 19 rfl (by kernel_rfl)
          replace h19 : ac.eval (.tmp 19) = .string (p 3) := h19
          refine wp_of_call (f := 37) (args := #[.string (p 3)]) ?_ ?_
          · clear hk hK
            go_light
            generalize ac.eval = ρ at *
            go_simp
          · refine (C3.out _).mono ?_
            rintro e w1 ⟨rfl, hb1⟩
            exact ⟨_, rfl, hK _ _ rfl (by rw [hb1]; exact Below.refl _ _)⟩
      · as_aux_lemma =>
          -- 12
          intro ac u hG hk K hK
          have hco : ∀ c, ac.eval (.const c) = c := fun _ => rfl
          have hfu : ∀ f, ac.eval (.func f) = .func (.func f) #[] #[] := fun _ => rfl
          have hgl : ∀ g, ac.eval (.global g) = .pointer (some ⟨g, 0, none⟩) := fun _ => rfl
          have h0 : ac.eval (.tmp 0) = .string s := hk.old 0 (by kernel_rfl)
          refine wp_of_run (x := .string s) (w' := u) ?_ (hK _ _ rfl (Below.refl _ _))
          clear hk hK
          go_light
          generalize ac.eval = ρ at *
          go_simp
      · as_aux_lemma =>
          -- 13
          intro ac u hG hk K hK
          have hco : ∀ c, ac.eval (.const c) = c := fun _ => rfl
          have hfu : ∀ f, ac.eval (.func f) = .func (.func f) #[] #[] := fun _ => rfl
          have hgl : ∀ g, ac.eval (.global g) = .pointer (some ⟨g, 0, none⟩) := fun _ => rfl
          have h21 := hk.new 12 21 rfl (by kernel_rfl)
          replace h21 : ac.eval (.tmp 21) = .string s := h21
          have hsl := S4.out
          refine wp_of_run (x := .string (p 4)) (w' := u) ?_ (hK _ _ rfl (Below.refl _ _))
          clear hk hK
          go_light
          generalize ac.eval = ρ at *
          go_simp
      · as_aux_lemma =>
          -- 14
          intro ac u hG hk K hK
          have hco : ∀ c, ac.eval (.const c) = c := fun _ => rfl
          have hfu : ∀ f, ac.eval (.func f) = .func (.func f) #[] #[] := fun _ => rfl
          have hgl : ∀ g, ac.eval (.global g) = .pointer (some ⟨g, 0, none⟩) := fun _ => rfl
          have h22 := hk.new 13 22 rfl (by kernel_rfl)
          replace h22 : ac.eval (.tmp 22) = .string (p 4) := h22
          refine wp_of_call (f := 37) (args := #[.string (p 4)]) ?_ ?_
          · clear hk hK
            go_light
            generalize ac.eval = ρ at *
            go_simp
          · refine (C4.out _).mono ?_
            rintro e w1 ⟨rfl, hb1⟩
            exact ⟨_, rfl, hK _ _ rfl (by rw [hb1]; exact Below.refl _ _)⟩
      · as_aux_lemma =>
          -- 15
          intro ac u hG hk K hK
          have hco : ∀ c, ac.eval (.const c) = c := fun _ => rfl
          have hfu : ∀ f, ac.eval (.func f) = .func (.func f) #[] #[] := fun _ => rfl
          have hgl : ∀ g, ac.eval (.global g) = .pointer (some ⟨g, 0, none⟩) := fun _ => rfl
          have h0 : ac.eval (.tmp 0) = .string s := hk.old 0 (by kernel_rfl)
          refine wp_of_run (x := .string s) (w' := u) ?_ (hK _ _ rfl (Below.refl _ _))
          clear hk hK
          go_light
          generalize ac.eval = ρ at *
          go_simp
      · as_aux_lemma =>
          -- 16
          intro ac u hG hk K hK
          have hco : ∀ c, ac.eval (.const c) = c := fun _ => rfl
          have hfu : ∀ f, ac.eval (.func f) = .func (.func f) #[] #[] := fun _ => rfl
          have hgl : ∀ g, ac.eval (.global g) = .pointer (some ⟨g, 0, none⟩) := fun _ => rfl
          have h24 := hk.new 15 24 rfl (by kernel_rfl)
          replace h24 : ac.eval (.tmp 24) = .string s := h24
          have hsl := S5.out
          refine wp_of_run (x := .string (p 5)) (w' := u) ?_ (hK _ _ rfl (Below.refl _ _))
          clear hk hK
          go_light
          generalize ac.eval = ρ at *
          go_simp
      · as_aux_lemma =>
          -- 17
          intro ac u hG hk K hK
          have hco : ∀ c, ac.eval (.const c) = c := fun _ => rfl
          have hfu : ∀ f, ac.eval (.func f) = .func (.func f) #[] #[] := fun _ => rfl
          have hgl : ∀ g, ac.eval (.global g) = .pointer (some ⟨g, 0, none⟩) := fun _ => rfl
          have h25 := hk.new 16 25 rfl (by kernel_rfl)
          replace h25 : ac.eval (.tmp 25) = .string (p 5) := h25
          refine wp_of_call (f := 37) (args := #[.string (p 5)]) ?_ ?_
          · clear hk hK
            go_light
            generalize ac.eval = ρ at *
            go_simp
          · refine (C5.out _).mono ?_
            rintro e w1 ⟨rfl, hb1⟩
            exact ⟨_, rfl, hK _ _ rfl (by rw [hb1]; exact Below.refl _ _)⟩
      · as_aux_lemma =>
          -- 18
          intro ac u hG hk K hK
          have hco : ∀ c, ac.eval (.const c) = c := fun _ => rfl
          have hfu : ∀ f, ac.eval (.func f) = .func (.func f) #[] #[] := fun _ => rfl
          have hgl : ∀ g, ac.eval (.global g) = .pointer (some ⟨g, 0, none⟩) := fun _ => rfl
          have h11 := hk.new 2 11 rfl (by kernel_rfl)
          replace h11 : ac.eval (.tmp 11) = .int .i64 l.y := h11
          have h14 := hk.new 5 14 rfl (by kernel_rfl)
          replace h14 : ac.eval (.tmp 14) = .int .i64 l.m := h14
          have h17 := hk.new 8 17 rfl (by kernel_rfl)
          replace h17 : ac.eval (.tmp 17) = .int .i64 l.d := h17
          have h20 := hk.new 11 20 rfl (by kernel_rfl)
          replace h20 : ac.eval (.tmp 20) = .int .i64 l.hh := h20
          have h23 := hk.new 14 23 rfl (by kernel_rfl)
          replace h23 : ac.eval (.tmp 23) = .int .i64 l.mi := h23
          have h26 := hk.new 17 26 rfl (by kernel_rfl)
          replace h26 : ac.eval (.tmp 26) = .int .i64 l.se := h26
          have hf : Tryd.prog.built 34 [(0, .int .i64 l.y), (1, .int .i64 l.m), (2, .int .i64 l.d), (3, .int .i64 l.hh), (4, .int .i64 l.mi), (5, .int .i64 l.se)] = some #[.int .i64 l.y, .int .i64 l.m, .int .i64 l.d, .int .i64 l.hh, .int .i64 l.mi, .int .i64 l.se] := by kernel_rfl
          have hr := hK _ _ (show PhiRP s l p gK2 w.heap.size 18 u (.agg #[.int .i64 l.y, .int .i64 l.m, .int .i64 l.d, .int .i64 l.hh, .int .i64 l.mi, .int .i64 l.se]) from rfl) (Below.refl _ _)
          clear hk hK hco hfu hgl hG
          refine wp_build 34 #[(0, .tmp 11), (1, .tmp 14), (2, .tmp 17), (3, .tmp 20), (4, .tmp 23), (5, .tmp 26)] rfl ?_ ?_
          · simp only [List.map_toArray, Array.toList_map, List.toList_toArray, List.map_cons, List.map_nil, h11, h14, h17, h20, h23, h26]
            rw [hf]
            rfl
          · simp only [List.map_toArray, Array.toList_map, List.toList_toArray, List.map_cons, List.map_nil, h11, h14, h17, h20, h23, h26]
            rw [hf]
            exact hr
      · as_aux_lemma =>
          -- 19
          intro ac u hG hk K hK
          have hco : ∀ c, ac.eval (.const c) = c := fun _ => rfl
          have hfu : ∀ f, ac.eval (.func f) = .func (.func f) #[] #[] := fun _ => rfl
          have hgl : ∀ g, ac.eval (.global g) = .pointer (some ⟨g, 0, none⟩) := fun _ => rfl
          refine wp_of_run (x := .pointer (some ⟨u.heap.size, 0, none⟩)) (w' := u.alloc (.cells #[.int .i64 0, .int .i64 0, .int .i64 0, .int .i64 0, .int .i64 0, .int .i64 0] 34)) ?_ (hK _ _ (show PhiRP s l p gK2 w.heap.size 19 (u.alloc (.cells (lbA zLb) 34)) (.pointer (some ⟨u.heap.size, 0, none⟩)) from ⟨u.heap.size, rfl, hG.1.inside, hG.2.size, Holds.fresh u 34 (lbA zLb) rfl⟩) (bnew _ _))
          clear hk hK
          go_light
          generalize ac.eval = ρ at *
          go_simp
    · intro v w9 hG hv
      have v0 : v 0 = .string s := hv 0 (of_decide_eq_true (by kernel_rfl))
      have v1 : v 1 = .string (p 0) := hv 1 (of_decide_eq_true (by kernel_rfl))
      have v2 : v 2 = .int .i64 l.y := hv 2 (of_decide_eq_true (by kernel_rfl))
      have v3 : v 3 = .string s := hv 3 (of_decide_eq_true (by kernel_rfl))
      have v4 : v 4 = .string (p 1) := hv 4 (of_decide_eq_true (by kernel_rfl))
      have v5 : v 5 = .int .i64 l.m := hv 5 (of_decide_eq_true (by kernel_rfl))
      have v6 : v 6 = .string s := hv 6 (of_decide_eq_true (by kernel_rfl))
      have v7 : v 7 = .string (p 2) := hv 7 (of_decide_eq_true (by kernel_rfl))
      have v8 : v 8 = .int .i64 l.d := hv 8 (of_decide_eq_true (by kernel_rfl))
      have v9 : v 9 = .string s := hv 9 (of_decide_eq_true (by kernel_rfl))
      have v10 : v 10 = .string (p 3) := hv 10 (of_decide_eq_true (by kernel_rfl))
      have v11 : v 11 = .int .i64 l.hh := hv 11 (of_decide_eq_true (by kernel_rfl))
      have v12 : v 12 = .string s := hv 12 (of_decide_eq_true (by kernel_rfl))
      have v13 : v 13 = .string (p 4) := hv 13 (of_decide_eq_true (by kernel_rfl))
      have v14 : v 14 = .int .i64 l.mi := hv 14 (of_decide_eq_true (by kernel_rfl))
      have v15 : v 15 = .string s := hv 15 (of_decide_eq_true (by kernel_rfl))
      have v16 : v 16 = .string (p 5) := hv 16 (of_decide_eq_true (by kernel_rfl))
      have v17 : v 17 = .int .i64 l.se := hv 17 (of_decide_eq_true (by kernel_rfl))
      have v18 : v 18 = .agg #[.int .i64 l.y, .int .i64 l.m, .int .i64 l.d, .int .i64 l.hh, .int .i64 l.mi, .int .i64 l.se] := hv 18 (of_decide_eq_true (by kernel_rfl))
      have q19 := PhiRP_at19 (hv 19 (of_decide_eq_true (by kernel_rfl)))
      refine Exists.elim q19 (fun gK4 hh19 => ?_)
      have v19 := hh19.1
      have vh19 := hh19.2
      clear q19 hh19
      clear hv
      refine ⟨?_⟩
      simp only [putAll, if_true, Act.put, List.setIfInBounds_toArray, List.set_cons_zero, List.set_cons_succ, v0, v1, v2, v3, v4, v5, v6, v7, v8, v9, v10, v11, v12, v13, v14, v15, v16, v17, v18, v19]
      clear v0 v1 v2 v3 v4 v5 v6 v7 v8 v9 v10 v11 v12 v13 v14 v15 v16 v17 v18 v19
      have K4 := Lib.hid vh19.2.2
      have OK2K4 : Hid (gK2 ≠ gK4) := Lib.hid (Nat.ne_of_lt vh19.1)
      have LK4 := Lib.hid vh19.2.1
      clear vh19 K2 HB
      replace K2 := Lib.hid hG.1
      have HB := Lib.hid hG.2
      clear hG
      refine wp_big_store 34 _ _ rfl gK4 0 (lbA l).toList rfl rfl K4.out (by kernel_rfl) (by kernel_rfl) (of_decide_eq_true (by kernel_rfl)) (lbA l) (by kernel_rfl) ?_
      intro vK47 nK4 htK4
      replace K4 := Lib.hid nK4
      replace K2 := Lib.hid ((K2.out).touch htK4 OK2K4.out)
      replace HB := Lib.hid (btouch HB.out htK4 LK4.out)
      clear nK4 htK4
      try simp only [Act.put, List.setIfInBounds_toArray, List.set_cons_zero, List.set_cons_succ]
      by_cases hq : txL l = zs
      · have e0 : (t.toList == s.toList) = true := by rw [HE.out]; simp [hq]
        have e1 : (t.toList != s.toList) = false := by unfold bne; rw [e0]; rfl
        obtain ⟨h1, h2⟩ := HV.out hq
        have H1 := Lib.hid h1
        have H2 := Lib.hid h2
        clear hq h1 h2
        go_wp2_with ((refine big_whole rfl 34 _ rfl gK4 rfl K4.out Tryd.underlying34 rfl (by kernel_rfl) ?_; try simp only [Act.put, List.setIfInBounds_toArray, List.set_cons_zero, List.set_cons_succ]))
        refine (ptext15_any l _ ((HT.out).keptB HB.out)).mono ?_
        rintro e c1 ⟨rfl, hc1⟩
        replace K2 := Lib.hid ((K2.out).keptB hc1)
        replace K4 := Lib.hid ((K4.out).keptB hc1)
        replace HB := Lib.hid (bstep HB.out hc1)
        clear hc1
        rw [ht.out]
        go_upto_region 6 with fail
        go_wp2_with (first | (refine big_fill rfl 34 _ _ rfl gK2 (lbA l) rfl rfl K2.out (by kernel_rfl) (by kernel_rfl) (by kernel_rfl) ?_; intro vK29 nK2 htK2; replace K2 := Lib.hid nK2; replace K4 := Lib.hid ((K4.out).touch htK2 (Ne.symm OK2K4.out)); replace HB := Lib.hid (btouch HB.out htK2 LK2.out); clear nK2 htK2; try simp only [Act.put, List.setIfInBounds_toArray, List.set_cons_zero, List.set_cons_succ]) | (refine big_whole rfl 34 _ rfl gK4 rfl K4.out Tryd.underlying34 rfl (by kernel_rfl) ?_; try simp only [Act.put, List.setIfInBounds_toArray, List.set_cons_zero, List.set_cons_succ]))
        refine bodyPost_ret (v := .tuple #[.agg (lbA l), .bool true]) (results_two rfl _ _ gK2 _ _ _ _ rfl rfl K2.out Tryd.underlying34 rfl (by kernel_rfl)) rfl ?_
        rw [H1.out, H2.out]
        exact ⟨rfl, HB.out⟩
      · have e0 : (t.toList == s.toList) = false := by rw [HE.out]; simp [hq]
        have e1 : (t.toList != s.toList) = true := by unfold bne; rw [e0]; rfl
        obtain ⟨h1, h2⟩ := HW.out hq
        have H1 := Lib.hid h1
        have H2 := Lib.hid h2
        clear hq h1 h2
        go_wp2_with ((refine big_whole rfl 34 _ rfl gK4 rfl K4.out Tryd.underlying34 rfl (by kernel_rfl) ?_; try simp only [Act.put, List.setIfInBounds_toArray, List.set_cons_zero, List.set_cons_succ]))
        refine (ptext15_any l _ ((HT.out).keptB HB.out)).mono ?_
        rintro e c1 ⟨rfl, hc1⟩
        replace K2 := Lib.hid ((K2.out).keptB hc1)
        replace K4 := Lib.hid ((K4.out).keptB hc1)
        replace HB := Lib.hid (bstep HB.out hc1)
        clear hc1
        rw [ht.out]
        go_upto_region 5 with fail
        go_wp2_with (first | (refine big_fill rfl 34 _ _ rfl gK2 (lbA zLb) rfl rfl K2.out (by kernel_rfl) (by kernel_rfl) (by kernel_rfl) ?_; intro vK29 nK2 htK2; replace K2 := Lib.hid nK2; replace K4 := Lib.hid ((K4.out).touch htK2 (Ne.symm OK2K4.out)); replace HB := Lib.hid (btouch HB.out htK2 LK2.out); clear nK2 htK2; try simp only [Act.put, List.setIfInBounds_toArray, List.set_cons_zero, List.set_cons_succ]) | (refine big_build rfl 34 _ rfl (lbA zLb) (by kernel_rfl) ?_; try simp only [Act.put, List.setIfInBounds_toArray, List.set_cons_zero, List.set_cons_succ]))
        refine bodyPost_ret (v := .tuple #[.agg (lbA zLb), .bool false]) (results_two rfl _ _ gK2 _ _ _ _ rfl rfl K2.out Tryd.underlying34 rfl (by kernel_rfl)) rfl ?_
        rw [H1.out, H2.out]
        exact ⟨rfl, HB.out⟩
  · unfold maxLen at hm
    have hL : ((s.size : Int) != 19) = true := by simp; omega
    obtain ⟨h1, h2⟩ := rdB_short (zs := strB s) (by rw [strB_length]; exact hs)
    rw [h1, h2]
    clear h1 h2 hs
    go_enter Tryd.func28, Tryd.ntmps28
    go_upto_region 1 with ((refine big_alloc rfl 34 rfl (lbA zLb) (by kernel_rfl) ?_; intro gK2 wK2 hlK2 nK2 hbK2; have K2 := Lib.hid nK2; have LK2 := Lib.hid (Nat.le_trans (HB.out).size hlK2); replace HB := Lib.hid (bstep HB.out hbK2); clear hlK2 nK2 hbK2; try simp only [Act.put, List.setIfInBounds_toArray, List.set_cons_zero, List.set_cons_succ]))
    go_upto_region 2 with fail
    go_wp2_with (first | (refine big_fill rfl 34 _ _ rfl gK2 (lbA zLb) rfl rfl K2.out (by kernel_rfl) (by kernel_rfl) (by kernel_rfl) ?_; intro vK29 nK2 htK2; replace K2 := Lib.hid nK2; replace HB := Lib.hid (btouch HB.out htK2 LK2.out); clear nK2 htK2; try simp only [Act.put, List.setIfInBounds_toArray, List.set_cons_zero, List.set_cons_succ]) | (refine big_build rfl 34 _ rfl (lbA zLb) (by kernel_rfl) ?_; try simp only [Act.put, List.setIfInBounds_toArray, List.set_cons_zero, List.set_cons_succ]))
    refine bodyPost_ret (v := .tuple #[.agg (lbA zLb), .bool false]) (results_two rfl _ _ gK2 _ _ _ _ rfl rfl K2.out Tryd.underlying34 rfl (by kernel_rfl)) rfl ?_
    exact ⟨rfl, HB.out⟩

end Go.Proofs.YtfdadebddfhpdaaDoor
