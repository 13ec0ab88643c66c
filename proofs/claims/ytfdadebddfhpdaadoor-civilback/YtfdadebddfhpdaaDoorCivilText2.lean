/- The walks over the reference's number and digits. -/
import Derived.Test.YtfdadebddfhpdaaDoorCivilText
import Derived.Test.YtfdadebddfhpdaaDoorFreeOrder
import Derived.Deep.Light
namespace Go.Proofs.YtfdadebddfhpdaaDoor
set_option maxRecDepth 100000
open Go.RowKit
set_option linter.unusedVariables false
set_option linter.unusedSimpArgs false


theorem numR_no {zs : List Int} {k : Nat} (hk : k < zs.length) (h : digB (zs.getD k 0) = false) : numR zs = -1 := by
  unfold numR
  rw [if_neg]
  intro ha
  have := List.all_eq_true.1 ha _ (mem_getD hk)
  rw [h] at this
  cases this
theorem numR_yes {zs : List Int} (h : ∀ k, k < zs.length → digB (zs.getD k 0) = true) : numR zs = numN zs := by
  unfold numR
  rw [if_pos]
  rw [List.all_eq_true]
  intro z hz
  obtain ⟨k, hk, rfl⟩ := List.mem_iff_getElem.1 hz
  have := h k hk
  simpa [List.getD, List.getElem?_eq_getElem hk] using this

set_option maxHeartbeats 1000000 in
theorem rnumber15_any (s : ByteArray) (w : World) (hs : s.size ≤ 4) :
    Calls Tryd.prog 38 #[.string s] w fun e w' => e = .returned (.int .i64 (numR (strB s))) ∧ w = w' := by
  obtain ⟨zs, HZ⟩ : ∃ zs, Hid (strB s = zs) := ⟨_, Lib.hid rfl⟩
  have HBy : Hid (∀ z ∈ zs, isByte z) := by rw [Hid, ← HZ.out]; exact strB_byte s
  obtain ⟨L, hL⟩ : ∃ L, s.size = L := ⟨_, rfl⟩
  have HL : Hid (zs.length = L) := by rw [Hid, ← HZ.out, strB_length]; exact hL
  have HI : Hid (∀ (k : Nat), k < L → ∀ w, (Instr.index 9 (.string s) (.int .i64 k)).run Tryd.prog w = .ok (.int .u8 (zs.getD k 0)) w) := by
    rw [Hid, ← HZ.out]
    exact fun k hk w => index_strB s k k rfl (by omega) w
  rw [HZ.out]
  have hlen : (s.size : Int) = (L : Int) := by omega
  rw [hL] at hs
  have hl4 : L ≤ 4 := hs
  clear hs hL
  go_enter Tryd.func38, Tryd.ntmps38
  go_wp2
  go_loopw [3, 4] (fun n i v => ∃ (k : Nat) (m : Int), k ≤ L ∧ i = .int .i64 k ∧ n = .int .i64 m ∧ Hid (numN (zs.take k) = m) ∧ Hid (∀ j, j < k → digB (zs.getD j 0) = true) ∧ Hid (w = v)) (fun _ i _ => L - (intOf i).toNat)
  case atStart => exact ⟨0, 0, by omega, rfl, rfl, Lib.hid rfl, Lib.hid (fun j hj => by omega), Lib.hid rfl⟩
  case round =>
    obtain ⟨k, m, hk, rfl, rfl, HM, HD, HW⟩ := hrel
    have hb := numN_bd (zs := zs.take k) (fun z hz => HBy.out z (List.mem_of_mem_take hz)) (by rw [List.length_take]; omega)
    rw [HM.out] at hb
    by_cases hlt : k < L
    · have dk : decide ((k : Int) < (L : Int)) = true := decide_eq_true (by omega)
      have hx := HI.out k hlt
      have hz := HBy.out _ (mem_getD (zs := zs) (k := k) (by rw [HL.out]; exact hlt))
      have HN := Lib.hid (numN_take zs (k := k) (by rw [HL.out]; exact hlt))
      have HNO : Hid (digB (zs.getD k 0) = false → numR zs = -1) := Lib.hid (fun h => numR_no (by rw [HL.out]; exact hlt) h)
      obtain ⟨z, HZZ⟩ : ∃ z, Hid (zs.getD k 0 = z) := ⟨_, Lib.hid rfl⟩
      rw [HZZ.out] at hx hz HN HNO
      rw [HM.out] at HN
      unfold isByte at hz
      by_cases g0 : z < 48
      · have d0 : decide (z < 48) = true := decide_eq_true g0
        have HX : Hid (numR zs = -1) := Lib.hid (HNO.out (by unfold digB; rw [decide_eq_false (by omega)]; rfl))
        clear g0
        go_wp2
        go_ret
        exact ⟨by rw [HX.out]; rfl, HW.out⟩
      · have d0 : decide (z < 48) = false := decide_eq_false g0
        by_cases g1 : 57 < z
        · have d1 : decide (57 < z) = true := decide_eq_true g1
          have d2 : decide (z > 57) = true := d1
          have HX : Hid (numR zs = -1) := Lib.hid (HNO.out (by unfold digB; rw [decide_eq_false (by omega : ¬ z ≤ 57), Bool.and_false]))
          clear g0 g1
          go_wp2
          go_ret
          exact ⟨by rw [HX.out]; rfl, HW.out⟩
        · have d1 : decide (57 < z) = false := decide_eq_false g1
          have d2 : decide (z > 57) = false := d1
          have HY : Hid (digB z = true) := Lib.hid (by unfold digB; rw [decide_eq_true (by omega : 48 ≤ z), decide_eq_true (by omega : z ≤ 57)]; rfl)
          clear g0 g1
          go_wp2
          go_roundw
          case rel => exact ⟨k + 1, m * 10 + z - 48, by omega, by go_num, by go_num, HN, Lib.hid (fun j hj => by
              by_cases hjk : j = k
              · subst hjk; rw [HZZ.out]; exact HY.out
              · exact HD.out j (by omega)), HW⟩
          case measure => simp [intOf]; omega
    · obtain rfl : k = L := by omega
      have dk : decide ((k : Int) < (k : Int)) = false := decide_eq_false (by omega)
      have HX : Hid (numR zs = m) := by
        have := HM.out
        rw [List.take_of_length_le (by rw [HL.out]; exact Nat.le_refl _)] at this
        rw [Hid, numR_yes (fun j hj => HD.out j (by rw [← HL.out]; exact hj))]
        exact this
      clear hlt
      go_wp2
      go_ret
      exact ⟨by rw [HX.out]; rfl, HW.out⟩

/-- what each operation yields -/
def PhiDg (n : Int) (k : Nat) (p : ByteArray) (q : ByteArray) (r : ByteArray) : Nat → World → Value → Prop
  | 0, _, x => x = .int .i64 (n)
  | 1, _, x => x = .int .i64 (n / 10)
  | 2, _, x => x = .int .i64 (((k : Int) + 1))
  | 3, _, x => x = .int .i64 ((k : Int))
  | 4, _, x => x = .string (p)
  | 5, _, x => x = .int .i64 (n)
  | 6, _, x => x = .int .i64 (n % 10)
  | 7, _, x => x = .int .i64 (48 + n % 10)
  | 8, _, x => x = .int .u8 (48 + n % 10)
  | 9, w, x => ∃ g, x = .slice (some ⟨g, 0, none⟩) 1 1 ∧ Holds w g 5 #[.int .u8 (48 + n % 10)]
  | 10, _, x => x = .string (q)
  | 11, _, x => x = .string (r)
  | 12, _, x => x = .string (r)
  | _, _, _ => True
theorem PhiDg_keep {n : Int} {k : Nat} {p : ByteArray} {q : ByteArray} {r : ByteArray} (i : Nat) (w w' : World) (x : Value) (hb : Below w.heap.size w w') (hp : PhiDg n k p q r i w x) : PhiDg n k p q r i w' x := by
  match i, hp with
  | 0, hp => exact hp
  | 1, hp => exact hp
  | 2, hp => exact hp
  | 3, hp => exact hp
  | 4, hp => exact hp
  | 5, hp => exact hp
  | 6, hp => exact hp
  | 7, hp => exact hp
  | 8, hp => exact hp
  | 9, hp => obtain ⟨g, h1, h2⟩ := hp; exact ⟨g, h1, h2.keptB hb⟩
  | 10, hp => exact hp
  | 11, hp => exact hp
  | 12, hp => exact hp
  | n + 13, hp => trivial
theorem PhiDg_at9 {n : Int} {k : Nat} {p : ByteArray} {q : ByteArray} {r : ByteArray} {w : World} {x : Value} (h : PhiDg n k p q r 9 w x) : ∃ g, x = .slice (some ⟨g, 0, none⟩) 1 1 ∧ Holds w g 5 #[.int .u8 (48 + n % 10)] := h
def GDg (w0 w : World) : Prop := Below w0.heap.size w0 w
theorem GDg_keep {w0 : World} (w w' : World) (hb : Below w.heap.size w w') (hg : GDg w0 w) : GDg w0 w' := bstep hg hb

set_option maxRecDepth 100000 in
set_option maxHeartbeats 2000000 in
theorem rdigits15_any (k : Nat) (hk : k ≤ 4) : ∀ (n : Int) (h0 : 0 ≤ n) (h1 : n ≤ 1000000) (w : World),
    Calls Tryd.prog 41 #[.int .i64 n, .int .i64 (k : Int)] w fun e w' => e = .returned (.string (strOfNums (dgL k n))) ∧ Below w.heap.size w w' := by
  induction k with
  | zero =>
    intro n h0 h1 w
    have HB := Lib.hid (Below.refl w.heap.size w)
    have HX : Hid (strOfNums (dgL 0 n) = { data := #[] }) := Lib.hid rfl
    go_enter Tryd.func41, Tryd.ntmps41
    go_wp2
    go_ret
    exact ⟨by rw [HX.out]; rfl, HB.out⟩
  | succ k ih =>
    intro n h0 h1 w
    have hk3 : k ≤ 3 := by omega
    have HB := Lib.hid (Below.refl w.heap.size w)
    have C := ih (by omega) (n / 10) (by omega) (by omega)
    have hkk : ((k + 1 : Nat) : Int) = (k : Int) + 1 := by omega
    rw [hkk]
    obtain ⟨p, HP⟩ : ∃ p, Hid (strOfNums (dgL k (n / 10)) = p) := ⟨_, Lib.hid rfl⟩
    obtain ⟨q, HQ⟩ : ∃ q, Hid (strOfNums [48 + n % 10] = q) := ⟨_, Lib.hid rfl⟩
    obtain ⟨r, HR⟩ : ∃ r, Hid (strOfNums (dgL (k + 1) n) = r) := ⟨_, Lib.hid rfl⟩
    have HA : Hid (∀ w, (Op.stringOp .add p q).run Tryd.prog w = .ok (.string r) w) := by
      rw [Hid, ← HP.out, ← HQ.out, ← HR.out]
      exact fun w => add_str (dgL k (n / 10)) [48 + n % 10] (by rw [dgL_length]; simp; omega) w
    rw [HP.out] at C
    rw [HR.out]
    replace C := Lib.hid C
    have Q1 : Hid (IntKind.i64.wrap (n.tdiv 10) = n / 10) := Lib.hid (by rw [Int.tdiv_eq_ediv_of_nonneg h0, IntKind.wrap_i64]; omega)
    have Q2 : Hid (IntKind.i64.wrap (n.tmod 10) = n % 10) := Lib.hid (by rw [Int.tmod_eq_emod_of_nonneg h0, IntKind.wrap_i64]; omega)
    have Q3 : Hid (IntKind.i64.wrap ((k : Int) + 1 - 1) = (k : Int)) := Lib.hid (by rw [IntKind.wrap_i64]; omega)
    have Q3b : Hid ((k : Int) + 1 - 1 = (k : Int)) := Lib.hid (by omega)
    have Q4 : Hid (IntKind.i64.wrap (48 + n % 10) = 48 + n % 10) := Lib.hid (by rw [IntKind.wrap_i64]; omega)
    have Q4b : Hid (wrap64 (48 + n % 10) = 48 + n % 10) := Lib.hid (by unfold wrap64; omega)
    have Q5 : Hid (IntKind.u8.wrap (48 + n % 10) = 48 + n % 10) := Lib.hid (by rw [IntKind.wrap_u8']; omega)
    have d0 : ((k : Int) + 1 == 0) = false := by simp; omega
    go_enter Tryd.func41, Tryd.ntmps41
    go_upto_region 3 with fail
    clear d0
    refine region_free' [some 7, some 8, some 9, some 10, some 11, some 12, some 13, some 14, some 15, some 16, some 17, some 18, some 4] (PhiDg n k p q r) (GDg w) (by kernel_rfl) (by kernel_rfl) (by kernel_rfl) (by kernel_rfl) (by kernel_rfl) PhiDg_keep GDg_keep (bdrew HB.out) ?_ ?_
    · refine ⟨?_, ?_, ?_, ?_, ?_, ?_, ?_, ?_, ?_, ?_, ?_, ?_, ?_, trivial⟩
      · as_aux_lemma =>
          -- 0
          intro ac u hG hk K hK
          have hco : ∀ c, ac.eval (.const c) = c := fun _ => rfl
          have hfu : ∀ f, ac.eval (.func f) = .func (.func f) #[] #[] := fun _ => rfl
          have hgl : ∀ g, ac.eval (.global g) = .pointer (some ⟨g, 0, none⟩) := fun _ => rfl
          have h0 : ac.eval (.tmp 0) = .int .i64 n := hk.old 0 (by kernel_rfl)
          refine wp_of_run (x := .int .i64 (n)) (w' := u) ?_ (hK _ _ rfl (Below.refl _ _))
          clear hk hK
          go_light
          generalize ac.eval = ρ at *
          go_simp
      · as_aux_lemma =>
          -- 1
          intro ac u hG hk K hK
          have hco : ∀ c, ac.eval (.const c) = c := fun _ => rfl
          have hfu : ∀ f, ac.eval (.func f) = .func (.func f) #[] #[] := fun _ => rfl
          have hgl : ∀ g, ac.eval (.global g) = .pointer (some ⟨g, 0, none⟩) := fun _ => rfl
          have h7 := hk.new 0 7 rfl (by kernel_rfl)
          replace h7 : ac.eval (.tmp 7) = .int .i64 (n) := h7
          have q1 := Q1.out
          refine wp_of_run (x := .int .i64 (n / 10)) (w' := u) ?_ (hK _ _ rfl (Below.refl _ _))
          clear hk hK
          go_light
          generalize ac.eval = ρ at *
          go_simp
      · as_aux_lemma =>
          -- 2
          intro ac u hG hk K hK
          have hco : ∀ c, ac.eval (.const c) = c := fun _ => rfl
          have hfu : ∀ f, ac.eval (.func f) = .func (.func f) #[] #[] := fun _ => rfl
          have hgl : ∀ g, ac.eval (.global g) = .pointer (some ⟨g, 0, none⟩) := fun _ => rfl
          have h1 : ac.eval (.tmp 1) = .int .i64 ((k : Int) + 1) := hk.old 1 (by kernel_rfl)
          refine wp_of_run (x := .int .i64 (((k : Int) + 1))) (w' := u) ?_ (hK _ _ rfl (Below.refl _ _))
          clear hk hK
          go_light
          generalize ac.eval = ρ at *
          go_simp
      · as_aux_lemma =>
          -- 3
          intro ac u hG hk K hK
          have hco : ∀ c, ac.eval (.const c) = c := fun _ => rfl
          have hfu : ∀ f, ac.eval (.func f) = .func (.func f) #[] #[] := fun _ => rfl
          have hgl : ∀ g, ac.eval (.global g) = .pointer (some ⟨g, 0, none⟩) := fun _ => rfl
          have h9 := hk.new 2 9 rfl (by kernel_rfl)
          replace h9 : ac.eval (.tmp 9) = .int .i64 (((k : Int) + 1)) := h9
          have q3 := Q3.out
          have q3b := Q3b.out
          refine wp_of_run (x := .int .i64 ((k : Int))) (w' := u) ?_ (hK _ _ rfl (Below.refl _ _))
          clear hk hK
          go_light
          generalize ac.eval = ρ at *
          go_simp
          rw [IntKind.wrap_i64]
          omega
      · as_aux_lemma =>
          -- 4
          intro ac u hG hk K hK
          have hco : ∀ c, ac.eval (.const c) = c := fun _ => rfl
          have hfu : ∀ f, ac.eval (.func f) = .func (.func f) #[] #[] := fun _ => rfl
          have hgl : ∀ g, ac.eval (.global g) = .pointer (some ⟨g, 0, none⟩) := fun _ => rfl
          have h8 := hk.new 1 8 rfl (by kernel_rfl)
          replace h8 : ac.eval (.tmp 8) = .int .i64 (n / 10) := h8
          have h10 := hk.new 3 10 rfl (by kernel_rfl)
          replace h10 : ac.eval (.tmp 10) = .int .i64 ((k : Int)) := h10
          refine wp_of_call (f := 41) (args := #[.int .i64 (n / 10), .int .i64 (k : Int)]) ?_ ?_
          · clear hk hK
            go_light
            generalize ac.eval = ρ at *
            go_simp
          · refine (C.out _).mono ?_
            rintro e w1 ⟨rfl, hb1⟩
            exact ⟨_, rfl, hK _ _ rfl hb1⟩
      · as_aux_lemma =>
          -- 5
          intro ac u hG hk K hK
          have hco : ∀ c, ac.eval (.const c) = c := fun _ => rfl
          have hfu : ∀ f, ac.eval (.func f) = .func (.func f) #[] #[] := fun _ => rfl
          have hgl : ∀ g, ac.eval (.global g) = .pointer (some ⟨g, 0, none⟩) := fun _ => rfl
          have h0 : ac.eval (.tmp 0) = .int .i64 n := hk.old 0 (by kernel_rfl)
          refine wp_of_run (x := .int .i64 (n)) (w' := u) ?_ (hK _ _ rfl (Below.refl _ _))
          clear hk hK
          go_light
          generalize ac.eval = ρ at *
          go_simp
      · as_aux_lemma =>
          -- 6
          intro ac u hG hk K hK
          have hco : ∀ c, ac.eval (.const c) = c := fun _ => rfl
          have hfu : ∀ f, ac.eval (.func f) = .func (.func f) #[] #[] := fun _ => rfl
          have hgl : ∀ g, ac.eval (.global g) = .pointer (some ⟨g, 0, none⟩) := fun _ => rfl
          have h12 := hk.new 5 12 rfl (by kernel_rfl)
          replace h12 : ac.eval (.tmp 12) = .int .i64 (n) := h12
          have q2 := Q2.out
          refine wp_of_run (x := .int .i64 (n % 10)) (w' := u) ?_ (hK _ _ rfl (Below.refl _ _))
          clear hk hK
          go_light
          generalize ac.eval = ρ at *
          go_simp
          exact Int.tmod_eq_emod_of_nonneg h0
      · as_aux_lemma =>
          -- 7
          intro ac u hG hk K hK
          have hco : ∀ c, ac.eval (.const c) = c := fun _ => rfl
          have hfu : ∀ f, ac.eval (.func f) = .func (.func f) #[] #[] := fun _ => rfl
          have hgl : ∀ g, ac.eval (.global g) = .pointer (some ⟨g, 0, none⟩) := fun _ => rfl
          have h13 := hk.new 6 13 rfl (by kernel_rfl)
          replace h13 : ac.eval (.tmp 13) = .int .i64 (n % 10) := h13
          have q4 := Q4.out
          have q4b := Q4b.out
          refine wp_of_run (x := .int .i64 (48 + n % 10)) (w' := u) ?_ (hK _ _ rfl (Below.refl _ _))
          clear hk hK
          go_light
          generalize ac.eval = ρ at *
          go_simp
      · as_aux_lemma =>
          -- 8
          intro ac u hG hk K hK
          have hco : ∀ c, ac.eval (.const c) = c := fun _ => rfl
          have hfu : ∀ f, ac.eval (.func f) = .func (.func f) #[] #[] := fun _ => rfl
          have hgl : ∀ g, ac.eval (.global g) = .pointer (some ⟨g, 0, none⟩) := fun _ => rfl
          have h14 := hk.new 7 14 rfl (by kernel_rfl)
          replace h14 : ac.eval (.tmp 14) = .int .i64 (48 + n % 10) := h14
          have q5 := Q5.out
          refine wp_of_run (x := .int .u8 (48 + n % 10)) (w' := u) ?_ (hK _ _ rfl (Below.refl _ _))
          clear hk hK
          go_light
          generalize ac.eval = ρ at *
          go_simp
      · as_aux_lemma =>
          -- 9
          intro ac u hG hk K hK
          have hco : ∀ c, ac.eval (.const c) = c := fun _ => rfl
          have hfu : ∀ f, ac.eval (.func f) = .func (.func f) #[] #[] := fun _ => rfl
          have hgl : ∀ g, ac.eval (.global g) = .pointer (some ⟨g, 0, none⟩) := fun _ => rfl
          have h15 := hk.new 8 15 rfl (by kernel_rfl)
          replace h15 : ac.eval (.tmp 15) = .int .u8 (48 + n % 10) := h15
          refine wp_of_run (x := .slice (some ⟨u.heap.size, 0, none⟩) 1 1) (w' := u.alloc (.cells #[.int .u8 (48 + n % 10)] 5)) ?_ (hK _ _ ⟨_, rfl, Holds.fresh u 5 #[.int .u8 (48 + n % 10)] rfl⟩ (bnew _ _))
          clear hk hK
          go_light
          generalize ac.eval = ρ at *
          go_simp
      · as_aux_lemma =>
          -- 10
          intro ac u hG hk K hK
          have hco : ∀ c, ac.eval (.const c) = c := fun _ => rfl
          have hfu : ∀ f, ac.eval (.func f) = .func (.func f) #[] #[] := fun _ => rfl
          have hgl : ∀ g, ac.eval (.global g) = .pointer (some ⟨g, 0, none⟩) := fun _ => rfl
          have h16 := hk.new 9 16 rfl (by kernel_rfl)
          obtain ⟨g, h16, hh16⟩ := h16
          replace h16 : ac.eval (.tmp 16) = .slice (some ⟨g, 0, none⟩) 1 1 := h16
          have hcv := conv_one u g (48 + n % 10) (hh16.reads (i := 0) rfl)
          rw [HQ.out] at hcv
          clear hh16
          refine wp_of_run (x := .string (q)) (w' := u) ?_ (hK _ _ rfl (Below.refl _ _))
          clear hk hK
          go_light
          generalize ac.eval = ρ at *
          go_simp
      · as_aux_lemma =>
          -- 11
          intro ac u hG hk K hK
          have hco : ∀ c, ac.eval (.const c) = c := fun _ => rfl
          have hfu : ∀ f, ac.eval (.func f) = .func (.func f) #[] #[] := fun _ => rfl
          have hgl : ∀ g, ac.eval (.global g) = .pointer (some ⟨g, 0, none⟩) := fun _ => rfl
          have h11 := hk.new 4 11 rfl (by kernel_rfl)
          replace h11 : ac.eval (.tmp 11) = .string (p) := h11
          have h17 := hk.new 10 17 rfl (by kernel_rfl)
          replace h17 : ac.eval (.tmp 17) = .string (q) := h17
          have hadd := HA.out
          refine wp_of_run (x := .string (r)) (w' := u) ?_ (hK _ _ rfl (Below.refl _ _))
          clear hk hK
          go_light
          generalize ac.eval = ρ at *
          go_simp
      · as_aux_lemma =>
          -- 12
          intro ac u hG hk K hK
          have hco : ∀ c, ac.eval (.const c) = c := fun _ => rfl
          have hfu : ∀ f, ac.eval (.func f) = .func (.func f) #[] #[] := fun _ => rfl
          have hgl : ∀ g, ac.eval (.global g) = .pointer (some ⟨g, 0, none⟩) := fun _ => rfl
          have h18 := hk.new 11 18 rfl (by kernel_rfl)
          replace h18 : ac.eval (.tmp 18) = .string (r) := h18
          refine wp_of_run (x := .string (r)) (w' := u) ?_ (hK _ _ rfl (Below.refl _ _))
          clear hk hK
          go_light
          generalize ac.eval = ρ at *
          go_simp
    · intro v w9 hG hv
      have v0 : v 0 = .int .i64 (n) := hv 0 (of_decide_eq_true (by kernel_rfl))
      have v1 : v 1 = .int .i64 (n / 10) := hv 1 (of_decide_eq_true (by kernel_rfl))
      have v2 : v 2 = .int .i64 (((k : Int) + 1)) := hv 2 (of_decide_eq_true (by kernel_rfl))
      have v3 : v 3 = .int .i64 ((k : Int)) := hv 3 (of_decide_eq_true (by kernel_rfl))
      have v4 : v 4 = .string (p) := hv 4 (of_decide_eq_true (by kernel_rfl))
      have v5 : v 5 = .int .i64 (n) := hv 5 (of_decide_eq_true (by kernel_rfl))
      have v6 : v 6 = .int .i64 (n % 10) := hv 6 (of_decide_eq_true (by kernel_rfl))
      have v7 : v 7 = .int .i64 (48 + n % 10) := hv 7 (of_decide_eq_true (by kernel_rfl))
      have v8 : v 8 = .int .u8 (48 + n % 10) := hv 8 (of_decide_eq_true (by kernel_rfl))
      have q9 := PhiDg_at9 (hv 9 (of_decide_eq_true (by kernel_rfl)))
      refine Exists.elim q9 (fun g9 hh9 => ?_)
      have v9 := hh9.1
      have vh9 := hh9.2
      clear q9 hh9
      have v10 : v 10 = .string (q) := hv 10 (of_decide_eq_true (by kernel_rfl))
      have v11 : v 11 = .string (r) := hv 11 (of_decide_eq_true (by kernel_rfl))
      have v12 : v 12 = .string (r) := hv 12 (of_decide_eq_true (by kernel_rfl))
      clear hv
      simp only [putAll, if_true, Act.put, List.setIfInBounds_toArray, List.set_cons_zero, List.set_cons_succ, v0, v1, v2, v3, v4, v5, v6, v7, v8, v9, v10, v11, v12]
      clear v0 v1 v2 v3 v4 v5 v6 v7 v8 v9 v10 v11 v12
      go_wp2
      go_ret
      exact ⟨rfl, hG⟩

end Go.Proofs.YtfdadebddfhpdaaDoor
