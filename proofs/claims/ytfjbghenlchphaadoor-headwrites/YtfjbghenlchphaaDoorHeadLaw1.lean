/- The walk over the law HeadWrites. -/
import Derived.Test.YtfjbghenlchphaaDoorHeadWords
import Derived.Test.YtfjbghenlchphaaDoorByHand
namespace Go.Proofs.YtfjbghenlchphaaDoor
open Go.RowKit
set_option linter.unusedVariables false

set_option maxRecDepth 100000 in
set_option maxHeartbeats 4000000 in
theorem writes5_walk (h : Hd) (hok : h.p.c.ok) (hf : In64 h.f) (hc : In64 h.c) (w : World) (hl : Lens w) :
    Calls Tryd.prog 3 #[.agg #[.int .i64 h.t, .int .i64 h.d, .int .i64 h.f, .int .i64 h.c, .int .u8 h.p.c.b0, .int .u8 h.p.c.b1, .int .u8 h.p.c.b2, .int .u8 h.p.c.b3, .int .u8 h.p.c.b4, .int .u8 h.p.c.b5, .int .u8 h.p.c.b6, .int .u8 h.p.c.b7, .int .i64 h.p.n, .int .i64 h.s, .int .i64 h.l]] w fun e w' => e = .returned (.bool true) ∧ Below w.heap.size w w' := by
  obtain ⟨R, HR⟩ : ∃ R, Hid (h.right = R) := ⟨_, Lib.hid rfl⟩
  obtain ⟨m, Hm⟩ : ∃ m, Hid (longN h.t = m) := ⟨_, Lib.hid rfl⟩
  have C1 : Hid (∀ v, Lens v → Calls Tryd.prog 13 #[.agg #[.int .i64 h.t, .int .i64 h.d, .int .i64 h.f, .int .i64 h.c, .int .u8 h.p.c.b0, .int .u8 h.p.c.b1, .int .u8 h.p.c.b2, .int .u8 h.p.c.b3, .int .u8 h.p.c.b4, .int .u8 h.p.c.b5, .int .u8 h.p.c.b6, .int .u8 h.p.c.b7, .int .i64 h.p.n, .int .i64 h.s, .int .i64 h.l]] v fun e w' => e = .returned (.bool R) ∧ Below v.heap.size v w') := fun v hv => (right_any h v hv hf.1 hf.2).mono fun _ _ ⟨he, hw⟩ => ⟨by rw [he, HR.out], hw⟩
  have C2 : Hid (∀ v, Lens v → Calls Tryd.prog 14 #[.agg #[.int .i64 h.t, .int .i64 h.d, .int .i64 h.f, .int .i64 h.c, .int .u8 h.p.c.b0, .int .u8 h.p.c.b1, .int .u8 h.p.c.b2, .int .u8 h.p.c.b3, .int .u8 h.p.c.b4, .int .u8 h.p.c.b5, .int .u8 h.p.c.b6, .int .u8 h.p.c.b7, .int .i64 h.p.n, .int .i64 h.s, .int .i64 h.l]] v fun e w' => e = .returned (.bool R) ∧ Below v.heap.size v w') := fun v hv => (rright5_any h v).mono fun _ _ ⟨he, hw⟩ => ⟨by rw [he, HR.out], hw⟩
  have C3 : Hid (∀ v, Lens v → Calls Tryd.prog 15 #[.int .i64 h.t] v fun e w' => e = .returned (.int .i64 m) ∧ Below v.heap.size v w') := fun v hv => (long_any h.t v hv).mono fun _ _ ⟨he, hw⟩ => ⟨by rw [he, Hm.out], hw ▸ Below.refl _ _⟩
  have C4 : Hid (∀ v, Lens v → Calls Tryd.prog 16 #[.int .i64 h.t] v fun e w' => e = .returned (.int .i64 m) ∧ Below v.heap.size v w') := fun v hv => (rlong_any h.t v).mono fun _ _ ⟨he, hw⟩ => ⟨by rw [he, Hm.out], hw ▸ Below.refl _ _⟩
  have HL := Lib.hid hl
  clear hl
  cases R
  · have C0 := Lib.hid (fun v (hv : Lens v) => encode_no h v hv hf.1 hf.2 HR.out)
    have C5 := Lib.hid (fun v => rencode_no h v HR.out)
    have hnil := conv_nil
    clear hok hf hc
    replace HL := Lib.hid ((HL.out).laid (.cells #[.int .i64 h.t, .int .i64 h.d, .int .i64 h.f, .int .i64 h.c, .int .u8 h.p.c.b0, .int .u8 h.p.c.b1, .int .u8 h.p.c.b2, .int .u8 h.p.c.b3, .int .u8 h.p.c.b4, .int .u8 h.p.c.b5, .int .u8 h.p.c.b6, .int .u8 h.p.c.b7, .int .i64 h.p.n, .int .i64 h.s, .int .i64 h.l] 27))
    have KH := Lib.hid (Holds.fresh w 27 #[.int .i64 h.t, .int .i64 h.d, .int .i64 h.f, .int .i64 h.c, .int .u8 h.p.c.b0, .int .u8 h.p.c.b1, .int .u8 h.p.c.b2, .int .u8 h.p.c.b3, .int .u8 h.p.c.b4, .int .u8 h.p.c.b5, .int .u8 h.p.c.b6, .int .u8 h.p.c.b7, .int .i64 h.p.n, .int .i64 h.s, .int .i64 h.l] (g := w.heap.size) (by simp))
    have HB := Lib.hid (bnew w (.cells #[.int .i64 h.t, .int .i64 h.d, .int .i64 h.f, .int .i64 h.c, .int .u8 h.p.c.b0, .int .u8 h.p.c.b1, .int .u8 h.p.c.b2, .int .u8 h.p.c.b3, .int .u8 h.p.c.b4, .int .u8 h.p.c.b5, .int .u8 h.p.c.b6, .int .u8 h.p.c.b7, .int .i64 h.p.n, .int .i64 h.s, .int .i64 h.l] 27))
    go_enter Tryd.func3, Tryd.ntmps3
    go_wp2_with fail
    generalize (w.alloc (.cells #[.int .i64 h.t, .int .i64 h.d, .int .i64 h.f, .int .i64 h.c, .int .u8 h.p.c.b0, .int .u8 h.p.c.b1, .int .u8 h.p.c.b2, .int .u8 h.p.c.b3, .int .u8 h.p.c.b4, .int .u8 h.p.c.b5, .int .u8 h.p.c.b6, .int .u8 h.p.c.b7, .int .i64 h.p.n, .int .i64 h.s, .int .i64 h.l] 27)) = W0 at *
    have x1_0 := (KH.out).reads (i := 0) rfl
    have x1_1 := (KH.out).reads (i := 1) rfl
    have x1_2 := (KH.out).reads (i := 2) rfl
    have x1_3 := (KH.out).reads (i := 3) rfl
    have x1_4 := (KH.out).reads (i := 4) rfl
    have x1_5 := (KH.out).reads (i := 5) rfl
    have x1_6 := (KH.out).reads (i := 6) rfl
    have x1_7 := (KH.out).reads (i := 7) rfl
    have x1_8 := (KH.out).reads (i := 8) rfl
    have x1_9 := (KH.out).reads (i := 9) rfl
    have x1_10 := (KH.out).reads (i := 10) rfl
    have x1_11 := (KH.out).reads (i := 11) rfl
    have x1_12 := (KH.out).reads (i := 12) rfl
    have x1_13 := (KH.out).reads (i := 13) rfl
    have x1_14 := (KH.out).reads (i := 14) rfl
    refine (C0.out _ HL.out).mono ?_
    rintro e w2 ⟨rfl, hw2⟩
    clear x1_0 x1_1 x1_2 x1_3 x1_4 x1_5 x1_6 x1_7 x1_8 x1_9 x1_10 x1_11 x1_12 x1_13 x1_14
    replace HL := Lib.hid ((HL.out).keptB hw2)
    replace KH := Lib.hid ((KH.out).keptB hw2)
    replace HB := Lib.hid (bstep HB.out hw2)
    clear hw2
    have x3_0 := (KH.out).reads (i := 0) rfl
    have x3_1 := (KH.out).reads (i := 1) rfl
    have x3_2 := (KH.out).reads (i := 2) rfl
    have x3_3 := (KH.out).reads (i := 3) rfl
    have x3_4 := (KH.out).reads (i := 4) rfl
    have x3_5 := (KH.out).reads (i := 5) rfl
    have x3_6 := (KH.out).reads (i := 6) rfl
    have x3_7 := (KH.out).reads (i := 7) rfl
    have x3_8 := (KH.out).reads (i := 8) rfl
    have x3_9 := (KH.out).reads (i := 9) rfl
    have x3_10 := (KH.out).reads (i := 10) rfl
    have x3_11 := (KH.out).reads (i := 11) rfl
    have x3_12 := (KH.out).reads (i := 12) rfl
    have x3_13 := (KH.out).reads (i := 13) rfl
    have x3_14 := (KH.out).reads (i := 14) rfl
    go_wp2_with fail
    refine (C5.out _).mono ?_
    rintro e w4 ⟨rfl, hw4⟩
    clear x3_0 x3_1 x3_2 x3_3 x3_4 x3_5 x3_6 x3_7 x3_8 x3_9 x3_10 x3_11 x3_12 x3_13 x3_14
    replace HL := Lib.hid ((HL.out).keptB hw4)
    replace KH := Lib.hid ((KH.out).keptB hw4)
    replace HB := Lib.hid (bstep HB.out hw4)
    clear hw4
    go_wp2_with fail
    refine wp_region_held_drew (S := fun v => Below w.heap.size w v ∧ Lens v ∧ Holds v (w.heap.size) 27 #[.int .i64 h.t, .int .i64 h.d, .int .i64 h.f, .int .i64 h.c, .int .u8 h.p.c.b0, .int .u8 h.p.c.b1, .int .u8 h.p.c.b2, .int .u8 h.p.c.b3, .int .u8 h.p.c.b4, .int .u8 h.p.c.b5, .int .u8 h.p.c.b6, .int .u8 h.p.c.b7, .int .i64 h.p.n, .int .i64 h.s, .int .i64 h.l] ∧ True) (by kernel_rfl) ?_ (fun hHeld => ?_)
    · exact ⟨bdrew HB.out, (HL.out).drew, (KH.out).drew, trivial⟩
    refine wpAnyH_ready (rs := [0]) (by kernel_rfl) (by simp) ?_
    refine AllReadyH.cons (at_list rfl) (fun K hK => ?_) AllReadyH.nil
    go_simp
    refine (alive5_any _ hHeld.2.1).mono ?_
    rintro e v5 ⟨rfl, hv5⟩
    go_wp2_with fail
    refine hK.out _ _ ?_ (fun hHeld2 => ?_)
    · exact ⟨bstep hHeld.1 hv5, hHeld.2.1.keptB hv5, hHeld.2.2.1.keptB hv5, trivial⟩
    clear hK K hHeld
    have hHeld := hHeld2
    clear hHeld2 hv5
    try simp only [Act.put, List.setIfInBounds_toArray, List.set_cons_zero, List.set_cons_succ]
    refine wpAnyH_take (i := 1) (v := .bool true) (at_list rfl) (by kernel_rfl) (by kernel_rfl) (by kernel_rfl) (fun _ _ _ h => h) (Or.inl ⟨by rfl, ?_⟩) (by assumption) ?_
    · intro v hSv
      clear hHeld
      obtain ⟨qHB, qHL, qKH, -⟩ := hSv
      clear qHB qHL qKH
      go_simp
    try simp only [Act.put, List.setIfInBounds_toArray, List.set_cons_zero, List.set_cons_succ]
    refine wpAnyH_take (i := 2) (v := .slice none 0 0) (at_list rfl) (by kernel_rfl) (by kernel_rfl) (by kernel_rfl) (fun _ _ _ h => h) (Or.inl ⟨by rfl, ?_⟩) (by assumption) ?_
    · intro v hSv
      clear hHeld
      obtain ⟨qHB, qHL, qKH, -⟩ := hSv
      clear qHB qHL qKH
      go_simp
    try simp only [Act.put, List.setIfInBounds_toArray, List.set_cons_zero, List.set_cons_succ]
    refine wpAnyH_take (i := 3) (v := .string ByteArray.empty) (at_list rfl) (by kernel_rfl) (by kernel_rfl) (by kernel_rfl) (fun _ _ _ h => h) (Or.inl ⟨by rfl, ?_⟩) (by assumption) ?_
    · intro v hSv
      clear hHeld
      obtain ⟨qHB, qHL, qKH, -⟩ := hSv
      clear qHB qHL qKH
      go_simp
    try simp only [Act.put, List.setIfInBounds_toArray, List.set_cons_zero, List.set_cons_succ]
    refine wpAnyH_take (i := 4) (v := .slice none 0 0) (at_list rfl) (by kernel_rfl) (by kernel_rfl) (by kernel_rfl) (fun _ _ _ h => h) (Or.inl ⟨by rfl, ?_⟩) (by assumption) ?_
    · intro v hSv
      clear hHeld
      obtain ⟨qHB, qHL, qKH, -⟩ := hSv
      clear qHB qHL qKH
      go_simp
    try simp only [Act.put, List.setIfInBounds_toArray, List.set_cons_zero, List.set_cons_succ]
    refine wpAnyH_take (i := 5) (v := .string ByteArray.empty) (at_list rfl) (by kernel_rfl) (by kernel_rfl) (by kernel_rfl) (fun _ _ _ h => h) (Or.inl ⟨by rfl, ?_⟩) (by assumption) ?_
    · intro v hSv
      clear hHeld
      obtain ⟨qHB, qHL, qKH, -⟩ := hSv
      clear qHB qHL qKH
      go_simp
    try simp only [Act.put, List.setIfInBounds_toArray, List.set_cons_zero, List.set_cons_succ]
    refine wpAnyH_take (i := 6) (v := .bool true) (at_list rfl) (by kernel_rfl) (by kernel_rfl) (by kernel_rfl) (fun _ _ _ h => h) (Or.inl ⟨by rfl, ?_⟩) (by assumption) ?_
    · intro v hSv
      clear hHeld
      obtain ⟨qHB, qHL, qKH, -⟩ := hSv
      clear qHB qHL qKH
      go_simp
    try simp only [Act.put, List.setIfInBounds_toArray, List.set_cons_zero, List.set_cons_succ]
    refine wpAnyH_take (i := 7) (v := .bool true) (at_list rfl) (by kernel_rfl) (by kernel_rfl) (by kernel_rfl) (fun _ _ _ h => h) (Or.inl ⟨by rfl, ?_⟩) (by assumption) ?_
    · intro v hSv
      clear hHeld
      obtain ⟨qHB, qHL, qKH, -⟩ := hSv
      clear qHB qHL qKH
      go_simp
    try simp only [Act.put, List.setIfInBounds_toArray, List.set_cons_zero, List.set_cons_succ]
    refine wpAnyH_take (i := 8) (v := .bool true) (at_list rfl) (by kernel_rfl) (by kernel_rfl) (by kernel_rfl) (fun _ _ _ h => h) (Or.inl ⟨by rfl, ?_⟩) (by assumption) ?_
    · intro v hSv
      clear hHeld
      obtain ⟨qHB, qHL, qKH, -⟩ := hSv
      clear qHB qHL qKH
      go_simp
    try simp only [Act.put, List.setIfInBounds_toArray, List.set_cons_zero, List.set_cons_succ]
    refine wpAnyH_take (i := 9) (v := .bool false) (at_list rfl) (by kernel_rfl) (by kernel_rfl) (by kernel_rfl) (fun _ _ _ h => h) (Or.inl ⟨by rfl, ?_⟩) (by assumption) ?_
    · intro v hSv
      clear hHeld
      obtain ⟨qHB, qHL, qKH, -⟩ := hSv
      clear qHB qHL qKH
      go_simp
    try simp only [Act.put, List.setIfInBounds_toArray, List.set_cons_zero, List.set_cons_succ]
    refine wpAnyH_take (i := 10) (v := .bool false) (at_list rfl) (by kernel_rfl) (by kernel_rfl) (by kernel_rfl) (fun _ _ _ h => h) (Or.inl ⟨by rfl, ?_⟩) (by assumption) ?_
    · intro v hSv
      clear hHeld
      obtain ⟨qHB, qHL, qKH, -⟩ := hSv
      clear qHB qHL qKH
      go_simp
    try simp only [Act.put, List.setIfInBounds_toArray, List.set_cons_zero, List.set_cons_succ]
    refine wpAnyH_take (i := 11) (v := .bool true) (at_list rfl) (by kernel_rfl) (by kernel_rfl) (by kernel_rfl) (fun _ _ _ h => h) (Or.inl ⟨by rfl, ?_⟩) (by assumption) ?_
    · intro v hSv
      clear hHeld
      obtain ⟨qHB, qHL, qKH, -⟩ := hSv
      clear qHB qHL qKH
      go_simp
    try simp only [Act.put, List.setIfInBounds_toArray, List.set_cons_zero, List.set_cons_succ]
    refine wpAnyH_take (i := 12) (v := .bool true) (at_list rfl) (by kernel_rfl) (by kernel_rfl) (by kernel_rfl) (fun _ _ _ h => h) (Or.inl ⟨by rfl, ?_⟩) (by assumption) ?_
    · intro v hSv
      clear hHeld
      obtain ⟨qHB, qHL, qKH, -⟩ := hSv
      clear qHB qHL qKH
      go_simp
    try simp only [Act.put, List.setIfInBounds_toArray, List.set_cons_zero, List.set_cons_succ]
    refine wpAnyH_take (i := 13) (v := .bool true) (at_list rfl) (by kernel_rfl) (by kernel_rfl) (by kernel_rfl) (fun _ _ _ h => h) (Or.inl ⟨by rfl, ?_⟩) (by assumption) ?_
    · intro v hSv
      clear hHeld
      obtain ⟨qHB, qHL, qKH, -⟩ := hSv
      clear qHB qHL qKH
      go_simp
    try simp only [Act.put, List.setIfInBounds_toArray, List.set_cons_zero, List.set_cons_succ]
    refine wpAnyH_take (i := 14) (v := .agg #[.int .i64 h.t, .int .i64 h.d, .int .i64 h.f, .int .i64 h.c, .int .u8 h.p.c.b0, .int .u8 h.p.c.b1, .int .u8 h.p.c.b2, .int .u8 h.p.c.b3, .int .u8 h.p.c.b4, .int .u8 h.p.c.b5, .int .u8 h.p.c.b6, .int .u8 h.p.c.b7, .int .i64 h.p.n, .int .i64 h.s, .int .i64 h.l]) (at_list rfl) (by kernel_rfl) (by kernel_rfl) (by kernel_rfl) (fun _ _ _ h => h) (Or.inl ⟨by rfl, ?_⟩) (by assumption) ?_
    · intro v hSv
      clear hHeld
      obtain ⟨qHB, qHL, qKH, -⟩ := hSv
      clear qHB qHL
      have qKH_0 := (qKH).reads (i := 0) rfl
      have qKH_1 := (qKH).reads (i := 1) rfl
      have qKH_2 := (qKH).reads (i := 2) rfl
      have qKH_3 := (qKH).reads (i := 3) rfl
      have qKH_4 := (qKH).reads (i := 4) rfl
      have qKH_5 := (qKH).reads (i := 5) rfl
      have qKH_6 := (qKH).reads (i := 6) rfl
      have qKH_7 := (qKH).reads (i := 7) rfl
      have qKH_8 := (qKH).reads (i := 8) rfl
      have qKH_9 := (qKH).reads (i := 9) rfl
      have qKH_10 := (qKH).reads (i := 10) rfl
      have qKH_11 := (qKH).reads (i := 11) rfl
      have qKH_12 := (qKH).reads (i := 12) rfl
      have qKH_13 := (qKH).reads (i := 13) rfl
      have qKH_14 := (qKH).reads (i := 14) rfl
      clear qKH
      go_simp
    try simp only [Act.put, List.setIfInBounds_toArray, List.set_cons_zero, List.set_cons_succ]
    refine wpAnyH_take (i := 16) (v := .agg #[.int .i64 h.t, .int .i64 h.d, .int .i64 h.f, .int .i64 h.c, .int .u8 h.p.c.b0, .int .u8 h.p.c.b1, .int .u8 h.p.c.b2, .int .u8 h.p.c.b3, .int .u8 h.p.c.b4, .int .u8 h.p.c.b5, .int .u8 h.p.c.b6, .int .u8 h.p.c.b7, .int .i64 h.p.n, .int .i64 h.s, .int .i64 h.l]) (at_list rfl) (by kernel_rfl) (by kernel_rfl) (by kernel_rfl) (fun _ _ _ h => h) (Or.inl ⟨by rfl, ?_⟩) (by assumption) ?_
    · intro v hSv
      clear hHeld
      obtain ⟨qHB, qHL, qKH, -⟩ := hSv
      clear qHB qHL
      have qKH_0 := (qKH).reads (i := 0) rfl
      have qKH_1 := (qKH).reads (i := 1) rfl
      have qKH_2 := (qKH).reads (i := 2) rfl
      have qKH_3 := (qKH).reads (i := 3) rfl
      have qKH_4 := (qKH).reads (i := 4) rfl
      have qKH_5 := (qKH).reads (i := 5) rfl
      have qKH_6 := (qKH).reads (i := 6) rfl
      have qKH_7 := (qKH).reads (i := 7) rfl
      have qKH_8 := (qKH).reads (i := 8) rfl
      have qKH_9 := (qKH).reads (i := 9) rfl
      have qKH_10 := (qKH).reads (i := 10) rfl
      have qKH_11 := (qKH).reads (i := 11) rfl
      have qKH_12 := (qKH).reads (i := 12) rfl
      have qKH_13 := (qKH).reads (i := 13) rfl
      have qKH_14 := (qKH).reads (i := 14) rfl
      clear qKH
      go_simp
    try simp only [Act.put, List.setIfInBounds_toArray, List.set_cons_zero, List.set_cons_succ]
    refine wpAnyH_ready (rs := [15]) (by kernel_rfl) (by simp) ?_
    refine AllReadyH.cons (at_list rfl) (fun K hK => ?_) AllReadyH.nil
    go_simp
    refine (C1.out _ hHeld.2.1).mono ?_
    rintro e v6 ⟨rfl, hv6⟩
    go_wp2_with fail
    refine hK.out _ _ ?_ (fun hHeld2 => ?_)
    · exact ⟨bstep hHeld.1 hv6, hHeld.2.1.keptB hv6, hHeld.2.2.1.keptB hv6, trivial⟩
    clear hK K hHeld
    have hHeld := hHeld2
    clear hHeld2 hv6
    try simp only [Act.put, List.setIfInBounds_toArray, List.set_cons_zero, List.set_cons_succ]
    refine wpAnyH_ready (rs := [17]) (by kernel_rfl) (by simp) ?_
    refine AllReadyH.cons (at_list rfl) (fun K hK => ?_) AllReadyH.nil
    go_simp
    refine (C2.out _ hHeld.2.1).mono ?_
    rintro e v7 ⟨rfl, hv7⟩
    go_wp2_with fail
    refine hK.out _ _ ?_ (fun hHeld2 => ?_)
    · exact ⟨bstep hHeld.1 hv7, hHeld.2.1.keptB hv7, hHeld.2.2.1.keptB hv7, trivial⟩
    clear hK K hHeld
    have hHeld := hHeld2
    clear hHeld2 hv7
    try simp only [Act.put, List.setIfInBounds_toArray, List.set_cons_zero, List.set_cons_succ]
    refine wpAnyH_take (i := 18) (v := .bool true) (at_list rfl) (by kernel_rfl) (by kernel_rfl) (by kernel_rfl) (fun _ _ _ h => h) (Or.inl ⟨by rfl, ?_⟩) (by assumption) ?_
    · intro v hSv
      clear hHeld
      obtain ⟨qHB, qHL, qKH, -⟩ := hSv
      clear qHB qHL qKH
      go_simp
    try simp only [Act.put, List.setIfInBounds_toArray, List.set_cons_zero, List.set_cons_succ]
    refine wpAnyH_take (i := 19) (v := .bool true) (at_list rfl) (by kernel_rfl) (by kernel_rfl) (by kernel_rfl) (fun _ _ _ h => h) (Or.inl ⟨by rfl, ?_⟩) (by assumption) ?_
    · intro v hSv
      clear hHeld
      obtain ⟨qHB, qHL, qKH, -⟩ := hSv
      clear qHB qHL qKH
      go_simp
    try simp only [Act.put, List.setIfInBounds_toArray, List.set_cons_zero, List.set_cons_succ]
    refine wpAnyH_take (i := 20) (v := .bool true) (at_list rfl) (by kernel_rfl) (by kernel_rfl) (by kernel_rfl) (fun _ _ _ h => h) (Or.inl ⟨by rfl, ?_⟩) (by assumption) ?_
    · intro v hSv
      clear hHeld
      obtain ⟨qHB, qHL, qKH, -⟩ := hSv
      clear qHB qHL qKH
      go_simp
    try simp only [Act.put, List.setIfInBounds_toArray, List.set_cons_zero, List.set_cons_succ]
    refine wpAnyH_take (i := 21) (v := .pointer (some ⟨w.heap.size, 0, none⟩)) (at_list rfl) (by kernel_rfl) (by kernel_rfl) (by kernel_rfl) (fun _ _ _ h => h) (Or.inl ⟨by rfl, ?_⟩) (by assumption) ?_
    · intro v hSv
      clear hHeld
      obtain ⟨qHB, qHL, qKH, -⟩ := hSv
      clear qHB qHL qKH
      go_simp
    try simp only [Act.put, List.setIfInBounds_toArray, List.set_cons_zero, List.set_cons_succ]
    refine wpAnyH_take (i := 22) (v := .int .i64 h.t) (at_list rfl) (by kernel_rfl) (by kernel_rfl) (by kernel_rfl) (fun _ _ _ h => h) (Or.inl ⟨by rfl, ?_⟩) (by assumption) ?_
    · intro v hSv
      clear hHeld
      obtain ⟨qHB, qHL, qKH, -⟩ := hSv
      clear qHB qHL
      have qKH_0 := (qKH).reads (i := 0) rfl
      have qKH_1 := (qKH).reads (i := 1) rfl
      have qKH_2 := (qKH).reads (i := 2) rfl
      have qKH_3 := (qKH).reads (i := 3) rfl
      have qKH_4 := (qKH).reads (i := 4) rfl
      have qKH_5 := (qKH).reads (i := 5) rfl
      have qKH_6 := (qKH).reads (i := 6) rfl
      have qKH_7 := (qKH).reads (i := 7) rfl
      have qKH_8 := (qKH).reads (i := 8) rfl
      have qKH_9 := (qKH).reads (i := 9) rfl
      have qKH_10 := (qKH).reads (i := 10) rfl
      have qKH_11 := (qKH).reads (i := 11) rfl
      have qKH_12 := (qKH).reads (i := 12) rfl
      have qKH_13 := (qKH).reads (i := 13) rfl
      have qKH_14 := (qKH).reads (i := 14) rfl
      clear qKH
      go_simp
    try simp only [Act.put, List.setIfInBounds_toArray, List.set_cons_zero, List.set_cons_succ]
    refine wpAnyH_take (i := 24) (v := .pointer (some ⟨w.heap.size, 0, none⟩)) (at_list rfl) (by kernel_rfl) (by kernel_rfl) (by kernel_rfl) (fun _ _ _ h => h) (Or.inl ⟨by rfl, ?_⟩) (by assumption) ?_
    · intro v hSv
      clear hHeld
      obtain ⟨qHB, qHL, qKH, -⟩ := hSv
      clear qHB qHL qKH
      go_simp
    try simp only [Act.put, List.setIfInBounds_toArray, List.set_cons_zero, List.set_cons_succ]
    refine wpAnyH_take (i := 25) (v := .int .i64 h.t) (at_list rfl) (by kernel_rfl) (by kernel_rfl) (by kernel_rfl) (fun _ _ _ h => h) (Or.inl ⟨by rfl, ?_⟩) (by assumption) ?_
    · intro v hSv
      clear hHeld
      obtain ⟨qHB, qHL, qKH, -⟩ := hSv
      clear qHB qHL
      have qKH_0 := (qKH).reads (i := 0) rfl
      have qKH_1 := (qKH).reads (i := 1) rfl
      have qKH_2 := (qKH).reads (i := 2) rfl
      have qKH_3 := (qKH).reads (i := 3) rfl
      have qKH_4 := (qKH).reads (i := 4) rfl
      have qKH_5 := (qKH).reads (i := 5) rfl
      have qKH_6 := (qKH).reads (i := 6) rfl
      have qKH_7 := (qKH).reads (i := 7) rfl
      have qKH_8 := (qKH).reads (i := 8) rfl
      have qKH_9 := (qKH).reads (i := 9) rfl
      have qKH_10 := (qKH).reads (i := 10) rfl
      have qKH_11 := (qKH).reads (i := 11) rfl
      have qKH_12 := (qKH).reads (i := 12) rfl
      have qKH_13 := (qKH).reads (i := 13) rfl
      have qKH_14 := (qKH).reads (i := 14) rfl
      clear qKH
      go_simp
    try simp only [Act.put, List.setIfInBounds_toArray, List.set_cons_zero, List.set_cons_succ]
    refine wpAnyH_ready (rs := [23]) (by kernel_rfl) (by simp) ?_
    refine AllReadyH.cons (at_list rfl) (fun K hK => ?_) AllReadyH.nil
    go_simp
    refine (C3.out _ hHeld.2.1).mono ?_
    rintro e v8 ⟨rfl, hv8⟩
    go_wp2_with fail
    refine hK.out _ _ ?_ (fun hHeld2 => ?_)
    · exact ⟨bstep hHeld.1 hv8, hHeld.2.1.keptB hv8, hHeld.2.2.1.keptB hv8, trivial⟩
    clear hK K hHeld
    have hHeld := hHeld2
    clear hHeld2 hv8
    try simp only [Act.put, List.setIfInBounds_toArray, List.set_cons_zero, List.set_cons_succ]
    refine wpAnyH_ready (rs := [26]) (by kernel_rfl) (by simp) ?_
    refine AllReadyH.cons (at_list rfl) (fun K hK => ?_) AllReadyH.nil
    go_simp
    refine (C4.out _ hHeld.2.1).mono ?_
    rintro e v9 ⟨rfl, hv9⟩
    go_wp2_with fail
    refine hK.out _ _ ?_ (fun hHeld2 => ?_)
    · exact ⟨bstep hHeld.1 hv9, hHeld.2.1.keptB hv9, hHeld.2.2.1.keptB hv9, trivial⟩
    clear hK K hHeld
    have hHeld := hHeld2
    clear hHeld2 hv9
    try simp only [Act.put, List.setIfInBounds_toArray, List.set_cons_zero, List.set_cons_succ]
    refine wpAnyH_take (i := 27) (v := .bool true) (at_list rfl) (by kernel_rfl) (by kernel_rfl) (by kernel_rfl) (fun _ _ _ h => h) (Or.inl ⟨by rfl, ?_⟩) (by assumption) ?_
    · intro v hSv
      clear hHeld
      obtain ⟨qHB, qHL, qKH, -⟩ := hSv
      clear qHB qHL qKH
      go_simp
    try simp only [Act.put, List.setIfInBounds_toArray, List.set_cons_zero, List.set_cons_succ]
    refine wpAnyH_take (i := 28) (v := .bool true) (at_list rfl) (by kernel_rfl) (by kernel_rfl) (by kernel_rfl) (fun _ _ _ h => h) (Or.inl ⟨by rfl, ?_⟩) (by assumption) ?_
    · intro v hSv
      clear hHeld
      obtain ⟨qHB, qHL, qKH, -⟩ := hSv
      clear qHB qHL qKH
      go_simp
    try simp only [Act.put, List.setIfInBounds_toArray, List.set_cons_zero, List.set_cons_succ]
    refine wpAnyH_take (i := 29) (v := .bool true) (at_list rfl) (by kernel_rfl) (by kernel_rfl) (by kernel_rfl) (fun _ _ _ h => h) (Or.inl ⟨by rfl, ?_⟩) (by assumption) ?_
    · intro v hSv
      clear hHeld
      obtain ⟨qHB, qHL, qKH, -⟩ := hSv
      clear qHB qHL qKH
      go_simp
    try simp only [Act.put, List.setIfInBounds_toArray, List.set_cons_zero, List.set_cons_succ]
    refine wpAnyH_done (by kernel_rfl) ?_ _
    replace HB := Lib.hid hHeld.1
    replace HL := Lib.hid hHeld.2.1
    replace KH := Lib.hid hHeld.2.2.1
    clear hHeld
    go_wp2
    go_ret
    exact ⟨rfl, HB.out⟩
  · have HY := Lib.hid (encL_byte (HR.out) hok)
    have C0 := Lib.hid (fun v (hv : Lens v) => encode_yes h v hv HR.out)
    have C5 := Lib.hid (fun v => rencode_yes h v HR.out HY.out)
    obtain ⟨S, HS⟩ : ∃ S, Hid (strOfNums (encL h) = S) := ⟨_, Lib.hid rfl⟩
    have V1 : Hid (∀ v g, Holds v g 5 (byteCells (encL h)) → (convert 28 9 (.slice (some ⟨g, 0, none⟩) 34 34)).run Tryd.prog v = .ok (.string S) v) := fun v g hh => by rw [← HS.out]; exact conv_whole v g 34 (encL h) (encL_length h) hh
    have V2 : Hid (∀ v g c, BytesAt v ⟨g, 0, none⟩ (encL h) → (convert 28 9 (.slice (some ⟨g, 0, none⟩) 34 c)).run Tryd.prog v = .ok (.string S) v) := fun v g c hh => by rw [← HS.out]; exact conv_at v ⟨g, 0, none⟩ 34 c (encL h) (encL_length h) hh
    clear hok hf hc
    replace HL := Lib.hid ((HL.out).laid (.cells #[.int .i64 h.t, .int .i64 h.d, .int .i64 h.f, .int .i64 h.c, .int .u8 h.p.c.b0, .int .u8 h.p.c.b1, .int .u8 h.p.c.b2, .int .u8 h.p.c.b3, .int .u8 h.p.c.b4, .int .u8 h.p.c.b5, .int .u8 h.p.c.b6, .int .u8 h.p.c.b7, .int .i64 h.p.n, .int .i64 h.s, .int .i64 h.l] 27))
    have KH := Lib.hid (Holds.fresh w 27 #[.int .i64 h.t, .int .i64 h.d, .int .i64 h.f, .int .i64 h.c, .int .u8 h.p.c.b0, .int .u8 h.p.c.b1, .int .u8 h.p.c.b2, .int .u8 h.p.c.b3, .int .u8 h.p.c.b4, .int .u8 h.p.c.b5, .int .u8 h.p.c.b6, .int .u8 h.p.c.b7, .int .i64 h.p.n, .int .i64 h.s, .int .i64 h.l] (g := w.heap.size) (by simp))
    have HB := Lib.hid (bnew w (.cells #[.int .i64 h.t, .int .i64 h.d, .int .i64 h.f, .int .i64 h.c, .int .u8 h.p.c.b0, .int .u8 h.p.c.b1, .int .u8 h.p.c.b2, .int .u8 h.p.c.b3, .int .u8 h.p.c.b4, .int .u8 h.p.c.b5, .int .u8 h.p.c.b6, .int .u8 h.p.c.b7, .int .i64 h.p.n, .int .i64 h.s, .int .i64 h.l] 27))
    go_enter Tryd.func3, Tryd.ntmps3
    go_wp2_with fail
    generalize (w.alloc (.cells #[.int .i64 h.t, .int .i64 h.d, .int .i64 h.f, .int .i64 h.c, .int .u8 h.p.c.b0, .int .u8 h.p.c.b1, .int .u8 h.p.c.b2, .int .u8 h.p.c.b3, .int .u8 h.p.c.b4, .int .u8 h.p.c.b5, .int .u8 h.p.c.b6, .int .u8 h.p.c.b7, .int .i64 h.p.n, .int .i64 h.s, .int .i64 h.l] 27)) = W0 at *
    have x1_0 := (KH.out).reads (i := 0) rfl
    have x1_1 := (KH.out).reads (i := 1) rfl
    have x1_2 := (KH.out).reads (i := 2) rfl
    have x1_3 := (KH.out).reads (i := 3) rfl
    have x1_4 := (KH.out).reads (i := 4) rfl
    have x1_5 := (KH.out).reads (i := 5) rfl
    have x1_6 := (KH.out).reads (i := 6) rfl
    have x1_7 := (KH.out).reads (i := 7) rfl
    have x1_8 := (KH.out).reads (i := 8) rfl
    have x1_9 := (KH.out).reads (i := 9) rfl
    have x1_10 := (KH.out).reads (i := 10) rfl
    have x1_11 := (KH.out).reads (i := 11) rfl
    have x1_12 := (KH.out).reads (i := 12) rfl
    have x1_13 := (KH.out).reads (i := 13) rfl
    have x1_14 := (KH.out).reads (i := 14) rfl
    refine (C0.out _ HL.out).mono ?_
    rintro e w2 ⟨g1, -, rfl, n_KG, hw2⟩
    clear x1_0 x1_1 x1_2 x1_3 x1_4 x1_5 x1_6 x1_7 x1_8 x1_9 x1_10 x1_11 x1_12 x1_13 x1_14
    replace HL := Lib.hid ((HL.out).keptB hw2)
    replace KH := Lib.hid ((KH.out).keptB hw2)
    replace HB := Lib.hid (bstep HB.out hw2)
    have KG := Lib.hid (show Holds w2 g1 5 (byteCells (encL h)) from n_KG)
    clear n_KG
    clear hw2
    have x3_0 := (KH.out).reads (i := 0) rfl
    have x3_1 := (KH.out).reads (i := 1) rfl
    have x3_2 := (KH.out).reads (i := 2) rfl
    have x3_3 := (KH.out).reads (i := 3) rfl
    have x3_4 := (KH.out).reads (i := 4) rfl
    have x3_5 := (KH.out).reads (i := 5) rfl
    have x3_6 := (KH.out).reads (i := 6) rfl
    have x3_7 := (KH.out).reads (i := 7) rfl
    have x3_8 := (KH.out).reads (i := 8) rfl
    have x3_9 := (KH.out).reads (i := 9) rfl
    have x3_10 := (KH.out).reads (i := 10) rfl
    have x3_11 := (KH.out).reads (i := 11) rfl
    have x3_12 := (KH.out).reads (i := 12) rfl
    have x3_13 := (KH.out).reads (i := 13) rfl
    have x3_14 := (KH.out).reads (i := 14) rfl
    go_wp2_with fail
    refine (C5.out _).mono ?_
    rintro e w4 ⟨g2, c2, -, -, n_KR0, hw4, rfl⟩
    clear x3_0 x3_1 x3_2 x3_3 x3_4 x3_5 x3_6 x3_7 x3_8 x3_9 x3_10 x3_11 x3_12 x3_13 x3_14
    replace HL := Lib.hid ((HL.out).keptB hw4)
    replace KH := Lib.hid ((KH.out).keptB hw4)
    replace KG := Lib.hid ((KG.out).keptB hw4)
    replace HB := Lib.hid (bstep HB.out hw4)
    clear hw4
    have KR := Lib.hid (bytes_of_cells n_KR0)
    clear n_KR0
    go_wp2_with fail
    refine wp_region_held_drew (S := fun v => Below w.heap.size w v ∧ Lens v ∧ Holds v (w.heap.size) 27 #[.int .i64 h.t, .int .i64 h.d, .int .i64 h.f, .int .i64 h.c, .int .u8 h.p.c.b0, .int .u8 h.p.c.b1, .int .u8 h.p.c.b2, .int .u8 h.p.c.b3, .int .u8 h.p.c.b4, .int .u8 h.p.c.b5, .int .u8 h.p.c.b6, .int .u8 h.p.c.b7, .int .i64 h.p.n, .int .i64 h.s, .int .i64 h.l] ∧ Holds v g1 5 (byteCells (encL h)) ∧ BytesAt v ⟨g2, 0, none⟩ (encL h) ∧ True) (by kernel_rfl) ?_ (fun hHeld => ?_)
    · exact ⟨bdrew HB.out, (HL.out).drew, (KH.out).drew, (KG.out).drew, (KR.out).drew, trivial⟩
    refine wpAnyH_ready (rs := [0]) (by kernel_rfl) (by simp) ?_
    refine AllReadyH.cons (at_list rfl) (fun K hK => ?_) AllReadyH.nil
    go_simp
    refine (alive5_any _ hHeld.2.1).mono ?_
    rintro e v5 ⟨rfl, hv5⟩
    go_wp2_with fail
    refine hK.out _ _ ?_ (fun hHeld2 => ?_)
    · exact ⟨bstep hHeld.1 hv5, hHeld.2.1.keptB hv5, hHeld.2.2.1.keptB hv5, hHeld.2.2.2.1.keptB hv5, hHeld.2.2.2.2.1.keptB hv5, trivial⟩
    clear hK K hHeld
    have hHeld := hHeld2
    clear hHeld2 hv5
    try simp only [Act.put, List.setIfInBounds_toArray, List.set_cons_zero, List.set_cons_succ]
    refine wpAnyH_take (i := 1) (v := .bool true) (at_list rfl) (by kernel_rfl) (by kernel_rfl) (by kernel_rfl) (fun _ _ _ h => h) (Or.inl ⟨by rfl, ?_⟩) (by assumption) ?_
    · intro v hSv
      clear hHeld
      obtain ⟨qHB, qHL, qKH, qKG, qKR, -⟩ := hSv
      clear qHB qHL qKH qKG qKR
      go_simp
    try simp only [Act.put, List.setIfInBounds_toArray, List.set_cons_zero, List.set_cons_succ]
    refine wpAnyH_take (i := 2) (v := .slice (some ⟨g1, 0, none⟩) 34 34) (at_list rfl) (by kernel_rfl) (by kernel_rfl) (by kernel_rfl) (fun _ _ _ h => h) (Or.inl ⟨by rfl, ?_⟩) (by assumption) ?_
    · intro v hSv
      clear hHeld
      obtain ⟨qHB, qHL, qKH, qKG, qKR, -⟩ := hSv
      clear qHB qHL qKH qKG qKR
      go_simp
    try simp only [Act.put, List.setIfInBounds_toArray, List.set_cons_zero, List.set_cons_succ]
    refine wpAnyH_take (i := 3) (v := .string S) (at_list rfl) (by kernel_rfl) (by kernel_rfl) (by kernel_rfl) (fun _ _ _ h => h) (Or.inl ⟨by rfl, ?_⟩) (by assumption) ?_
    · intro v hSv
      clear hHeld
      obtain ⟨qHB, qHL, qKH, qKG, qKR, -⟩ := hSv
      clear qHB qHL qKH qKR
      have cv := V1.out v g1 qKG
      go_simp
    try simp only [Act.put, List.setIfInBounds_toArray, List.set_cons_zero, List.set_cons_succ]
    refine wpAnyH_take (i := 4) (v := .slice (some ⟨g2, 0, none⟩) 34 c2) (at_list rfl) (by kernel_rfl) (by kernel_rfl) (by kernel_rfl) (fun _ _ _ h => h) (Or.inl ⟨by rfl, ?_⟩) (by assumption) ?_
    · intro v hSv
      clear hHeld
      obtain ⟨qHB, qHL, qKH, qKG, qKR, -⟩ := hSv
      clear qHB qHL qKH qKG qKR
      go_simp
    try simp only [Act.put, List.setIfInBounds_toArray, List.set_cons_zero, List.set_cons_succ]
    refine wpAnyH_take (i := 5) (v := .string S) (at_list rfl) (by kernel_rfl) (by kernel_rfl) (by kernel_rfl) (fun _ _ _ h => h) (Or.inl ⟨by rfl, ?_⟩) (by assumption) ?_
    · intro v hSv
      clear hHeld
      obtain ⟨qHB, qHL, qKH, qKG, qKR, -⟩ := hSv
      clear qHB qHL qKH qKG
      have cv := V2.out v g2 c2 qKR
      go_simp
    try simp only [Act.put, List.setIfInBounds_toArray, List.set_cons_zero, List.set_cons_succ]
    refine wpAnyH_take (i := 6) (v := .bool true) (at_list rfl) (by kernel_rfl) (by kernel_rfl) (by kernel_rfl) (fun _ _ _ h => h) (Or.inl ⟨by rfl, ?_⟩) (by assumption) ?_
    · intro v hSv
      clear hHeld
      obtain ⟨qHB, qHL, qKH, qKG, qKR, -⟩ := hSv
      clear qHB qHL qKH qKG qKR
      go_simp
    try simp only [Act.put, List.setIfInBounds_toArray, List.set_cons_zero, List.set_cons_succ]
    refine wpAnyH_take (i := 7) (v := .bool true) (at_list rfl) (by kernel_rfl) (by kernel_rfl) (by kernel_rfl) (fun _ _ _ h => h) (Or.inl ⟨by rfl, ?_⟩) (by assumption) ?_
    · intro v hSv
      clear hHeld
      obtain ⟨qHB, qHL, qKH, qKG, qKR, -⟩ := hSv
      clear qHB qHL qKH qKG qKR
      go_simp
    try simp only [Act.put, List.setIfInBounds_toArray, List.set_cons_zero, List.set_cons_succ]
    refine wpAnyH_take (i := 8) (v := .bool true) (at_list rfl) (by kernel_rfl) (by kernel_rfl) (by kernel_rfl) (fun _ _ _ h => h) (Or.inl ⟨by rfl, ?_⟩) (by assumption) ?_
    · intro v hSv
      clear hHeld
      obtain ⟨qHB, qHL, qKH, qKG, qKR, -⟩ := hSv
      clear qHB qHL qKH qKG qKR
      go_simp
    try simp only [Act.put, List.setIfInBounds_toArray, List.set_cons_zero, List.set_cons_succ]
    refine wpAnyH_take (i := 9) (v := .bool true) (at_list rfl) (by kernel_rfl) (by kernel_rfl) (by kernel_rfl) (fun _ _ _ h => h) (Or.inl ⟨by rfl, ?_⟩) (by assumption) ?_
    · intro v hSv
      clear hHeld
      obtain ⟨qHB, qHL, qKH, qKG, qKR, -⟩ := hSv
      clear qHB qHL qKH qKG qKR
      go_simp
    try simp only [Act.put, List.setIfInBounds_toArray, List.set_cons_zero, List.set_cons_succ]
    refine wpAnyH_take (i := 10) (v := .bool true) (at_list rfl) (by kernel_rfl) (by kernel_rfl) (by kernel_rfl) (fun _ _ _ h => h) (Or.inl ⟨by rfl, ?_⟩) (by assumption) ?_
    · intro v hSv
      clear hHeld
      obtain ⟨qHB, qHL, qKH, qKG, qKR, -⟩ := hSv
      clear qHB qHL qKH qKG qKR
      go_simp
    try simp only [Act.put, List.setIfInBounds_toArray, List.set_cons_zero, List.set_cons_succ]
    refine wpAnyH_take (i := 11) (v := .bool true) (at_list rfl) (by kernel_rfl) (by kernel_rfl) (by kernel_rfl) (fun _ _ _ h => h) (Or.inl ⟨by rfl, ?_⟩) (by assumption) ?_
    · intro v hSv
      clear hHeld
      obtain ⟨qHB, qHL, qKH, qKG, qKR, -⟩ := hSv
      clear qHB qHL qKH qKG qKR
      go_simp
    try simp only [Act.put, List.setIfInBounds_toArray, List.set_cons_zero, List.set_cons_succ]
    refine wpAnyH_take (i := 12) (v := .bool true) (at_list rfl) (by kernel_rfl) (by kernel_rfl) (by kernel_rfl) (fun _ _ _ h => h) (Or.inl ⟨by rfl, ?_⟩) (by assumption) ?_
    · intro v hSv
      clear hHeld
      obtain ⟨qHB, qHL, qKH, qKG, qKR, -⟩ := hSv
      clear qHB qHL qKH qKG qKR
      go_simp
    try simp only [Act.put, List.setIfInBounds_toArray, List.set_cons_zero, List.set_cons_succ]
    refine wpAnyH_take (i := 13) (v := .bool true) (at_list rfl) (by kernel_rfl) (by kernel_rfl) (by kernel_rfl) (fun _ _ _ h => h) (Or.inl ⟨by rfl, ?_⟩) (by assumption) ?_
    · intro v hSv
      clear hHeld
      obtain ⟨qHB, qHL, qKH, qKG, qKR, -⟩ := hSv
      clear qHB qHL qKH qKG qKR
      go_simp
    try simp only [Act.put, List.setIfInBounds_toArray, List.set_cons_zero, List.set_cons_succ]
    refine wpAnyH_take (i := 14) (v := .agg #[.int .i64 h.t, .int .i64 h.d, .int .i64 h.f, .int .i64 h.c, .int .u8 h.p.c.b0, .int .u8 h.p.c.b1, .int .u8 h.p.c.b2, .int .u8 h.p.c.b3, .int .u8 h.p.c.b4, .int .u8 h.p.c.b5, .int .u8 h.p.c.b6, .int .u8 h.p.c.b7, .int .i64 h.p.n, .int .i64 h.s, .int .i64 h.l]) (at_list rfl) (by kernel_rfl) (by kernel_rfl) (by kernel_rfl) (fun _ _ _ h => h) (Or.inl ⟨by rfl, ?_⟩) (by assumption) ?_
    · intro v hSv
      clear hHeld
      obtain ⟨qHB, qHL, qKH, qKG, qKR, -⟩ := hSv
      clear qHB qHL qKG qKR
      have qKH_0 := (qKH).reads (i := 0) rfl
      have qKH_1 := (qKH).reads (i := 1) rfl
      have qKH_2 := (qKH).reads (i := 2) rfl
      have qKH_3 := (qKH).reads (i := 3) rfl
      have qKH_4 := (qKH).reads (i := 4) rfl
      have qKH_5 := (qKH).reads (i := 5) rfl
      have qKH_6 := (qKH).reads (i := 6) rfl
      have qKH_7 := (qKH).reads (i := 7) rfl
      have qKH_8 := (qKH).reads (i := 8) rfl
      have qKH_9 := (qKH).reads (i := 9) rfl
      have qKH_10 := (qKH).reads (i := 10) rfl
      have qKH_11 := (qKH).reads (i := 11) rfl
      have qKH_12 := (qKH).reads (i := 12) rfl
      have qKH_13 := (qKH).reads (i := 13) rfl
      have qKH_14 := (qKH).reads (i := 14) rfl
      clear qKH
      go_simp
    try simp only [Act.put, List.setIfInBounds_toArray, List.set_cons_zero, List.set_cons_succ]
    refine wpAnyH_take (i := 16) (v := .agg #[.int .i64 h.t, .int .i64 h.d, .int .i64 h.f, .int .i64 h.c, .int .u8 h.p.c.b0, .int .u8 h.p.c.b1, .int .u8 h.p.c.b2, .int .u8 h.p.c.b3, .int .u8 h.p.c.b4, .int .u8 h.p.c.b5, .int .u8 h.p.c.b6, .int .u8 h.p.c.b7, .int .i64 h.p.n, .int .i64 h.s, .int .i64 h.l]) (at_list rfl) (by kernel_rfl) (by kernel_rfl) (by kernel_rfl) (fun _ _ _ h => h) (Or.inl ⟨by rfl, ?_⟩) (by assumption) ?_
    · intro v hSv
      clear hHeld
      obtain ⟨qHB, qHL, qKH, qKG, qKR, -⟩ := hSv
      clear qHB qHL qKG qKR
      have qKH_0 := (qKH).reads (i := 0) rfl
      have qKH_1 := (qKH).reads (i := 1) rfl
      have qKH_2 := (qKH).reads (i := 2) rfl
      have qKH_3 := (qKH).reads (i := 3) rfl
      have qKH_4 := (qKH).reads (i := 4) rfl
      have qKH_5 := (qKH).reads (i := 5) rfl
      have qKH_6 := (qKH).reads (i := 6) rfl
      have qKH_7 := (qKH).reads (i := 7) rfl
      have qKH_8 := (qKH).reads (i := 8) rfl
      have qKH_9 := (qKH).reads (i := 9) rfl
      have qKH_10 := (qKH).reads (i := 10) rfl
      have qKH_11 := (qKH).reads (i := 11) rfl
      have qKH_12 := (qKH).reads (i := 12) rfl
      have qKH_13 := (qKH).reads (i := 13) rfl
      have qKH_14 := (qKH).reads (i := 14) rfl
      clear qKH
      go_simp
    try simp only [Act.put, List.setIfInBounds_toArray, List.set_cons_zero, List.set_cons_succ]
    refine wpAnyH_ready (rs := [15]) (by kernel_rfl) (by simp) ?_
    refine AllReadyH.cons (at_list rfl) (fun K hK => ?_) AllReadyH.nil
    go_simp
    refine (C1.out _ hHeld.2.1).mono ?_
    rintro e v6 ⟨rfl, hv6⟩
    go_wp2_with fail
    refine hK.out _ _ ?_ (fun hHeld2 => ?_)
    · exact ⟨bstep hHeld.1 hv6, hHeld.2.1.keptB hv6, hHeld.2.2.1.keptB hv6, hHeld.2.2.2.1.keptB hv6, hHeld.2.2.2.2.1.keptB hv6, trivial⟩
    clear hK K hHeld
    have hHeld := hHeld2
    clear hHeld2 hv6
    try simp only [Act.put, List.setIfInBounds_toArray, List.set_cons_zero, List.set_cons_succ]
    refine wpAnyH_ready (rs := [17]) (by kernel_rfl) (by simp) ?_
    refine AllReadyH.cons (at_list rfl) (fun K hK => ?_) AllReadyH.nil
    go_simp
    refine (C2.out _ hHeld.2.1).mono ?_
    rintro e v7 ⟨rfl, hv7⟩
    go_wp2_with fail
    refine hK.out _ _ ?_ (fun hHeld2 => ?_)
    · exact ⟨bstep hHeld.1 hv7, hHeld.2.1.keptB hv7, hHeld.2.2.1.keptB hv7, hHeld.2.2.2.1.keptB hv7, hHeld.2.2.2.2.1.keptB hv7, trivial⟩
    clear hK K hHeld
    have hHeld := hHeld2
    clear hHeld2 hv7
    try simp only [Act.put, List.setIfInBounds_toArray, List.set_cons_zero, List.set_cons_succ]
    refine wpAnyH_take (i := 18) (v := .bool true) (at_list rfl) (by kernel_rfl) (by kernel_rfl) (by kernel_rfl) (fun _ _ _ h => h) (Or.inl ⟨by rfl, ?_⟩) (by assumption) ?_
    · intro v hSv
      clear hHeld
      obtain ⟨qHB, qHL, qKH, qKG, qKR, -⟩ := hSv
      clear qHB qHL qKH qKG qKR
      go_simp
    try simp only [Act.put, List.setIfInBounds_toArray, List.set_cons_zero, List.set_cons_succ]
    refine wpAnyH_take (i := 19) (v := .bool true) (at_list rfl) (by kernel_rfl) (by kernel_rfl) (by kernel_rfl) (fun _ _ _ h => h) (Or.inl ⟨by rfl, ?_⟩) (by assumption) ?_
    · intro v hSv
      clear hHeld
      obtain ⟨qHB, qHL, qKH, qKG, qKR, -⟩ := hSv
      clear qHB qHL qKH qKG qKR
      go_simp
    try simp only [Act.put, List.setIfInBounds_toArray, List.set_cons_zero, List.set_cons_succ]
    refine wpAnyH_take (i := 20) (v := .bool true) (at_list rfl) (by kernel_rfl) (by kernel_rfl) (by kernel_rfl) (fun _ _ _ h => h) (Or.inl ⟨by rfl, ?_⟩) (by assumption) ?_
    · intro v hSv
      clear hHeld
      obtain ⟨qHB, qHL, qKH, qKG, qKR, -⟩ := hSv
      clear qHB qHL qKH qKG qKR
      go_simp
    try simp only [Act.put, List.setIfInBounds_toArray, List.set_cons_zero, List.set_cons_succ]
    refine wpAnyH_take (i := 21) (v := .pointer (some ⟨w.heap.size, 0, none⟩)) (at_list rfl) (by kernel_rfl) (by kernel_rfl) (by kernel_rfl) (fun _ _ _ h => h) (Or.inl ⟨by rfl, ?_⟩) (by assumption) ?_
    · intro v hSv
      clear hHeld
      obtain ⟨qHB, qHL, qKH, qKG, qKR, -⟩ := hSv
      clear qHB qHL qKH qKG qKR
      go_simp
    try simp only [Act.put, List.setIfInBounds_toArray, List.set_cons_zero, List.set_cons_succ]
    refine wpAnyH_take (i := 22) (v := .int .i64 h.t) (at_list rfl) (by kernel_rfl) (by kernel_rfl) (by kernel_rfl) (fun _ _ _ h => h) (Or.inl ⟨by rfl, ?_⟩) (by assumption) ?_
    · intro v hSv
      clear hHeld
      obtain ⟨qHB, qHL, qKH, qKG, qKR, -⟩ := hSv
      clear qHB qHL qKG qKR
      have qKH_0 := (qKH).reads (i := 0) rfl
      have qKH_1 := (qKH).reads (i := 1) rfl
      have qKH_2 := (qKH).reads (i := 2) rfl
      have qKH_3 := (qKH).reads (i := 3) rfl
      have qKH_4 := (qKH).reads (i := 4) rfl
      have qKH_5 := (qKH).reads (i := 5) rfl
      have qKH_6 := (qKH).reads (i := 6) rfl
      have qKH_7 := (qKH).reads (i := 7) rfl
      have qKH_8 := (qKH).reads (i := 8) rfl
      have qKH_9 := (qKH).reads (i := 9) rfl
      have qKH_10 := (qKH).reads (i := 10) rfl
      have qKH_11 := (qKH).reads (i := 11) rfl
      have qKH_12 := (qKH).reads (i := 12) rfl
      have qKH_13 := (qKH).reads (i := 13) rfl
      have qKH_14 := (qKH).reads (i := 14) rfl
      clear qKH
      go_simp
    try simp only [Act.put, List.setIfInBounds_toArray, List.set_cons_zero, List.set_cons_succ]
    refine wpAnyH_take (i := 24) (v := .pointer (some ⟨w.heap.size, 0, none⟩)) (at_list rfl) (by kernel_rfl) (by kernel_rfl) (by kernel_rfl) (fun _ _ _ h => h) (Or.inl ⟨by rfl, ?_⟩) (by assumption) ?_
    · intro v hSv
      clear hHeld
      obtain ⟨qHB, qHL, qKH, qKG, qKR, -⟩ := hSv
      clear qHB qHL qKH qKG qKR
      go_simp
    try simp only [Act.put, List.setIfInBounds_toArray, List.set_cons_zero, List.set_cons_succ]
    refine wpAnyH_take (i := 25) (v := .int .i64 h.t) (at_list rfl) (by kernel_rfl) (by kernel_rfl) (by kernel_rfl) (fun _ _ _ h => h) (Or.inl ⟨by rfl, ?_⟩) (by assumption) ?_
    · intro v hSv
      clear hHeld
      obtain ⟨qHB, qHL, qKH, qKG, qKR, -⟩ := hSv
      clear qHB qHL qKG qKR
      have qKH_0 := (qKH).reads (i := 0) rfl
      have qKH_1 := (qKH).reads (i := 1) rfl
      have qKH_2 := (qKH).reads (i := 2) rfl
      have qKH_3 := (qKH).reads (i := 3) rfl
      have qKH_4 := (qKH).reads (i := 4) rfl
      have qKH_5 := (qKH).reads (i := 5) rfl
      have qKH_6 := (qKH).reads (i := 6) rfl
      have qKH_7 := (qKH).reads (i := 7) rfl
      have qKH_8 := (qKH).reads (i := 8) rfl
      have qKH_9 := (qKH).reads (i := 9) rfl
      have qKH_10 := (qKH).reads (i := 10) rfl
      have qKH_11 := (qKH).reads (i := 11) rfl
      have qKH_12 := (qKH).reads (i := 12) rfl
      have qKH_13 := (qKH).reads (i := 13) rfl
      have qKH_14 := (qKH).reads (i := 14) rfl
      clear qKH
      go_simp
    try simp only [Act.put, List.setIfInBounds_toArray, List.set_cons_zero, List.set_cons_succ]
    refine wpAnyH_ready (rs := [23]) (by kernel_rfl) (by simp) ?_
    refine AllReadyH.cons (at_list rfl) (fun K hK => ?_) AllReadyH.nil
    go_simp
    refine (C3.out _ hHeld.2.1).mono ?_
    rintro e v8 ⟨rfl, hv8⟩
    go_wp2_with fail
    refine hK.out _ _ ?_ (fun hHeld2 => ?_)
    · exact ⟨bstep hHeld.1 hv8, hHeld.2.1.keptB hv8, hHeld.2.2.1.keptB hv8, hHeld.2.2.2.1.keptB hv8, hHeld.2.2.2.2.1.keptB hv8, trivial⟩
    clear hK K hHeld
    have hHeld := hHeld2
    clear hHeld2 hv8
    try simp only [Act.put, List.setIfInBounds_toArray, List.set_cons_zero, List.set_cons_succ]
    refine wpAnyH_ready (rs := [26]) (by kernel_rfl) (by simp) ?_
    refine AllReadyH.cons (at_list rfl) (fun K hK => ?_) AllReadyH.nil
    go_simp
    refine (C4.out _ hHeld.2.1).mono ?_
    rintro e v9 ⟨rfl, hv9⟩
    go_wp2_with fail
    refine hK.out _ _ ?_ (fun hHeld2 => ?_)
    · exact ⟨bstep hHeld.1 hv9, hHeld.2.1.keptB hv9, hHeld.2.2.1.keptB hv9, hHeld.2.2.2.1.keptB hv9, hHeld.2.2.2.2.1.keptB hv9, trivial⟩
    clear hK K hHeld
    have hHeld := hHeld2
    clear hHeld2 hv9
    try simp only [Act.put, List.setIfInBounds_toArray, List.set_cons_zero, List.set_cons_succ]
    refine wpAnyH_take (i := 27) (v := .bool true) (at_list rfl) (by kernel_rfl) (by kernel_rfl) (by kernel_rfl) (fun _ _ _ h => h) (Or.inl ⟨by rfl, ?_⟩) (by assumption) ?_
    · intro v hSv
      clear hHeld
      obtain ⟨qHB, qHL, qKH, qKG, qKR, -⟩ := hSv
      clear qHB qHL qKH qKG qKR
      go_simp
    try simp only [Act.put, List.setIfInBounds_toArray, List.set_cons_zero, List.set_cons_succ]
    refine wpAnyH_take (i := 28) (v := .bool true) (at_list rfl) (by kernel_rfl) (by kernel_rfl) (by kernel_rfl) (fun _ _ _ h => h) (Or.inl ⟨by rfl, ?_⟩) (by assumption) ?_
    · intro v hSv
      clear hHeld
      obtain ⟨qHB, qHL, qKH, qKG, qKR, -⟩ := hSv
      clear qHB qHL qKH qKG qKR
      go_simp
    try simp only [Act.put, List.setIfInBounds_toArray, List.set_cons_zero, List.set_cons_succ]
    refine wpAnyH_take (i := 29) (v := .bool true) (at_list rfl) (by kernel_rfl) (by kernel_rfl) (by kernel_rfl) (fun _ _ _ h => h) (Or.inl ⟨by rfl, ?_⟩) (by assumption) ?_
    · intro v hSv
      clear hHeld
      obtain ⟨qHB, qHL, qKH, qKG, qKR, -⟩ := hSv
      clear qHB qHL qKH qKG qKR
      go_simp
    try simp only [Act.put, List.setIfInBounds_toArray, List.set_cons_zero, List.set_cons_succ]
    refine wpAnyH_done (by kernel_rfl) ?_ _
    replace HB := Lib.hid hHeld.1
    replace HL := Lib.hid hHeld.2.1
    replace KH := Lib.hid hHeld.2.2.1
    replace KG := Lib.hid hHeld.2.2.2.1
    replace KR := Lib.hid hHeld.2.2.2.2.1
    clear hHeld
    go_wp2
    go_ret
    exact ⟨rfl, HB.out⟩

end Go.Proofs.YtfjbghenlchphaaDoor
