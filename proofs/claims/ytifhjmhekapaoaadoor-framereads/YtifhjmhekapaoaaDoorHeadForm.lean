/- The walk over head.formFault. -/
import Derived.Test.YtifhjmhekapaoaaDoorHeadEncode
namespace Go.Proofs.YtifhjmhekapaoaaDoor
set_option maxRecDepth 100000
open Go.RowKit
set_option linter.unusedVariables false

/-- what is amiss first with bytes, by the numbers themselves -/
def formM (L m z0 z1 z2 z3 z5 z16 z17 z18 z19 z32 : Int) : Int :=
  if L < 34 then 50 else if z1 ≠ 2 then 51 else if m = 0 then 52 else if z2 * 256 + z3 ≠ m ∨ L ≠ m then 53
  else if 15 < z0 ∨ z5 ≠ 0 ∨ z16 ≠ 0 ∨ z17 ≠ 0 ∨ z18 ≠ 0 ∨ z19 ≠ 0 ∨ z32 ≠ 0 then 54 else 0
theorem formN_eq (L : Int) (zs : List Int) : formN L zs = formM L (longN (zs.getD 0 0 % 16)) (zs.getD 0 0) (zs.getD 1 0) (zs.getD 2 0) (zs.getD 3 0) (zs.getD 5 0) (zs.getD 16 0) (zs.getD 17 0) (zs.getD 18 0) (zs.getD 19 0) (zs.getD 32 0) := rfl
theorem sub2 {zs : List Int} {k : Nat} (h : k + 2 ≤ zs.length) (hb : ∀ z ∈ zs, isByte z) : wrap64 (beN ((zs.drop k).take 2)) = zs.getD k 0 * 256 + zs.getD (k + 1) 0 := by
  have e : (zs.drop k).take 2 = [zs.getD k 0, zs.getD (k + 1) 0] := by
    apply List.ext_getElem?
    intro i
    rw [List.getElem?_take]
    match i with
    | 0 => simp [List.getElem?_drop, List.getD, List.getElem?_eq_getElem (show k < zs.length by omega)]
    | 1 => simp [List.getElem?_drop, List.getD, List.getElem?_eq_getElem (show k + 1 < zs.length by omega)]
    | i + 2 => rw [if_neg (by omega)]; rfl
  have b0 := getD_byte hb k
  have b1 := getD_byte hb (k + 1)
  rw [e]
  simp only [beN, List.foldl_cons, List.foldl_nil]
  unfold isByte at b0 b1
  unfold wrap64; omega
theorem sub4 {zs : List Int} {k : Nat} (h : k + 4 ≤ zs.length) (hb : ∀ z ∈ zs, isByte z) : wrap64 (beN ((zs.drop k).take 4)) = ((zs.getD k 0 * 256 + zs.getD (k + 1) 0) * 256 + zs.getD (k + 2) 0) * 256 + zs.getD (k + 3) 0 := by
  have e : (zs.drop k).take 4 = [zs.getD k 0, zs.getD (k + 1) 0, zs.getD (k + 2) 0, zs.getD (k + 3) 0] := by
    apply List.ext_getElem?
    intro i
    rw [List.getElem?_take]
    match i with
    | 0 => simp [List.getElem?_drop, List.getD, List.getElem?_eq_getElem (show k < zs.length by omega)]
    | 1 => simp [List.getElem?_drop, List.getD, List.getElem?_eq_getElem (show k + 1 < zs.length by omega)]
    | 2 => simp [List.getElem?_drop, List.getD, List.getElem?_eq_getElem (show k + 2 < zs.length by omega)]
    | 3 => simp [List.getElem?_drop, List.getD, List.getElem?_eq_getElem (show k + 3 < zs.length by omega)]
    | i + 4 => rw [if_neg (by omega)]; rfl
  have b0 := getD_byte hb k
  have b1 := getD_byte hb (k + 1)
  have b2 := getD_byte hb (k + 2)
  have b3 := getD_byte hb (k + 3)
  rw [e]
  simp only [beN, List.foldl_cons, List.foldl_nil]
  unfold isByte at b0 b1 b2 b3
  unfold wrap64; omega

set_option maxHeartbeats 400000 in
theorem form_short (A : Option Addr) (L C : Nat) (w : World) (hL : L < 34) :
    Calls Tryd.prog 18 #[.slice A L C] w fun e w' => e = .returned (.int .i64 50) ∧ w = w' := by
  have h1 : decide ((L : Int) < 34) = true := by simp; omega
  go_enter Tryd.func18, Tryd.ntmps18
  go_wp2
  go_ret
  exact ⟨rfl, rfl⟩

set_option maxRecDepth 100000 in
set_option maxHeartbeats 1000000 in
theorem form_any (a : Addr) (L C : Nat) (zs : List Int) (w : World) (hlen : zs.length = L) (hL : 34 ≤ L) (hC : L ≤ C) (hM : C ≤ maxLen) (hb : ∀ z ∈ zs, isByte z) (hc : BytesAt w a zs) (hl : Lens w) :
    Calls Tryd.prog 18 #[.slice (some a) L C] w fun e w' => e = .returned (.int .i64 (formN L zs)) ∧ w = w' := by
  obtain ⟨z0, hz0⟩ : ∃ z, zs.getD 0 0 = z := ⟨_, rfl⟩
  obtain ⟨z1, hz1⟩ : ∃ z, zs.getD 1 0 = z := ⟨_, rfl⟩
  obtain ⟨z2, hz2⟩ : ∃ z, zs.getD 2 0 = z := ⟨_, rfl⟩
  obtain ⟨z3, hz3⟩ : ∃ z, zs.getD 3 0 = z := ⟨_, rfl⟩
  obtain ⟨z5, hz5⟩ : ∃ z, zs.getD 5 0 = z := ⟨_, rfl⟩
  obtain ⟨z16, hz16⟩ : ∃ z, zs.getD 16 0 = z := ⟨_, rfl⟩
  obtain ⟨z17, hz17⟩ : ∃ z, zs.getD 17 0 = z := ⟨_, rfl⟩
  obtain ⟨z18, hz18⟩ : ∃ z, zs.getD 18 0 = z := ⟨_, rfl⟩
  obtain ⟨z19, hz19⟩ : ∃ z, zs.getD 19 0 = z := ⟨_, rfl⟩
  obtain ⟨z32, hz32⟩ : ∃ z, zs.getD 32 0 = z := ⟨_, rfl⟩
  rw [formN_eq]
  rw [hz0, hz1, hz2, hz3, hz5, hz16, hz17, hz18, hz19, hz32]
  obtain ⟨m, hm⟩ : ∃ m, longN (z0 % 16) = m := ⟨_, rfl⟩
  rw [hm]
  have hmb := longN_bd (z0 % 16)
  rw [hm] at hmb
  obtain ⟨m0, m1⟩ := hmb
  have R1 : Hid (∀ c, Calls Tryd.prog 20 #[.slice (some ⟨a.block, a.off + 2, none⟩) 2 c] w fun e w' => e = .returned (.int .i64 (wrap64 (beN ((zs.drop 2).take 2)))) ∧ w = w') := by
    intro c
    have hlen : ((zs.drop 2).take 2).length = 2 := by rw [List.length_take, List.length_drop]; omega
    have h := hread_any (a.add 2) c ((zs.drop 2).take 2) w (by omega) (fun z hz => hb z (List.mem_of_mem_drop (List.mem_of_mem_take hz))) (hc.sub 2 (fun i hi => by
      rw [hlen] at hi
      rw [List.getElem?_take, if_pos hi, List.getElem?_drop]))
    rw [hlen] at h
    exact h
  have R2 : Hid (∀ c, Calls Tryd.prog 20 #[.slice (some ⟨a.block, a.off + 16, none⟩) 4 c] w fun e w' => e = .returned (.int .i64 (wrap64 (beN ((zs.drop 16).take 4)))) ∧ w = w') := by
    intro c
    have hlen : ((zs.drop 16).take 4).length = 4 := by rw [List.length_take, List.length_drop]; omega
    have h := hread_any (a.add 16) c ((zs.drop 16).take 4) w (by omega) (fun z hz => hb z (List.mem_of_mem_drop (List.mem_of_mem_take hz))) (hc.sub 16 (fun i hi => by
      rw [hlen] at hi
      rw [List.getElem?_take, if_pos hi, List.getElem?_drop]))
    rw [hlen] at h
    exact h
  rw [sub2 (by omega) hb] at R1
  rw [sub4 (by omega) hb] at R2
  rw [hz2, hz3] at R1
  rw [hz16, hz17, hz18, hz19] at R2
  have e0 := hc 0 (by omega)
  have b0 := getD_byte hb 0
  rw [hz0] at e0 b0
  obtain ⟨b0l, b0h⟩ := b0
  rw [Addr.add_zero'] at e0
  have e1 := hc 1 (by omega)
  have b1 := getD_byte hb 1
  rw [hz1] at e1 b1
  obtain ⟨b1l, b1h⟩ := b1
  change w.cell? ⟨a.block, a.off + 1, none⟩ = _ at e1
  have e2 := hc 2 (by omega)
  have b2 := getD_byte hb 2
  rw [hz2] at e2 b2
  obtain ⟨b2l, b2h⟩ := b2
  change w.cell? ⟨a.block, a.off + 2, none⟩ = _ at e2
  have e3 := hc 3 (by omega)
  have b3 := getD_byte hb 3
  rw [hz3] at e3 b3
  obtain ⟨b3l, b3h⟩ := b3
  change w.cell? ⟨a.block, a.off + 3, none⟩ = _ at e3
  have e5 := hc 5 (by omega)
  have b5 := getD_byte hb 5
  rw [hz5] at e5 b5
  obtain ⟨b5l, b5h⟩ := b5
  change w.cell? ⟨a.block, a.off + 5, none⟩ = _ at e5
  have e16 := hc 16 (by omega)
  have b16 := getD_byte hb 16
  rw [hz16] at e16 b16
  obtain ⟨b16l, b16h⟩ := b16
  change w.cell? ⟨a.block, a.off + 16, none⟩ = _ at e16
  have e17 := hc 17 (by omega)
  have b17 := getD_byte hb 17
  rw [hz17] at e17 b17
  obtain ⟨b17l, b17h⟩ := b17
  change w.cell? ⟨a.block, a.off + 17, none⟩ = _ at e17
  have e18 := hc 18 (by omega)
  have b18 := getD_byte hb 18
  rw [hz18] at e18 b18
  obtain ⟨b18l, b18h⟩ := b18
  change w.cell? ⟨a.block, a.off + 18, none⟩ = _ at e18
  have e19 := hc 19 (by omega)
  have b19 := getD_byte hb 19
  rw [hz19] at e19 b19
  obtain ⟨b19l, b19h⟩ := b19
  change w.cell? ⟨a.block, a.off + 19, none⟩ = _ at e19
  have e32 := hc 32 (by omega)
  have b32 := getD_byte hb 32
  rw [hz32] at e32 b32
  obtain ⟨b32l, b32h⟩ := b32
  change w.cell? ⟨a.block, a.off + 32, none⟩ = _ at e32
  have HT := Lib.hid (typeOf_any a L C z0 w (by omega) (by omega) ⟨b0l, b0h⟩ e0)
  have HN : Hid (Calls Tryd.prog 52 #[.int .i64 (z0 % 16)] w fun e w' => e = .returned (.int .i64 m) ∧ w = w') := by rw [← hm]; exact long_any (z0 % 16) w hl
  clear hc hb hl hm hz0 hz1 hz2 hz3 hz5 hz16 hz17 hz18 hz19 hz32
  obtain ⟨x, hx⟩ : ∃ x, z2 * 256 + z3 = x := ⟨_, rfl⟩
  obtain ⟨y, hy⟩ : ∃ y, ((z16 * 256 + z17) * 256 + z18) * 256 + z19 = y := ⟨_, rfl⟩
  rw [hx] at R1
  rw [hy] at R2
  have hsh : z0 / 16 = 0 ∨ z0 / 16 ≠ 0 := by omega
  unfold maxLen at hM
  have hLs : decide ((L : Int) < 34) = false := by simp; omega
  have hL34 : (34 : Int) ≤ (L : Int) := by omega
  have hC34 : (34 : Int) ≤ (C : Int) := by omega
  by_cases c0 : z1 ≠ 2
  · have HX : Hid (formM L m z0 z1 z2 z3 z5 z16 z17 z18 z19 z32 = 51) := by
      rw [Hid]
      unfold formM
      repeat (first | omega | split)
    have d0 : (z1 != 2) = true := by simpa using c0
    clear c0 hx hy hsh
    go_enter Tryd.func18, Tryd.ntmps18
    go_wp2
    go_ret
    exact ⟨ret_int' HX.out.symm, rfl⟩
  · by_cases c1 : m = 0
    · have HX : Hid (formM L m z0 z1 z2 z3 z5 z16 z17 z18 z19 z32 = 52) := by
        rw [Hid]
        unfold formM
        repeat (first | omega | split)
      have d0 : (z1 != 2) = false := by simpa using c0
      have d1 : (m == 0) = true := by simpa using c1
      clear c0 c1 hx hy hsh
      go_enter Tryd.func18, Tryd.ntmps18
      go_wp2_with fail
      refine (HT.out).mono ?_
      rintro e w1 ⟨rfl, rfl⟩
      go_wp2_with fail
      refine (HN.out).mono ?_
      rintro e w2 ⟨rfl, rfl⟩
      go_wp2
      go_ret
      exact ⟨ret_int' HX.out.symm, rfl⟩
    · by_cases c2 : x ≠ m
      · have HX : Hid (formM L m z0 z1 z2 z3 z5 z16 z17 z18 z19 z32 = 53) := by
          rw [Hid]
          unfold formM
          repeat (first | omega | split)
        have d0 : (z1 != 2) = false := by simpa using c0
        have d1 : (m == 0) = false := by simpa using c1
        have d2 : (x != m) = true := by simpa using c2
        clear c0 c1 c2 hx hy hsh
        go_enter Tryd.func18, Tryd.ntmps18
        go_wp2_with fail
        refine (HT.out).mono ?_
        rintro e w1 ⟨rfl, rfl⟩
        go_wp2_with fail
        refine (HN.out).mono ?_
        rintro e w2 ⟨rfl, rfl⟩
        go_wp2_with fail
        refine (R1.out _).mono ?_
        rintro e w3 ⟨rfl, rfl⟩
        go_wp2
        go_ret
        exact ⟨ret_int' HX.out.symm, rfl⟩
      · by_cases c3 : (L : Int) ≠ m
        · have HX : Hid (formM L m z0 z1 z2 z3 z5 z16 z17 z18 z19 z32 = 53) := by
            rw [Hid]
            unfold formM
            repeat (first | omega | split)
          have d0 : (z1 != 2) = false := by simpa using c0
          have d1 : (m == 0) = false := by simpa using c1
          have d2 : (x != m) = false := by simpa using c2
          have d3 : ((L : Int) != m) = true := by simpa using c3
          clear c0 c1 c2 c3 hx hy hsh
          go_enter Tryd.func18, Tryd.ntmps18
          go_wp2_with fail
          refine (HT.out).mono ?_
          rintro e w1 ⟨rfl, rfl⟩
          go_wp2_with fail
          refine (HN.out).mono ?_
          rintro e w2 ⟨rfl, rfl⟩
          go_wp2_with fail
          refine (R1.out _).mono ?_
          rintro e w3 ⟨rfl, rfl⟩
          go_wp2
          go_ret
          exact ⟨ret_int' HX.out.symm, rfl⟩
        · by_cases c4 : z0 / 16 ≠ 0
          · have HX : Hid (formM L m z0 z1 z2 z3 z5 z16 z17 z18 z19 z32 = 54) := by
              rw [Hid]
              unfold formM
              repeat (first | omega | split)
            have d0 : (z1 != 2) = false := by simpa using c0
            have d1 : (m == 0) = false := by simpa using c1
            have d2 : (x != m) = false := by simpa using c2
            have d3 : ((L : Int) != m) = false := by simpa using c3
            have d4 : (z0 / 16 != 0) = true := by simpa using c4
            clear c0 c1 c2 c3 c4 hx hy hsh
            go_enter Tryd.func18, Tryd.ntmps18
            go_wp2_with fail
            refine (HT.out).mono ?_
            rintro e w1 ⟨rfl, rfl⟩
            go_wp2_with fail
            refine (HN.out).mono ?_
            rintro e w2 ⟨rfl, rfl⟩
            go_wp2_with fail
            refine (R1.out _).mono ?_
            rintro e w3 ⟨rfl, rfl⟩
            go_wp2
            go_ret
            exact ⟨ret_int' HX.out.symm, rfl⟩
          · by_cases c5 : z5 ≠ 0
            · have HX : Hid (formM L m z0 z1 z2 z3 z5 z16 z17 z18 z19 z32 = 54) := by
                rw [Hid]
                unfold formM
                repeat (first | omega | split)
              have d0 : (z1 != 2) = false := by simpa using c0
              have d1 : (m == 0) = false := by simpa using c1
              have d2 : (x != m) = false := by simpa using c2
              have d3 : ((L : Int) != m) = false := by simpa using c3
              have d4 : (z0 / 16 != 0) = false := by simpa using c4
              have d5 : (z5 != 0) = true := by simpa using c5
              clear c0 c1 c2 c3 c4 c5 hx hy hsh
              go_enter Tryd.func18, Tryd.ntmps18
              go_wp2_with fail
              refine (HT.out).mono ?_
              rintro e w1 ⟨rfl, rfl⟩
              go_wp2_with fail
              refine (HN.out).mono ?_
              rintro e w2 ⟨rfl, rfl⟩
              go_wp2_with fail
              refine (R1.out _).mono ?_
              rintro e w3 ⟨rfl, rfl⟩
              go_wp2
              go_ret
              exact ⟨ret_int' HX.out.symm, rfl⟩
            · by_cases c6 : y ≠ 0
              · have HX : Hid (formM L m z0 z1 z2 z3 z5 z16 z17 z18 z19 z32 = 54) := by
                  rw [Hid]
                  unfold formM
                  repeat (first | omega | split)
                have d0 : (z1 != 2) = false := by simpa using c0
                have d1 : (m == 0) = false := by simpa using c1
                have d2 : (x != m) = false := by simpa using c2
                have d3 : ((L : Int) != m) = false := by simpa using c3
                have d4 : (z0 / 16 != 0) = false := by simpa using c4
                have d5 : (z5 != 0) = false := by simpa using c5
                have d6 : (y != 0) = true := by simpa using c6
                clear c0 c1 c2 c3 c4 c5 c6 hx hy hsh
                go_enter Tryd.func18, Tryd.ntmps18
                go_wp2_with fail
                refine (HT.out).mono ?_
                rintro e w1 ⟨rfl, rfl⟩
                go_wp2_with fail
                refine (HN.out).mono ?_
                rintro e w2 ⟨rfl, rfl⟩
                go_wp2_with fail
                refine (R1.out _).mono ?_
                rintro e w3 ⟨rfl, rfl⟩
                go_wp2_with fail
                refine (R2.out _).mono ?_
                rintro e w4 ⟨rfl, rfl⟩
                go_wp2
                go_ret
                exact ⟨ret_int' HX.out.symm, rfl⟩
              · by_cases c7 : z32 ≠ 0
                · have HX : Hid (formM L m z0 z1 z2 z3 z5 z16 z17 z18 z19 z32 = 54) := by
                    rw [Hid]
                    unfold formM
                    repeat (first | omega | split)
                  have d0 : (z1 != 2) = false := by simpa using c0
                  have d1 : (m == 0) = false := by simpa using c1
                  have d2 : (x != m) = false := by simpa using c2
                  have d3 : ((L : Int) != m) = false := by simpa using c3
                  have d4 : (z0 / 16 != 0) = false := by simpa using c4
                  have d5 : (z5 != 0) = false := by simpa using c5
                  have d6 : (y != 0) = false := by simpa using c6
                  have d7 : (z32 != 0) = true := by simpa using c7
                  clear c0 c1 c2 c3 c4 c5 c6 c7 hx hy hsh
                  go_enter Tryd.func18, Tryd.ntmps18
                  go_wp2_with fail
                  refine (HT.out).mono ?_
                  rintro e w1 ⟨rfl, rfl⟩
                  go_wp2_with fail
                  refine (HN.out).mono ?_
                  rintro e w2 ⟨rfl, rfl⟩
                  go_wp2_with fail
                  refine (R1.out _).mono ?_
                  rintro e w3 ⟨rfl, rfl⟩
                  go_wp2_with fail
                  refine (R2.out _).mono ?_
                  rintro e w4 ⟨rfl, rfl⟩
                  go_wp2
                  go_ret
                  exact ⟨ret_int' HX.out.symm, rfl⟩
                · have HX : Hid (formM L m z0 z1 z2 z3 z5 z16 z17 z18 z19 z32 = 0) := by
                    rw [Hid]
                    unfold formM
                    repeat (first | omega | split)
                  have d0 : (z1 != 2) = false := by simpa using c0
                  have d1 : (m == 0) = false := by simpa using c1
                  have d2 : (x != m) = false := by simpa using c2
                  have d3 : ((L : Int) != m) = false := by simpa using c3
                  have d4 : (z0 / 16 != 0) = false := by simpa using c4
                  have d5 : (z5 != 0) = false := by simpa using c5
                  have d6 : (y != 0) = false := by simpa using c6
                  have d7 : (z32 != 0) = false := by simpa using c7
                  clear c0 c1 c2 c3 c4 c5 c6 c7 hx hy hsh
                  go_enter Tryd.func18, Tryd.ntmps18
                  go_wp2_with fail
                  refine (HT.out).mono ?_
                  rintro e w1 ⟨rfl, rfl⟩
                  go_wp2_with fail
                  refine (HN.out).mono ?_
                  rintro e w2 ⟨rfl, rfl⟩
                  go_wp2_with fail
                  refine (R1.out _).mono ?_
                  rintro e w3 ⟨rfl, rfl⟩
                  go_wp2_with fail
                  refine (R2.out _).mono ?_
                  rintro e w4 ⟨rfl, rfl⟩
                  go_wp2
                  go_ret
                  exact ⟨ret_int' HX.out.symm, rfl⟩

end Go.Proofs.YtifhjmhekapaoaaDoor
