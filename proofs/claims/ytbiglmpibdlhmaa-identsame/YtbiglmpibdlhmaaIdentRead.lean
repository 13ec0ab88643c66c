/- The walks over strings.IndexByte and ident.Read. -/
import Derived.Test.YtbiglmpibdlhmaaIdentReadMath
namespace Go.Proofs.Ytbiglmpibdlhmaa
open Go.RowKit
set_option linter.unusedVariables false

theorem index_ix {z : Int} (h : isByte z) : Lib.indexByte [48, 49, 50, 51, 52, 53, 54, 55, 56, 57, 97, 98, 99, 100, 101, 102] z.toNat.toUInt8 = ixN z := by
  obtain ⟨n, rfl⟩ := Int.eq_ofNat_of_zero_le h.1
  have hn : n < 256 := by have := h.2; omega
  have H : ∀ m : Fin 256, Lib.indexByte [48, 49, 50, 51, 52, 53, 54, 55, 56, 57, 97, 98, 99, 100, 101, 102] (((m.val : Int)).toNat.toUInt8) = ixN (m.val : Int) := by decide +kernel
  exact H ⟨n, hn⟩

set_option maxHeartbeats 400000 in
theorem ixlite_any (z : Int) (hz : isByte z) (w : World) :
    Calls Try.prog 32 #[.string { data := #[48, 49, 50, 51, 52, 53, 54, 55, 56, 57, 97, 98, 99, 100, 101, 102] }, .int .u8 z] w fun e w' => e = .returned (.int .i64 (ixN z)) ∧ w = w' := by
  have H := Lib.hid (index_ix hz)
  clear hz
  go_enter Try.func32, Try.ntmps32
  go_wp2
  rw [run_callFunc_extern Try.func33 (by kernel_rfl) (by kernel_rfl) (by kernel_rfl) (e := Extern.BytealgIndexByte.indexByte) (by kernel_rfl), Lib.run_indexByteString]
  simp only [Result.andThen]
  rw [Oper.upon_value]
  go_wp2
  go_ret
  exact ⟨ret_int H.out, rfl⟩

set_option maxHeartbeats 400000 in
theorem ixbyte_any (z : Int) (hz : isByte z) (w : World) :
    Calls Try.prog 28 #[.string { data := #[48, 49, 50, 51, 52, 53, 54, 55, 56, 57, 97, 98, 99, 100, 101, 102] }, .int .u8 z] w fun e w' => e = .returned (.int .i64 (ixN z)) ∧ w = w' := by
  go_enter Try.func28, Try.ntmps28
  go_wp2_with fail
  refine (ixlite_any z hz _).mono ?_
  rintro e w' ⟨rfl, rfl⟩
  go_wp2
  go_ret
  exact ⟨rfl, rfl⟩

theorem i64_or_16 (m z : Int) (h0 : 0 ≤ m) (h1 : m ≤ 15) (h2 : 0 ≤ z) (h3 : z ≤ 15) : bits .or .i64 (m * 16) z = m * 16 + z := by
  obtain ⟨M, rfl⟩ := Int.eq_ofNat_of_zero_le h0
  obtain ⟨Z, rfl⟩ := Int.eq_ofNat_of_zero_le h2
  have e : ((M : Int) * 16) = ((M * 16 : Nat) : Int) := by simp
  rw [e]
  have hx : M * 16 ||| Z < 2 ^ 64 := Nat.or_lt_two_pow (by omega) (by omega)
  show IntKind.i64.wrap ((BitVec.ofInt 64 ((M * 16 : Nat) : Int) ||| BitVec.ofInt 64 (Z : Int)).toNat : Int) = _
  rw [BitVec.toNat_or, ofInt_u64 _ (by omega), ofInt_u64 Z (by omega), nat_join 4 (M * 16) Z (by omega) (by omega), IntKind.wrap_i64]
  omega

theorem hold_part {v : World} {g : Nat} {t : TypeId} {p : Nat → Int} {k : Nat} (hk : k < 8) (h : Holds v g t #[.int .u8 (part8 p k).b0, .int .u8 (part8 p k).b1, .int .u8 (part8 p k).b2, .int .u8 (part8 p k).b3, .int .u8 (part8 p k).b4, .int .u8 (part8 p k).b5, .int .u8 (part8 p k).b6, .int .u8 (part8 p k).b7]) : Holds (v.setCell ⟨g, k, none⟩ (.int .u8 (p k))) g t #[.int .u8 (part8 p (k + 1)).b0, .int .u8 (part8 p (k + 1)).b1, .int .u8 (part8 p (k + 1)).b2, .int .u8 (part8 p (k + 1)).b3, .int .u8 (part8 p (k + 1)).b4, .int .u8 (part8 p (k + 1)).b5, .int .u8 (part8 p (k + 1)).b6, .int .u8 (part8 p (k + 1)).b7] := by
  match k, hk with
  | 0, _ => simpa [part8] using h.put 0 (.int .u8 (p 0))
  | 1, _ => simpa [part8] using h.put 1 (.int .u8 (p 1))
  | 2, _ => simpa [part8] using h.put 2 (.int .u8 (p 2))
  | 3, _ => simpa [part8] using h.put 3 (.int .u8 (p 3))
  | 4, _ => simpa [part8] using h.put 4 (.int .u8 (p 4))
  | 5, _ => simpa [part8] using h.put 5 (.int .u8 (p 5))
  | 6, _ => simpa [part8] using h.put 6 (.int .u8 (p 6))
  | 7, _ => simpa [part8] using h.put 7 (.int .u8 (p 7))

theorem index_str (s : ByteArray) (i : Int) (n : Nat) (hi : i = n) (hn : n < s.size) (w : World) : (Instr.index 9 (.string s) (.int .i64 i)).run Try.prog w = .ok (.int .u8 ((strL s).getD n 0)) w := by
  subst hi
  rw [run_index_string w 9 s .i64 n Try.underlying9, dif_pos ⟨by omega, by omega⟩, ← strL_at s n hn]
  rfl
theorem getD_byte {zs : List Int} (h : ∀ z ∈ zs, isByte z) (i : Nat) : isByte (zs.getD i 0) := by
  by_cases hi : i < zs.length
  · simp only [List.getD, List.getElem?_eq_getElem hi, Option.getD_some]; exact h _ (List.getElem_mem hi)
  · have e : zs[i]? = none := List.getElem?_eq_none (by omega)
    simp only [List.getD, e, Option.getD_none]; exact ⟨by omega, by omega⟩
/-- how a clock and a bool are told -/
def ckR (c : Ck) (B : Bool) : Ending := .returned (.tuple #[.agg #[.int .u8 c.b0, .int .u8 c.b1, .int .u8 c.b2, .int .u8 c.b3, .int .u8 c.b4, .int .u8 c.b5, .int .u8 c.b6, .int .u8 c.b7], .bool B])
theorem rd_no {zs : List Int} (h : rdB zs = false) : ckR (rdC zs) (rdB zs) = .returned (.tuple #[.agg #[.int .u8 0, .int .u8 0, .int .u8 0, .int .u8 0, .int .u8 0, .int .u8 0, .int .u8 0, .int .u8 0], .bool false]) := by
  unfold ckR rdC; rw [h]; rfl

set_option maxHeartbeats 400000 in
theorem idread_short (s : ByteArray) (w : World) (hs : s.size ≠ 16) (hm : s.size ≤ maxLen) :
    Calls Try.prog 16 #[.string s] w fun e w' => e = ckR (rdC (strL s)) (rdB (strL s)) ∧ Below w.heap.size w w' := by
  unfold maxLen at hm
  have hL' : ((s.size : Int) != 16) = true := by simp; omega
  have HR := Lib.hid (rd_no (zs := strL s) (by unfold rdB; rw [strL_length]; simp [hs]))
  go_enter Try.func16, Try.ntmps16
  go_wp2
  refine bodyPost_ret (v := .tuple #[.agg #[.int .u8 0, .int .u8 0, .int .u8 0, .int .u8 0, .int .u8 0, .int .u8 0, .int .u8 0, .int .u8 0], .bool false]) (by simp [results, Try.results16, go_sem]) rfl ⟨HR.out.symm, ?_⟩
  repeat' (first
    | (with_reducible exact Below.refl _ _)
    | (with_reducible exact HB.out)
    | (with_reducible refine Below.setCell ?_ (by first | exact Nat.le_refl _ | (simp; done) | (simp; omega)) _)
    | (with_reducible refine bstep ?_ (bnew _ _))
    | (with_reducible refine bdrew ?_))

set_option maxHeartbeats 1000000 in
theorem idread_16 (s : ByteArray) (w : World) (hs : s.size = 16) :
    Calls Try.prog 16 #[.string s] w fun e w' => e = ckR (rdC (strL s)) (rdB (strL s)) ∧ Below w.heap.size w w' := by
  have hL' : ((s.size : Int) != 16) = false := by simp; omega
  have HS := Lib.hid hs
  clear hs
  obtain ⟨zs, HZ⟩ : ∃ zs, Hid (strL s = zs) := ⟨_, Lib.hid rfl⟩
  have HL : Hid (zs.length = 16) := by rw [Hid, ← HZ.out, strL_length]; exact HS.out
  have HBy : Hid (∀ z ∈ zs, isByte z) := by rw [Hid, ← HZ.out]; exact strL_byte s
  rw [HZ.out]
  have KR := Lib.hid ((Holds.fresh w 23 #[.int .u8 0, .int .u8 0, .int .u8 0, .int .u8 0, .int .u8 0, .int .u8 0, .int .u8 0, .int .u8 0] rfl).laid (.cells #[.int .u8 0, .int .u8 0, .int .u8 0, .int .u8 0, .int .u8 0, .int .u8 0, .int .u8 0, .int .u8 0] 23))
  have KC : Hid (Holds ((w.alloc (.cells #[.int .u8 0, .int .u8 0, .int .u8 0, .int .u8 0, .int .u8 0, .int .u8 0, .int .u8 0, .int .u8 0] 23)).alloc (.cells #[.int .u8 0, .int .u8 0, .int .u8 0, .int .u8 0, .int .u8 0, .int .u8 0, .int .u8 0, .int .u8 0] 23)) (w.heap.size + 1) 23 #[.int .u8 (part8 (fun i => pos0 (pk zs i)) 0).b0, .int .u8 (part8 (fun i => pos0 (pk zs i)) 0).b1, .int .u8 (part8 (fun i => pos0 (pk zs i)) 0).b2, .int .u8 (part8 (fun i => pos0 (pk zs i)) 0).b3, .int .u8 (part8 (fun i => pos0 (pk zs i)) 0).b4, .int .u8 (part8 (fun i => pos0 (pk zs i)) 0).b5, .int .u8 (part8 (fun i => pos0 (pk zs i)) 0).b6, .int .u8 (part8 (fun i => pos0 (pk zs i)) 0).b7]) := Lib.hid (Holds.fresh (w.alloc (.cells #[.int .u8 0, .int .u8 0, .int .u8 0, .int .u8 0, .int .u8 0, .int .u8 0, .int .u8 0, .int .u8 0] 23)) 23 #[.int .u8 0, .int .u8 0, .int .u8 0, .int .u8 0, .int .u8 0, .int .u8 0, .int .u8 0, .int .u8 0] (g := w.heap.size + 1) (by simp))
  have HB := Lib.hid (bstep (bnew w (.cells #[.int .u8 0, .int .u8 0, .int .u8 0, .int .u8 0, .int .u8 0, .int .u8 0, .int .u8 0, .int .u8 0] 23)) (bnew _ (.cells #[.int .u8 0, .int .u8 0, .int .u8 0, .int .u8 0, .int .u8 0, .int .u8 0, .int .u8 0, .int .u8 0] 23)))
  go_enter Try.func16, Try.ntmps16
  go_wp2
  clear hL'
  generalize (w.alloc (.cells #[.int .u8 0, .int .u8 0, .int .u8 0, .int .u8 0, .int .u8 0, .int .u8 0, .int .u8 0, .int .u8 0] 23)).alloc (.cells #[.int .u8 0, .int .u8 0, .int .u8 0, .int .u8 0, .int .u8 0, .int .u8 0, .int .u8 0, .int .u8 0] 23) = W at *
  go_loopw [12] (fun i v => ∃ k : Nat, k ≤ 8 ∧ i = .int .i64 k ∧ Hid (∀ j, j < k → 0 ≤ pk zs j) ∧ Hid (Holds v w.heap.size 23 #[.int .u8 0, .int .u8 0, .int .u8 0, .int .u8 0, .int .u8 0, .int .u8 0, .int .u8 0, .int .u8 0]) ∧ Hid (Holds v (w.heap.size + 1) 23 #[.int .u8 (part8 (fun i => pos0 (pk zs i)) k).b0, .int .u8 (part8 (fun i => pos0 (pk zs i)) k).b1, .int .u8 (part8 (fun i => pos0 (pk zs i)) k).b2, .int .u8 (part8 (fun i => pos0 (pk zs i)) k).b3, .int .u8 (part8 (fun i => pos0 (pk zs i)) k).b4, .int .u8 (part8 (fun i => pos0 (pk zs i)) k).b5, .int .u8 (part8 (fun i => pos0 (pk zs i)) k).b6, .int .u8 (part8 (fun i => pos0 (pk zs i)) k).b7]) ∧ Hid (Below w.heap.size w v)) (fun i _ => 8 - (intOf i).toNat)
  case atStart => exact ⟨0, by omega, rfl, Lib.hid (fun j hj => by omega), KR, KC, HB⟩
  case round =>
    clear KR KC HB
    obtain ⟨k, hk, rfl, HG, KR, KC, HB⟩ := hrel
    by_cases hlt : k < 8
    · obtain ⟨i0, q1⟩ : ∃ i, IntKind.i64.wrap (2 * (k : Int)) = i := ⟨_, rfl⟩
      obtain ⟨i1, q2⟩ : ∃ i, IntKind.i64.wrap (i0 + 1) = i := ⟨_, rfl⟩
      have e0 : i0 = ((2 * k : Nat) : Int) := by rw [← q1, IntKind.wrap_i64]; omega
      have e1 : i1 = ((2 * k + 1 : Nat) : Int) := by rw [← q2, e0, IntKind.wrap_i64]; omega
      have x0 := index_str s i0 (2 * k) e0 (by rw [HS.out]; omega)
      have x1 := index_str s i1 (2 * k + 1) e1 (by rw [HS.out]; omega)
      rw [HZ.out] at x0 x1
      have b0 := getD_byte HBy.out (2 * k)
      have b1 := getD_byte HBy.out (2 * k + 1)
      have HP := Lib.hid (show pk zs k = prN (zs.getD (2 * k) 0) (zs.getD (2 * k + 1) 0) from rfl)
      obtain ⟨z0, hz0⟩ : ∃ z, zs.getD (2 * k) 0 = z := ⟨_, rfl⟩
      obtain ⟨z1, hz1⟩ : ∃ z, zs.getD (2 * k + 1) 0 = z := ⟨_, rfl⟩
      rw [hz0] at x0 b0 HP
      rw [hz1] at x1 b1 HP
      obtain ⟨h, HH⟩ : ∃ h, Hid (ixN z0 = h) := ⟨_, Lib.hid rfl⟩
      obtain ⟨l, HLo⟩ : ∃ h, Hid (ixN z1 = h) := ⟨_, Lib.hid rfl⟩
      have C1 : Hid (∀ v, Calls Try.prog 28 #[.string { data := #[48, 49, 50, 51, 52, 53, 54, 55, 56, 57, 97, 98, 99, 100, 101, 102] }, .int .u8 z0] v fun e w' => e = .returned (.int .i64 h) ∧ v = w') := by
        rw [← HH.out]; exact ixbyte_any z0 b0
      have C2 : Hid (∀ v, Calls Try.prog 28 #[.string { data := #[48, 49, 50, 51, 52, 53, 54, 55, 56, 57, 97, 98, 99, 100, 101, 102] }, .int .u8 z1] v fun e w' => e = .returned (.int .i64 l) ∧ v = w') := by
        rw [← HLo.out]; exact ixbyte_any z1 b1
      have bh := ixN_bd z0
      have bl := ixN_bd z1
      rw [HH.out] at bh
      rw [HLo.out] at bl
      unfold prN at HP
      rw [HH.out, HLo.out] at HP
      obtain ⟨bh0, bh1⟩ := bh
      obtain ⟨bl0, bl1⟩ := bl
      clear hz0 hz1 e0 e1 b0 b1
      go_wp2
      go_quiet ((first | (go_at_call 28; exact quiet_same (C1.out _)) | (go_at_call 28; exact quiet_same (C2.out _))))
      clear C1 C2 q1 q2 x0 x1
      by_cases hbad : h < 0 ∨ l < 0
      · have HR : Hid (ckR (rdC zs) (rdB zs) = .returned (.tuple #[.agg #[.int .u8 0, .int .u8 0, .int .u8 0, .int .u8 0, .int .u8 0, .int .u8 0, .int .u8 0, .int .u8 0], .bool false])) := by
          refine rd_no ?_
          cases hb : rdB zs
          · rfl
          · have := (rdB_iff.1 hb).2 k hlt
            rw [HP.out, if_pos hbad] at this
            omega
        have k0 := (KR.out).reads (i := 0) rfl
        have k1 := (KR.out).reads (i := 1) rfl
        have k2 := (KR.out).reads (i := 2) rfl
        have k3 := (KR.out).reads (i := 3) rfl
        have k4 := (KR.out).reads (i := 4) rfl
        have k5 := (KR.out).reads (i := 5) rfl
        have k6 := (KR.out).reads (i := 6) rfl
        have k7 := (KR.out).reads (i := 7) rfl
        have f0 := (KR.out).open_ 0
        have f1 := (KR.out).open_ 1
        have f2 := (KR.out).open_ 2
        have f3 := (KR.out).open_ 3
        have f4 := (KR.out).open_ 4
        have f5 := (KR.out).open_ 5
        have f6 := (KR.out).open_ 6
        have f7 := (KR.out).open_ 7
        by_cases hh : h < 0
        · have hd0 : decide (h < 0) = true := by simpa using hh
          go_wp2
          refine bodyPost_ret (v := .tuple #[.agg #[.int .u8 0, .int .u8 0, .int .u8 0, .int .u8 0, .int .u8 0, .int .u8 0, .int .u8 0, .int .u8 0], .bool false]) (by simp [results, Try.results16, go_sem, k0, k1, k2, k3, k4, k5, k6, k7]) rfl ⟨HR.out.symm, ?_⟩
          repeat' (first
            | (with_reducible exact Below.refl _ _)
            | (with_reducible exact HB.out)
            | (with_reducible exact bdrawn HB.out _)
            | (with_reducible refine Below.setCell ?_ (by first | exact Nat.le_refl _ | (simp; done) | (simp; omega)) _)
            | (with_reducible refine bstep ?_ (bnew _ _))
            | (with_reducible refine bdrew ?_))
        · have hd0 : decide (h < 0) = false := by simpa using hh
          have hd1 : decide (l < 0) = true := by simp; omega
          go_wp2
          refine bodyPost_ret (v := .tuple #[.agg #[.int .u8 0, .int .u8 0, .int .u8 0, .int .u8 0, .int .u8 0, .int .u8 0, .int .u8 0, .int .u8 0], .bool false]) (by simp [results, Try.results16, go_sem, k0, k1, k2, k3, k4, k5, k6, k7]) rfl ⟨HR.out.symm, ?_⟩
          repeat' (first
            | (with_reducible exact Below.refl _ _)
            | (with_reducible exact HB.out)
            | (with_reducible exact bdrawn HB.out _)
            | (with_reducible refine Below.setCell ?_ (by first | exact Nat.le_refl _ | (simp; done) | (simp; omega)) _)
            | (with_reducible refine bstep ?_ (bnew _ _))
            | (with_reducible refine bdrew ?_))
      · have hd0 : decide (h < 0) = false := by simp; omega
        have hd1 : decide (l < 0) = false := by simp; omega
        have h0 : 0 ≤ h := by omega
        have l0 : 0 ≤ l := by omega
        have ho := i64_or_16 h l h0 bh1 l0 bl1
        obtain ⟨m, hm⟩ : ∃ m, h * 16 + l = m := ⟨_, rfl⟩
        rw [if_neg hbad, hm] at HP
        have m0 : 0 ≤ m := by omega
        have m1 : m ≤ 255 := by omega
        rw [hm] at ho
        have HM : Hid (pos0 (pk zs k) = m) := by rw [Hid, HP.out]; unfold pos0; rw [if_neg (by omega)]
        clear hm hbad
        have c1 := Ck.cell KC.out hlt
        obtain ⟨y, hy⟩ : ∃ y, (part8 (fun i => pos0 (pk zs i)) k).l.getD k 0 = y := ⟨_, rfl⟩
        rw [hy] at c1
        clear hy
        have c2 := (KC.out).open_ k
        go_wp2
        go_roundw
        case rel =>
          refine ⟨k + 1, by omega, by go_num, ?_, ?_, ?_, ?_⟩
          · intro j hj
            rcases (by omega : j < k ∨ j = k) with h | h
            · exact HG.out j h
            · rw [h, HP.out]; exact m0
          · exact ((KR.out).drawn _).aside (by simp) _
          · have h := hold_part hlt ((KC.out).drawn nq)
            rw [HM.out] at h
            exact h
          · exact (bdrawn HB.out _).setCell (by simp) _
        case measure => simp [intOf]; omega
    · obtain rfl : k = 8 := by omega
      have hR : rdB zs = true := rdB_iff.2 ⟨HL.out, HG.out⟩
      obtain ⟨c, HC⟩ : ∃ c, Hid (part8 (fun i => pos0 (pk zs i)) 8 = c) := ⟨_, Lib.hid rfl⟩
      have HR : Hid (ckR (rdC zs) (rdB zs) = .returned (.tuple #[.agg #[.int .u8 c.b0, .int .u8 c.b1, .int .u8 c.b2, .int .u8 c.b3, .int .u8 c.b4, .int .u8 c.b5, .int .u8 c.b6, .int .u8 c.b7], .bool true])) := by
        rw [Hid, ← HC.out]; unfold ckR rdC; rw [hR]; rfl
      rw [HC.out] at KC
      clear hR
      have k0 := (KR.out).reads (i := 0) rfl
      have k1 := (KR.out).reads (i := 1) rfl
      have k2 := (KR.out).reads (i := 2) rfl
      have k3 := (KR.out).reads (i := 3) rfl
      have k4 := (KR.out).reads (i := 4) rfl
      have k5 := (KR.out).reads (i := 5) rfl
      have k6 := (KR.out).reads (i := 6) rfl
      have k7 := (KR.out).reads (i := 7) rfl
      have f0 := (KR.out).open_ 0
      have f1 := (KR.out).open_ 1
      have f2 := (KR.out).open_ 2
      have f3 := (KR.out).open_ 3
      have f4 := (KR.out).open_ 4
      have f5 := (KR.out).open_ 5
      have f6 := (KR.out).open_ 6
      have f7 := (KR.out).open_ 7
      have c0 := (KC.out).reads (i := 0) rfl
      have c1 := (KC.out).reads (i := 1) rfl
      have c2 := (KC.out).reads (i := 2) rfl
      have c3 := (KC.out).reads (i := 3) rfl
      have c4 := (KC.out).reads (i := 4) rfl
      have c5 := (KC.out).reads (i := 5) rfl
      have c6 := (KC.out).reads (i := 6) rfl
      have c7 := (KC.out).reads (i := 7) rfl
      go_wp2
      refine bodyPost_ret (v := .tuple #[.agg #[.int .u8 c.b0, .int .u8 c.b1, .int .u8 c.b2, .int .u8 c.b3, .int .u8 c.b4, .int .u8 c.b5, .int .u8 c.b6, .int .u8 c.b7], .bool true]) (by simp [results, Try.results16, go_sem, k0, k1, k2, k3, k4, k5, k6, k7]) rfl ⟨HR.out.symm, ?_⟩
      repeat' (first
        | (with_reducible exact Below.refl _ _)
        | (with_reducible exact HB.out)
        | (with_reducible exact bdrawn HB.out _)
        | (with_reducible refine Below.setCell ?_ (by first | exact Nat.le_refl _ | (simp; done) | (simp; omega)) _)
        | (with_reducible refine bstep ?_ (bnew _ _))
        | (with_reducible refine bdrew ?_))

end Go.Proofs.Ytbiglmpibdlhmaa
