/- The walk over the reference's Read of layer 4. -/
import Derived.Test.YtbiglmpibdlhmaaIdentRead
import Derived.Test.YtbiglmpibdlhmaaIdentTextRef
namespace Go.Proofs.Ytbiglmpibdlhmaa
open Go.RowKit
set_option linter.unusedVariables false

def setC (c : Ck) (k : Nat) (y : Int) : Ck := ⟨if k = 0 then y else c.b0, if k = 1 then y else c.b1, if k = 2 then y else c.b2, if k = 3 then y else c.b3, if k = 4 then y else c.b4, if k = 5 then y else c.b5, if k = 6 then y else c.b6, if k = 7 then y else c.b7⟩
theorem hold_set {v : World} {g : Nat} {t : TypeId} {c : Ck} {k : Nat} (hk : k < 8) (y : Int) (h : Holds v g t #[.int .u8 c.b0, .int .u8 c.b1, .int .u8 c.b2, .int .u8 c.b3, .int .u8 c.b4, .int .u8 c.b5, .int .u8 c.b6, .int .u8 c.b7]) : Holds (v.setCell ⟨g, k, none⟩ (.int .u8 y)) g t #[.int .u8 (setC c k y).b0, .int .u8 (setC c k y).b1, .int .u8 (setC c k y).b2, .int .u8 (setC c k y).b3, .int .u8 (setC c k y).b4, .int .u8 (setC c k y).b5, .int .u8 (setC c k y).b6, .int .u8 (setC c k y).b7] := by
  match k, hk with
  | 0, _ => simpa [setC] using h.put 0 (.int .u8 y)
  | 1, _ => simpa [setC] using h.put 1 (.int .u8 y)
  | 2, _ => simpa [setC] using h.put 2 (.int .u8 y)
  | 3, _ => simpa [setC] using h.put 3 (.int .u8 y)
  | 4, _ => simpa [setC] using h.put 4 (.int .u8 y)
  | 5, _ => simpa [setC] using h.put 5 (.int .u8 y)
  | 6, _ => simpa [setC] using h.put 6 (.int .u8 y)
  | 7, _ => simpa [setC] using h.put 7 (.int .u8 y)

theorem setC_set (c : Ck) (k : Nat) (y y' : Int) : setC (setC c k y) k y' = setC c k y' := by
  unfold setC
  congr 1 <;> (simp only []; split <;> rfl)
theorem setC_zero (p : Nat → Int) {k : Nat} (hk : k < 8) : setC (part8 p k) k 0 = part8 p k := by
  match k, hk with
  | 0, _ => simp [setC, part8]
  | 1, _ => simp [setC, part8]
  | 2, _ => simp [setC, part8]
  | 3, _ => simp [setC, part8]
  | 4, _ => simp [setC, part8]
  | 5, _ => simp [setC, part8]
  | 6, _ => simp [setC, part8]
  | 7, _ => simp [setC, part8]

theorem setC_next (p : Nat → Int) {k : Nat} (hk : k < 8) : setC (part8 p k) k (p k) = part8 p (k + 1) := by
  match k, hk with
  | 0, _ => simp [setC, part8]
  | 1, _ => simp [setC, part8]
  | 2, _ => simp [setC, part8]
  | 3, _ => simp [setC, part8]
  | 4, _ => simp [setC, part8]
  | 5, _ => simp [setC, part8]
  | 6, _ => simp [setC, part8]
  | 7, _ => simp [setC, part8]

/-- what the cell holds when the first n bytes were tried -/
def inN (m : Int) (n : Nat) : Int := if 0 ≤ m ∧ m < n then m else 0
theorem inN_zero (m : Int) : inN m 0 = 0 := by unfold inN; rw [if_neg (by omega)]
theorem inN_hit (n : Nat) : inN n (n + 1) = n := by unfold inN; rw [if_pos (by omega)]
theorem inN_miss {m : Int} {n : Nat} (h : m ≠ n) : inN m (n + 1) = inN m n := by
  unfold inN
  by_cases hm : 0 ≤ m ∧ m < n
  · rw [if_pos hm, if_pos (by omega)]
  · rw [if_neg hm, if_neg (by omega)]
theorem inN_end {m : Int} (h : m ≤ 255) : inN m 256 = pos0 m := by
  unfold inN pos0
  by_cases hm : 0 ≤ m
  · rw [if_pos (by omega), if_neg (by omega)]
  · rw [if_neg (by omega), if_pos (by omega)]
theorem slice_str (s : ByteArray) (i j : Int) (n : Nat) (hi : i = n) (hj : j = ((n + 2 : Nat) : Int)) (hn : n + 2 ≤ s.size) (w : World) : (Instr.slice 9 (.string s) (some (.int .i64 i)) (some (.int .i64 j)) none).run Try.prog w = .ok (.string (strOfNums [(strL s).getD n 0, (strL s).getD (n + 1) 0])) w := by
  have h0 : 0 ≤ i := by omega
  have h1 : i ≤ j := by omega
  have h2 : j ≤ s.size := by omega
  have e := run_slice_string (P := Try.prog) w 9 s .i64 .i64 i j Try.underlying9 h0 h1 h2
  rw [e]
  congr 2
  apply ByteArray.ext
  apply Array.ext'
  rw [strOfNums_data]
  have e1 : i.toNat = n := by omega
  have e2 : j.toNat = n + 2 := by omega
  rw [e1, e2]
  have l1 : n < s.data.toList.length := by rw [Array.length_toList]; exact (by omega : n < s.size)
  have l2 : n + 1 < s.data.toList.length := by rw [Array.length_toList]; exact (by omega : n + 1 < s.size)
  have b1 : UInt8.ofNat ((strL s).getD n 0).toNat = s.data.toList[n] := by
    simp [strL, List.getD, List.getElem?_eq_getElem l1]
  have b2 : UInt8.ofNat ((strL s).getD (n + 1) 0).toNat = s.data.toList[n + 1] := by
    simp [strL, List.getD, List.getElem?_eq_getElem l2]
  simp only [List.map_cons, List.map_nil, b1, b2]
  rw [ByteArray.data_extract, Array.toList_extract, List.extract_eq_take_drop, List.drop_eq_getElem_cons l1, List.drop_eq_getElem_cons l2]
  simp

set_option maxHeartbeats 400000 in
theorem ridread_short (s : ByteArray) (w : World) (hs : s.size ≠ 16) (hm : s.size ≤ maxLen) :
    Calls Try.prog 17 #[.string s] w fun e w' => e = ckR (rdC (strL s)) (rdB (strL s)) ∧ Below w.heap.size w w' := by
  unfold maxLen at hm
  have hL' : ((s.size : Int) != 16) = true := by simp; omega
  have HR := Lib.hid (rd_no (zs := strL s) (by unfold rdB; rw [strL_length]; simp [hs]))
  go_enter Try.func17, Try.ntmps17
  go_wp2
  refine bodyPost_ret (v := .tuple #[.agg #[.int .u8 0, .int .u8 0, .int .u8 0, .int .u8 0, .int .u8 0, .int .u8 0, .int .u8 0, .int .u8 0], .bool false]) (by simp [results, Try.results17, go_sem]) rfl ⟨HR.out.symm, ?_⟩
  repeat' (first
    | (with_reducible exact Below.refl _ _)
    | (with_reducible refine Below.setCell ?_ (by first | exact Nat.le_refl _ | (simp; done) | (simp; omega)) _)
    | (with_reducible refine bstep ?_ (bnew _ _))
    | (with_reducible refine bdrew ?_))

set_option maxRecDepth 100000 in
set_option maxHeartbeats 1000000 in
theorem ridread_16 (s : ByteArray) (w : World) (hs : s.size = 16) :
    Calls Try.prog 17 #[.string s] w fun e w' => e = ckR (rdC (strL s)) (rdB (strL s)) ∧ Below w.heap.size w w' := by
  have hL' : ((s.size : Int) != 16) = false := by simp; omega
  have HS := Lib.hid hs
  clear hs
  obtain ⟨zs, HZ⟩ : ∃ zs, Hid (strL s = zs) := ⟨_, Lib.hid rfl⟩
  have HL : Hid (zs.length = 16) := by rw [Hid, ← HZ.out, strL_length]; exact HS.out
  have HBy : Hid (∀ z ∈ zs, isByte z) := by rw [Hid, ← HZ.out]; exact strL_byte s
  rw [HZ.out]
  have KR := Lib.hid ((Holds.fresh w 23 #[.int .u8 0, .int .u8 0, .int .u8 0, .int .u8 0, .int .u8 0, .int .u8 0, .int .u8 0, .int .u8 0] rfl).laid (.cells #[.int .u8 0, .int .u8 0, .int .u8 0, .int .u8 0, .int .u8 0, .int .u8 0, .int .u8 0, .int .u8 0] 23))
  have KC : Hid (Holds ((w.alloc (.cells #[.int .u8 0, .int .u8 0, .int .u8 0, .int .u8 0, .int .u8 0, .int .u8 0, .int .u8 0, .int .u8 0] 23)).alloc (.cells #[.int .u8 0, .int .u8 0, .int .u8 0, .int .u8 0, .int .u8 0, .int .u8 0, .int .u8 0, .int .u8 0] 23)) (w.heap.size + 1) 23 #[.int .u8 (part8 (fun i => pos0 (pk zs i)) 0).b0, .int .u8 (part8 (fun i => pos0 (pk zs i)) 0).b1, .int .u8 (part8 (fun i => pos0 (pk zs i)) 0).b2, .int .u8 (part8 (fun i => pos0 (pk zs i)) 0).b3, .int .u8 (part8 (fun i => pos0 (pk zs i)) 0).b4, .int .u8 (part8 (fun i => pos0 (pk zs i)) 0).b5, .int .u8 (part8 (fun i => pos0 (pk zs i)) 0).b6, .int .u8 (part8 (fun i => pos0 (pk zs i)) 0).b7]) := Lib.hid (Holds.fresh (w.alloc (.cells #[.int .u8 0, .int .u8 0, .int .u8 0, .int .u8 0, .int .u8 0, .int .u8 0, .int .u8 0, .int .u8 0] 23)) 23 #[.int .u8 0, .int .u8 0, .int .u8 0, .int .u8 0, .int .u8 0, .int .u8 0, .int .u8 0, .int .u8 0] (g := w.heap.size + 1) (by simp))
  have HB := Lib.hid (bstep (bnew w (.cells #[.int .u8 0, .int .u8 0, .int .u8 0, .int .u8 0, .int .u8 0, .int .u8 0, .int .u8 0, .int .u8 0] 23)) (bnew _ (.cells #[.int .u8 0, .int .u8 0, .int .u8 0, .int .u8 0, .int .u8 0, .int .u8 0, .int .u8 0, .int .u8 0] 23)))
  go_enter Try.func17, Try.ntmps17
  go_wp2
  clear hL'
  generalize (w.alloc (.cells #[.int .u8 0, .int .u8 0, .int .u8 0, .int .u8 0, .int .u8 0, .int .u8 0, .int .u8 0, .int .u8 0] 23)).alloc (.cells #[.int .u8 0, .int .u8 0, .int .u8 0, .int .u8 0, .int .u8 0, .int .u8 0, .int .u8 0, .int .u8 0] 23) = W at *
  go_loopw [5] (fun i v => ∃ k : Nat, k ≤ 8 ∧ i = .int .i64 k ∧ Hid (Holds v w.heap.size 23 #[.int .u8 0, .int .u8 0, .int .u8 0, .int .u8 0, .int .u8 0, .int .u8 0, .int .u8 0, .int .u8 0]) ∧ Hid (Holds v (w.heap.size + 1) 23 #[.int .u8 (part8 (fun i => pos0 (pk zs i)) k).b0, .int .u8 (part8 (fun i => pos0 (pk zs i)) k).b1, .int .u8 (part8 (fun i => pos0 (pk zs i)) k).b2, .int .u8 (part8 (fun i => pos0 (pk zs i)) k).b3, .int .u8 (part8 (fun i => pos0 (pk zs i)) k).b4, .int .u8 (part8 (fun i => pos0 (pk zs i)) k).b5, .int .u8 (part8 (fun i => pos0 (pk zs i)) k).b6, .int .u8 (part8 (fun i => pos0 (pk zs i)) k).b7]) ∧ Hid (Below w.heap.size w v)) (fun i _ => 8 - (intOf i).toNat)
  case atStart => exact ⟨0, by omega, rfl, KR, KC, HB⟩
  case round =>
    clear KR KC HB
    obtain ⟨k, hk, rfl, KR, KC, HB⟩ := hrel
    by_cases hlt : k < 8
    · obtain ⟨i0, q1⟩ : ∃ i, IntKind.i64.wrap (2 * (k : Int)) = i := ⟨_, rfl⟩
      obtain ⟨i2, q2⟩ : ∃ i, IntKind.i64.wrap (i0 + 2) = i := ⟨_, rfl⟩
      have e0 : i0 = ((2 * k : Nat) : Int) := by rw [← q1, IntKind.wrap_i64]; omega
      have e2 : i2 = ((2 * k + 2 : Nat) : Int) := by rw [← q2, e0, IntKind.wrap_i64]; omega
      have hsl := slice_str s i0 i2 (2 * k) e0 e2 (by rw [HS.out]; omega)
      rw [HZ.out] at hsl
      have b0 := getD_byte HBy.out (2 * k)
      have b1 := getD_byte HBy.out (2 * k + 1)
      have HP := Lib.hid (show pk zs k = prN (zs.getD (2 * k) 0) (zs.getD (2 * k + 1) 0) from rfl)
      obtain ⟨z0, hz0⟩ : ∃ z, zs.getD (2 * k) 0 = z := ⟨_, rfl⟩
      obtain ⟨z1, hz1⟩ : ∃ z, zs.getD (2 * k + 1) 0 = z := ⟨_, rfl⟩
      rw [hz0] at hsl b0 HP
      rw [hz1] at hsl b1 HP
      have mb := (prN_bd z0 z1).2
      obtain ⟨m, hm⟩ : ∃ m, prN z0 z1 = m := ⟨_, rfl⟩
      rw [hm] at HP mb
      have HM := Lib.hid hm
      obtain ⟨Q, hQ⟩ : ∃ Q, strOfNums [z0, z1] = Q := ⟨_, rfl⟩
      rw [hQ] at hsl
      have HQ := Lib.hid hQ
      have HB0 := Lib.hid b0
      have HB1 := Lib.hid b1
      clear hz0 hz1 e0 e2 b0 b1 hm hQ
      have KC0 : Hid (Holds wr (w.heap.size + 1) 23 #[.int .u8 (setC (part8 (fun i => pos0 (pk zs i)) k) k (inN m 0)).b0, .int .u8 (setC (part8 (fun i => pos0 (pk zs i)) k) k (inN m 0)).b1, .int .u8 (setC (part8 (fun i => pos0 (pk zs i)) k) k (inN m 0)).b2, .int .u8 (setC (part8 (fun i => pos0 (pk zs i)) k) k (inN m 0)).b3, .int .u8 (setC (part8 (fun i => pos0 (pk zs i)) k) k (inN m 0)).b4, .int .u8 (setC (part8 (fun i => pos0 (pk zs i)) k) k (inN m 0)).b5, .int .u8 (setC (part8 (fun i => pos0 (pk zs i)) k) k (inN m 0)).b6, .int .u8 (setC (part8 (fun i => pos0 (pk zs i)) k) k (inN m 0)).b7]) := by
        rw [Hid, inN_zero, setC_zero _ hlt]; exact KC.out
      go_wp2
      go_loopw [6] (fun i v => ∃ j : Nat, j ≤ 256 ∧ i = .int .i64 j ∧ Hid (Holds v w.heap.size 23 #[.int .u8 0, .int .u8 0, .int .u8 0, .int .u8 0, .int .u8 0, .int .u8 0, .int .u8 0, .int .u8 0]) ∧ Hid (Holds v (w.heap.size + 1) 23 #[.int .u8 (setC (part8 (fun i => pos0 (pk zs i)) k) k (inN m j)).b0, .int .u8 (setC (part8 (fun i => pos0 (pk zs i)) k) k (inN m j)).b1, .int .u8 (setC (part8 (fun i => pos0 (pk zs i)) k) k (inN m j)).b2, .int .u8 (setC (part8 (fun i => pos0 (pk zs i)) k) k (inN m j)).b3, .int .u8 (setC (part8 (fun i => pos0 (pk zs i)) k) k (inN m j)).b4, .int .u8 (setC (part8 (fun i => pos0 (pk zs i)) k) k (inN m j)).b5, .int .u8 (setC (part8 (fun i => pos0 (pk zs i)) k) k (inN m j)).b6, .int .u8 (setC (part8 (fun i => pos0 (pk zs i)) k) k (inN m j)).b7]) ∧ Hid (Below w.heap.size w v)) (fun i _ => 256 - (intOf i).toNat)
      case atStart => exact ⟨0, by omega, rfl, KR, KC0, HB⟩
      case round =>
        clear KR KC HB KC0
        obtain ⟨j, hj, rfl, KR, KC, HB⟩ := hrel
        by_cases hlj : j < 256
        · obtain ⟨a, q3⟩ : ∃ i, IntKind.i64.wrap ((j : Int) / 16) = i := ⟨_, rfl⟩
          obtain ⟨b, q4⟩ : ∃ i, (j : Int).tmod 16 = i := ⟨_, rfl⟩
          have ea : a = (j : Int) / 16 := by rw [← q3, IntKind.wrap_i64]; omega
          have eb : b = (j : Int) % 16 := by rw [← q4, Int.tmod_eq_emod_of_nonneg (by omega)]
          obtain ⟨P, hP⟩ : ∃ P, strOfNums [digN a, digN b] = P := ⟨_, rfl⟩
          have hadd := run_add_str (xs := [digN a]) (ys := [digN b]) (zs := [digN a, digN b]) (by simp) rfl
          rw [hP] at hadd
          have hpq : (P.toList == Q.toList) = decide (m = (j : Int)) := by
            rw [← hP, ← HQ.out, beq_str (by
              intro z hz; simp at hz
              rcases hz with rfl | rfl
              · exact digN_byte (by omega) (by omega)
              · exact digN_byte (by omega) (by omega)) (by
              intro z hz; simp at hz
              rcases hz with rfl | rfl
              · exact HB0.out
              · exact HB1.out), Bool.eq_iff_iff, ← HM.out, decide_eq_true_iff, prN_iff (by omega) (by omega), ea, eb]
            simp
          obtain ⟨d1, hd1⟩ : ∃ d, digN a = d := ⟨_, rfl⟩
          obtain ⟨d2, hd2⟩ : ∃ d, digN b = d := ⟨_, rfl⟩
          rw [hd1, hd2] at hadd
          have C1 : Hid (∀ v, Calls Try.prog 29 #[.int .i64 a] v fun e w' => e = .returned (.string (strOfNums [d1])) ∧ v = w') := by
            rw [← hd1]; exact digit_any a (by omega) (by omega)
          have C2 : Hid (∀ v, Calls Try.prog 29 #[.int .i64 b] v fun e w' => e = .returned (.string (strOfNums [d2])) ∧ v = w') := by
            rw [← hd2]; exact digit_any b (by omega) (by omega)
          have HPQ := Lib.hid hpq
          clear hd1 hd2 hP ea eb hpq
          go_wp2
          have hpq := HPQ.out
          by_cases hmj : m = (j : Int)
          · rw [decide_eq_true hmj] at hpq
            go_quiet ((first | (go_at_call 29; exact quiet_same (C1.out _)) | (go_at_call 29; exact quiet_same (C2.out _))))
            have HMJ := Lib.hid hmj
            clear hmj C1 C2 q3 q4 hadd hpq
            have c1 := Ck.cell KC.out hlt
            obtain ⟨y, hy⟩ : ∃ y, (setC (part8 (fun i => pos0 (pk zs i)) k) k (inN m j)).l.getD k 0 = y := ⟨_, rfl⟩
            rw [hy] at c1
            clear hy
            have c2 := (KC.out).open_ k
            have j0 : (0 : Int) ≤ (j : Int) := by omega
            have j1 : (j : Int) ≤ 255 := by omega
            go_wp2
            go_roundw
            case rel =>
              refine ⟨j + 1, by omega, by go_num, ?_, ?_, ?_⟩
              · exact ((KR.out).drawn _).aside (by simp) _
              · have h := hold_set hlt (j : Int) ((KC.out).drawn nq)
                rw [setC_set] at h
                rw [HMJ.out, inN_hit]
                exact h
              · exact (bdrawn HB.out _).setCell (by simp) _
            case measure => simp [intOf]; omega
          · rw [decide_eq_false hmj] at hpq
            go_quiet ((first | (go_at_call 29; exact quiet_same (C1.out _)) | (go_at_call 29; exact quiet_same (C2.out _))))
            have HMJ := Lib.hid hmj
            clear hmj C1 C2 q3 q4 hadd hpq
            go_wp2
            go_roundw
            case rel =>
              refine ⟨j + 1, by omega, by go_num, (KR.out).drawn _, ?_, bdrawn HB.out _⟩
              rw [inN_miss HMJ.out]
              exact (KC.out).drawn _
            case measure => simp [intOf]; omega
        · obtain rfl : j = 256 := by omega
          clear hsl q1 q2
          go_wp2
          go_roundw
          case rel =>
            refine ⟨k + 1, by omega, by go_num, KR, ?_, HB⟩
            have h := KC.out
            rw [inN_end mb, ← HP.out, setC_next (fun i => pos0 (pk zs i)) hlt] at h
            exact h
          case measure => simp [intOf]; omega
    · obtain rfl : k = 8 := by omega
      have hok : (part8 (fun i => pos0 (pk zs i)) 8).ok := allC_ok zs
      have hx : (hexL (part8 (fun i => pos0 (pk zs i)) 8).l == zs) = rdB zs := by
        rw [Bool.eq_iff_iff, beq_iff_eq]; exact hex_all HL.out
      have hRC : rdB zs = true → ckR (rdC zs) (rdB zs) = ckR (part8 (fun i => pos0 (pk zs i)) 8) true := by
        intro h; unfold rdC; rw [h]; rfl
      obtain ⟨c, HC⟩ : ∃ c, Hid (part8 (fun i => pos0 (pk zs i)) 8 = c) := ⟨_, Lib.hid rfl⟩
      rw [HC.out] at KC hok hx hRC
      have hst : ((strOfNums (hexL c.l)).toList == s.toList) = rdB zs := by
        rw [← hx]
        conv => lhs; rw [← str_strL s, HZ.out]
        exact beq_str (hexL_byte hok) HBy.out
      have HO := Lib.hid hok
      have HRC := Lib.hid hRC
      obtain ⟨S, HSt⟩ : ∃ S, Hid (strOfNums (hexL c.l) = S) := ⟨_, Lib.hid rfl⟩
      rw [HSt.out] at hst
      obtain ⟨R, hR⟩ : ∃ R, rdB zs = R := ⟨_, rfl⟩
      have HR := Lib.hid hR
      rw [hR] at hst
      clear hok hx hRC hR
      have c0 := (KC.out).reads (i := 0) rfl
      have c1 := (KC.out).reads (i := 1) rfl
      have c2 := (KC.out).reads (i := 2) rfl
      have c3 := (KC.out).reads (i := 3) rfl
      have c4 := (KC.out).reads (i := 4) rfl
      have c5 := (KC.out).reads (i := 5) rfl
      have c6 := (KC.out).reads (i := 6) rfl
      have c7 := (KC.out).reads (i := 7) rfl
      go_wp2_with fail
      refine (rtext_any c HO.out _).mono ?_
      rintro e w1 ⟨rfl, hb1⟩
      rw [HSt.out]
      replace KC := Lib.hid ((KC.out).kept hb1 (KC.out).inside)
      replace KR := Lib.hid ((KR.out).kept hb1 (KR.out).inside)
      replace HB := Lib.hid (bstep HB.out hb1)
      clear hb1 c0 c1 c2 c3 c4 c5 c6 c7
      have k0 := (KR.out).reads (i := 0) rfl
      have k1 := (KR.out).reads (i := 1) rfl
      have k2 := (KR.out).reads (i := 2) rfl
      have k3 := (KR.out).reads (i := 3) rfl
      have k4 := (KR.out).reads (i := 4) rfl
      have k5 := (KR.out).reads (i := 5) rfl
      have k6 := (KR.out).reads (i := 6) rfl
      have k7 := (KR.out).reads (i := 7) rfl
      have f0 := (KR.out).open_ 0
      have f1 := (KR.out).open_ 1
      have f2 := (KR.out).open_ 2
      have f3 := (KR.out).open_ 3
      have f4 := (KR.out).open_ 4
      have f5 := (KR.out).open_ 5
      have f6 := (KR.out).open_ 6
      have f7 := (KR.out).open_ 7
      have c0 := (KC.out).reads (i := 0) rfl
      have c1 := (KC.out).reads (i := 1) rfl
      have c2 := (KC.out).reads (i := 2) rfl
      have c3 := (KC.out).reads (i := 3) rfl
      have c4 := (KC.out).reads (i := 4) rfl
      have c5 := (KC.out).reads (i := 5) rfl
      have c6 := (KC.out).reads (i := 6) rfl
      have c7 := (KC.out).reads (i := 7) rfl
      cases R
      · have HE := Lib.hid (rd_no HR.out)
        go_wp2
        refine bodyPost_ret (v := .tuple #[.agg #[.int .u8 0, .int .u8 0, .int .u8 0, .int .u8 0, .int .u8 0, .int .u8 0, .int .u8 0, .int .u8 0], .bool false]) (by simp [results, Try.results17, go_sem, k0, k1, k2, k3, k4, k5, k6, k7]) rfl ⟨HE.out.symm, ?_⟩
        repeat' (first
          | (with_reducible exact Below.refl _ _)
          | (with_reducible exact HB.out)
          | (with_reducible exact bdrawn HB.out _)
          | (with_reducible refine Below.setCell ?_ (by first | exact Nat.le_refl _ | (simp; done) | (simp; omega)) _)
          | (with_reducible refine bstep ?_ (bnew _ _))
          | (with_reducible refine bdrew ?_))
      · have HE := Lib.hid (HRC.out HR.out)
        go_wp2
        refine bodyPost_ret (v := .tuple #[.agg #[.int .u8 c.b0, .int .u8 c.b1, .int .u8 c.b2, .int .u8 c.b3, .int .u8 c.b4, .int .u8 c.b5, .int .u8 c.b6, .int .u8 c.b7], .bool true]) (by simp [results, Try.results17, go_sem, k0, k1, k2, k3, k4, k5, k6, k7]) rfl ⟨HE.out.symm, ?_⟩
        repeat' (first
          | (with_reducible exact Below.refl _ _)
          | (with_reducible exact HB.out)
          | (with_reducible exact bdrawn HB.out _)
          | (with_reducible refine Below.setCell ?_ (by first | exact Nat.le_refl _ | (simp; done) | (simp; omega)) _)
          | (with_reducible refine bstep ?_ (bnew _ _))
          | (with_reducible refine bdrew ?_))

end Go.Proofs.Ytbiglmpibdlhmaa
