/- The walks over the reference's digit and Text of layer 4. -/
import Derived.Test.YtbiglmpibdlhmaaIdentText
import Derived.Laws.Concat
namespace Go.Proofs.Ytbiglmpibdlhmaa
open Go.RowKit
set_option linter.unusedVariables false

theorem slice_dig (n : Int) (h0 : 0 ≤ n) (h1 : n ≤ 15) (w : World) : (Instr.slice 9 (.string { data := #[48, 49, 50, 51, 52, 53, 54, 55, 56, 57, 97, 98, 99, 100, 101, 102] }) (some (.int .i64 n)) (some (.int .i64 (n + 1))) none).run Try.prog w = .ok (.string (strOfNums [digN n])) w := by
  obtain ⟨m, rfl⟩ := Int.eq_ofNat_of_zero_le h0
  have hm : m < 16 := by omega
  match m, hm with
  | 0, _ => rfl
  | 1, _ => rfl
  | 2, _ => rfl
  | 3, _ => rfl
  | 4, _ => rfl
  | 5, _ => rfl
  | 6, _ => rfl
  | 7, _ => rfl
  | 8, _ => rfl
  | 9, _ => rfl
  | 10, _ => rfl
  | 11, _ => rfl
  | 12, _ => rfl
  | 13, _ => rfl
  | 14, _ => rfl
  | 15, _ => rfl

set_option maxHeartbeats 400000 in
theorem digit_any (n : Int) (h0 : 0 ≤ n) (h1 : n ≤ 15) (w : World) :
    Calls Try.prog 29 #[.int .i64 n] w fun e w' => e = .returned (.string (strOfNums [digN n])) ∧ w = w' := by
  have hs := slice_dig n h0 h1
  go_enter Try.func29, Try.ntmps29
  go_wp2
  go_ret
  exact ⟨rfl, rfl⟩

theorem run_add_str {xs ys zs : List Int} (h : xs.length + ys.length ≤ 1000) (e : xs ++ ys = zs) (w : World) : (Op.stringOp .add (strOfNums xs) (strOfNums ys)).run Try.prog w = .ok (.string (strOfNums zs)) w := by
  rw [← e]; exact add_str xs ys h w

set_option maxHeartbeats 1000000 in
theorem rtext_any (c : Ck) (hok : c.ok) (w : World) :
    Calls Try.prog 19 #[.agg #[.int .u8 c.b0, .int .u8 c.b1, .int .u8 c.b2, .int .u8 c.b3, .int .u8 c.b4, .int .u8 c.b5, .int .u8 c.b6, .int .u8 c.b7]] w fun e w' => e = .returned (.string (strOfNums (hexL c.l))) ∧ Below w.heap.size w w' := by
  have HOK := Lib.hid hok
  clear hok
  have K1 := Lib.hid (Holds.fresh w 23 #[.int .u8 c.b0, .int .u8 c.b1, .int .u8 c.b2, .int .u8 c.b3, .int .u8 c.b4, .int .u8 c.b5, .int .u8 c.b6, .int .u8 c.b7] rfl)
  have HB := Lib.hid (bnew w (.cells #[.int .u8 c.b0, .int .u8 c.b1, .int .u8 c.b2, .int .u8 c.b3, .int .u8 c.b4, .int .u8 c.b5, .int .u8 c.b6, .int .u8 c.b7] 23))
  go_enter Try.func19, Try.ntmps19
  go_wp2
  go_loopw [3, 4] (fun b i v => ∃ k : Nat, k ≤ 8 ∧ i = .int .i64 k ∧ b = .string (strOfNums (hexL (c.l.take k))) ∧ Hid (Holds v w.heap.size 23 #[.int .u8 c.b0, .int .u8 c.b1, .int .u8 c.b2, .int .u8 c.b3, .int .u8 c.b4, .int .u8 c.b5, .int .u8 c.b6, .int .u8 c.b7]) ∧ Hid (Below w.heap.size w v)) (fun _ i _ => 8 - (intOf i).toNat)
  case atStart => exact ⟨0, by omega, rfl, rfl, K1, HB⟩
  case round =>
    clear K1 HB
    obtain ⟨k, hk, rfl, rfl, K1, HB⟩ := hrel
    by_cases hlt : k < 8
    · obtain ⟨x, HX⟩ : ∃ x, Hid (c.l.getD k 0 = x) := ⟨_, Lib.hid rfl⟩
      have c1 := Ck.cell K1.out hlt
      have hT := hexL_take c hlt
      rw [HX.out] at c1 hT
      have hxb : isByte x := by
        rw [← HX.out]
        rcases c.at_ hlt with h | h
        · exact h
        · exact absurd HOK.out h
      obtain ⟨x0, x1⟩ := hxb
      have hlen : (hexL (c.l.take k)).length ≤ 16 := by rw [hexL_length, List.length_take]; omega
      obtain ⟨A, hA⟩ : ∃ A, hexL (c.l.take k) = A := ⟨_, rfl⟩
      rw [hA] at hT hlen ⊢
      obtain ⟨d1, hd1⟩ : ∃ d, digN (x / 16) = d := ⟨_, rfl⟩
      obtain ⟨d2, hd2⟩ : ∃ d, digN (x % 16) = d := ⟨_, rfl⟩
      rw [hd1, hd2] at hT
      have C1 : Hid (∀ v, Calls Try.prog 29 #[.int .i64 (x / 16)] v fun e w' => e = .returned (.string (strOfNums [d1])) ∧ v = w') := by
        rw [← hd1]; exact digit_any (x / 16) (by omega) (by omega)
      have C2 : Hid (∀ v, Calls Try.prog 29 #[.int .i64 (x % 16)] v fun e w' => e = .returned (.string (strOfNums [d2])) ∧ v = w') := by
        rw [← hd2]; exact digit_any (x % 16) (by omega) (by omega)
      have ha1 := run_add_str (xs := A) (ys := [d1]) (zs := A ++ [d1]) (by simp; omega) rfl
      have ha2 := run_add_str (xs := A ++ [d1]) (ys := [d2]) (zs := hexL (c.l.take (k + 1))) (by simp; omega) (by rw [hT]; simp)
      have q1 : IntKind.i64.wrap (x.tdiv 16) = x / 16 := by rw [Int.tdiv_eq_ediv_of_nonneg x0, IntKind.wrap_i64]; omega
      have q2 : IntKind.i64.wrap (x.tmod 16) = x % 16 := by rw [Int.tmod_eq_emod_of_nonneg x0, IntKind.wrap_i64]; omega
      have q3 : IntKind.i64.wrap x = x := by rw [IntKind.wrap_i64]; omega
      clear hT hd1 hd2 hA hlen
      go_wp2
      go_quiet ((first | (go_at_call 29; exact quiet_same (C1.out _)) | (go_at_call 29; exact quiet_same (C2.out _))))
      clear C1 C2 ha1 ha2 q1 q2 q3 c1
      go_wp2
      go_roundw
      case rel => exact ⟨k + 1, by omega, by go_num, rfl, (K1.out).drawn _, bdrawn HB.out _⟩
      case measure => simp [intOf]; omega
    · obtain rfl : k = 8 := by omega
      rw [List.take_of_length_le (by rw [Ck.len]; omega)]
      obtain ⟨S, HS⟩ : ∃ S, Hid (strOfNums (hexL c.l) = S) := ⟨_, Lib.hid rfl⟩
      rw [HS.out]
      go_wp2
      go_ret
      exact ⟨ret_str HS.out.symm, HB.out⟩

end Go.Proofs.Ytbiglmpibdlhmaa
