/- The walk over wide.Small: whatever the numbers, it tells whether all of them are small, and writes nothing. -/
import Derived.Test.YtcjfiipcmaegnaaRows
import Derived.Test.YtcjfiipcmaegnaaWideMath
import Derived.WalkKit
import Derived.WalkSpells
import Derived.WalkLawsBesides
import Derived.Lib.Hide
namespace Go.Proofs.Ytcjfiipcmaegnaa
open Go.RowKit

theorem all_take_end (zs : List Int) (k : Nat) (h : ∀ i, i < k → smallB (zs.getD i 0) = true) (hk : k = zs.length) : zs.all smallB = true := by
  subst hk
  rw [List.all_eq_true]
  intro x hx
  obtain ⟨i, hi, rfl⟩ := List.mem_iff_getElem.1 hx
  have := h i hi
  simpa [List.getD, hi] using this
theorem all_not (zs : List Int) (k : Nat) (hk : k < zs.length) (h : smallB (zs.getD k 0) = false) : zs.all smallB = false := by
  rw [List.all_eq_false]
  refine ⟨zs[k], List.getElem_mem hk, ?_⟩
  simp [List.getD, hk] at h
  simp [h]

set_option maxHeartbeats 400000 in
theorem small_any (b off cap : Nat) (zs : List Int) (w : World) (hz : zs.length ≤ 1000)
    (hc : ∀ i, i < zs.length → w.cell? ⟨b, off + i, none⟩ = some (.int .i64 (zs.getD i 0))) :
    Calls Try.prog 44 #[.slice (some ⟨b, off, none⟩) zs.length cap] w fun e w' => e = .returned (.bool (zs.all smallB)) ∧ w = w' := by
  have HC := Lib.hid hc
  clear hc
  go_enter Try.func44, Try.ntmps44
  go_wp2
  go_loop [7] (fun i => ∃ k : Nat, k ≤ zs.length ∧ i = .int .i64 k ∧ Hid (∀ i, i < k → smallB (zs.getD i 0) = true)) (fun i => zs.length - (intOf i).toNat)
  case atStart => exact ⟨0, Nat.zero_le _, rfl, Lib.hid (fun i hi => absurd hi (by omega))⟩
  case round =>
    obtain ⟨k, hk, rfl, HA⟩ := hrel
    by_cases hlt : k < zs.length
    · obtain ⟨z, HZ⟩ : ∃ z, Hid (z = zs.getD k 0) := ⟨_, Lib.hid rfl⟩
      have hcell : w.cell? ⟨b, off + k, none⟩ = some (.int .i64 z) := by rw [HZ.out]; exact HC.out k hlt
      by_cases hs : -4611686018427387904 ≤ z ∧ z ≤ 4611686018427387904
      · obtain ⟨h1, h2⟩ := hs
        go_wp2
        go_round
        case rel => exact ⟨k + 1, by omega, by go_num, Lib.hid (fun i hi => by
          rcases Nat.lt_or_eq_of_le (Nat.lt_succ_iff.1 hi) with h | h
          · exact HA.out i h
          · subst h; rw [← HZ.out]; exact smallB_iff.2 ⟨h1, h2⟩)⟩
        case measure => simp [intOf]; omega
      · have h3 : z < -4611686018427387904 ∨ 4611686018427387904 < z := by omega
        have H4 := Lib.hid (all_not zs k hlt (by rw [← HZ.out]; exact smallB_not.2 h3))
        clear hs
        rcases h3 with h3 | h3
        · go_wp2
          go_ret
          exact ⟨ret_bool H4.out.symm, rfl⟩
        · have h5 : ¬ z < -4611686018427387904 := by omega
          go_wp2
          go_ret
          exact ⟨ret_bool H4.out.symm, rfl⟩
    · go_wp2
      go_ret
      exact ⟨ret_bool (all_take_end zs k HA.out (by omega)).symm, rfl⟩

end Go.Proofs.Ytcjfiipcmaegnaa
