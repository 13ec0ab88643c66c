/- The walks over First, and the reference's. -/
import Derived.Test.YtpdnfeooijmgoaaRankComp
import Derived.Test.YtpdnfeooijmgoaaRankRef2
import Derived.Deep.LoopGhost
import Derived.WalkMore
namespace Go.Proofs.Ytpdnfeooijmgoaa
set_option maxRecDepth 100000
open Go.RowKit
set_option linter.unusedVariables false

theorem free_step {l : List Rs} {a b : Rs} {k : Nat} (hk : l[k]? = some b) (hb : lessB b a = false) (h : ∀ c ∈ l.take k, lessB c a = false) : ∀ c ∈ l.take (k + 1), lessB c a = false := by
  intro c hc
  rw [List.take_add_one, hk] at hc
  simp at hc
  rcases hc with hc | rfl
  · exact h c hc
  · exact hb
theorem first_yes {l : List Rs} {a : Rs} {k : Nat} (hk : l[k]? = some a) (hf : freeB l a = true) (h : firstN l = firstFrom l k (l.drop k)) : firstN l = k := by
  have hk' : k < l.length := by
    by_cases hk' : k < l.length
    · exact hk'
    · rw [List.getElem?_eq_none (by omega)] at hk; cases hk
  rw [h, List.drop_eq_getElem_cons hk', firstFrom_step]
  rw [List.getElem?_eq_getElem hk'] at hk
  rw [Option.some.inj hk, hf]
  rfl
theorem first_no {l : List Rs} {a : Rs} {k : Nat} (hk : l[k]? = some a) (hf : freeB l a = false) (h : firstN l = firstFrom l k (l.drop k)) : firstN l = firstFrom l (k + 1) (l.drop (k + 1)) := by
  have hk' : k < l.length := by
    by_cases hk' : k < l.length
    · exact hk'
    · rw [List.getElem?_eq_none (by omega)] at hk; cases hk
  rw [h, List.drop_eq_getElem_cons hk', firstFrom_step]
  rw [List.getElem?_eq_getElem hk'] at hk
  rw [Option.some.inj hk, hf]
  rfl
theorem free_no {l : List Rs} {a b : Rs} {k : Nat} (hk : l[k]? = some b) (hb : lessB b a = true) : freeB l a = false := by
  rw [← Bool.not_eq_true, freeB_iff]
  intro h
  rw [h b (List.mem_of_getElem? hk)] at hb
  cases hb
theorem first_end {l : List Rs} {k n : Nat} (hn : l.length = n) (hk : ¬ k < n) (h : firstN l = firstFrom l k (l.drop k)) : firstN l = -1 := by
  rw [h, List.drop_of_length_le (by omega)]
  rfl
set_option maxHeartbeats 4000000 in
theorem first7_any (l : List Rs) (g o n c : Nat) (w : World) (ho : ∀ s ∈ l, s.ok) (hn : l.length = n) (hn2 : n ≤ 1000000) (h : SetsAt w g o l) :
    Calls Try.prog 42 #[.slice (some ⟨g, o, none⟩) n c] w fun e w' => e = .returned (.int .i64 (firstN l)) ∧ Below w.heap.size w w' := by
  have HB := Lib.hid (Below.refl w.heap.size w)
  have K1 := Lib.hid h
  have HO := Lib.hid ho
  have HN := Lib.hid hn
  clear h ho hn
  go_enter Try.func42, Try.ntmps42
  go_wp2
  go_step3
  go_wp2
  go_step3
  go_wp2
  go_loopg [9] n (fun gh i v => ∃ k : Nat, k + gh = n ∧ i = .int .i64 k ∧ Hid (firstN l = firstFrom l k (l.drop k)) ∧ Hid (SetsAt v g o l) ∧ Hid (Below w.heap.size w v))
  case atStart => exact ⟨0, by omega, rfl, Lib.hid rfl, K1, HB⟩
  case round =>
    clear K1 HB
    obtain ⟨k, hk, rfl, HC, K1, HB⟩ := hrel
    cases gk with
    | zero =>
      have hd : decide ((k : Int) < (n : Int)) = false := by simp; omega
      have HR := Lib.hid (first_end HN.out (show ¬ k < n by omega) HC.out)
      go_wp2
      try rw [Exit.noGoto_ret]
      go_ret
      exact ⟨ret_int (by rw [HR.out]), HB.out⟩
    | succ g1 =>
      have hlt : k < n := by omega
      have hd : decide ((k : Int) < (n : Int)) = true := by simpa using hlt
      obtain ⟨a, ha⟩ : ∃ a, l[k]? = some a := ⟨_, List.getElem?_eq_getElem (show k < l.length by rw [HN.out]; exact hlt)⟩
      have HA := Lib.hid ha
      have HK := Lib.hid hlt
      clear ha hlt
      go_wp2_with (first | (refine big_fill rfl 29 _ _ rfl gKA (rsA a) rfl rfl KA.out (by kernel_rfl) (by kernel_rfl) (by kernel_rfl) ?_; intro vKA nKA tKA; have hbKA := btouch AKA.out tKA LKA.out; replace K1 := Lib.hid ((K1.out).keptB hbKA); replace HB := Lib.hid (bstep HB.out hbKA); replace KA := Lib.hid nKA; clear nKA tKA hbKA AKA LKA) | (refine big_alloc rfl 29 rfl (rsA zeroR) (by kernel_rfl) ?_; intro gKA wKA hlKA nKA hbKA; have KA := Lib.hid nKA; have AKA := Lib.hid hbKA; have LKA := Lib.hid hlKA; clear hlKA nKA hbKA) | (refine big_loadAt rfl 29 _ rfl g (o + k * 32) rfl (rsA a) (K1.out k a HA.out) Try.underlying29 rfl (by kernel_rfl) ?_) | (refine big_index rfl 62 _ _ rfl g o n c k 32 rfl rfl HK.out Try.underlying62 (by kernel_rfl) ?_))
      go_loopg [16] n (fun gh j v => ∃ m : Nat, m + gh = n ∧ j = .int .i64 m ∧ Hid (∀ c ∈ l.take m, lessB c a = false) ∧ Hid (SetsAt v g o l) ∧ Hid (Holds v gKA 29 (rsA a)) ∧ Hid (Below w.heap.size w v))
      case atStart => exact ⟨0, by omega, rfl, Lib.hid (by simp), K1, KA, HB⟩
      case round =>
        clear K1 KA HB
        obtain ⟨m, hm, rfl, HF, K1, KA, HB⟩ := hrel
        cases gk with
        | zero =>
          have hd2 : decide ((m : Int) < (n : Int)) = false := by simp; omega
          have HR := Lib.hid (first_yes HA.out (freeB_iff.2 (by have := HF.out; rwa [List.take_of_length_le (by rw [HN.out]; omega)] at this)) HC.out)
          go_wp2
          try rw [Exit.noGoto_ret]
          go_ret
          exact ⟨ret_int (by rw [HR.out]), HB.out⟩
        | succ g2 =>
          have hlt : m < n := by omega
          have hd2 : decide ((m : Int) < (n : Int)) = true := by simpa using hlt
          obtain ⟨b, hb⟩ : ∃ b, l[m]? = some b := ⟨_, List.getElem?_eq_getElem (show m < l.length by rw [HN.out]; exact hlt)⟩
          have HBb := Lib.hid hb
          have HKb := Lib.hid hlt
          clear hb hlt
          cases hl : lessB b a
          · have HL := Lib.hid hl
            clear hl
            go_wp2_with (first | (refine big_whole rfl 29 _ rfl gKA rfl KA.out Try.underlying29 rfl (by kernel_rfl) ?_) | (refine big_whole rfl 29 _ rfl gKB rfl KB.out Try.underlying29 rfl (by kernel_rfl) ?_) | (refine big_fill rfl 29 _ _ rfl gKB (rsA b) rfl rfl KB.out (by kernel_rfl) (by kernel_rfl) (by kernel_rfl) ?_; intro vKB nKB tKB; have hbKB := btouch AKB.out tKB LKB.out; replace K1 := Lib.hid ((K1.out).keptB hbKB); replace KA := Lib.hid ((KA.out).keptB hbKB); replace HB := Lib.hid (bstep HB.out hbKB); replace KB := Lib.hid nKB; clear nKB tKB hbKB AKB LKB) | (refine big_alloc rfl 29 rfl (rsA zeroR) (by kernel_rfl) ?_; intro gKB wKB hlKB nKB hbKB; have KB := Lib.hid nKB; have AKB := Lib.hid hbKB; have LKB := Lib.hid hlKB; clear hlKB nKB hbKB) | (refine big_loadAt rfl 29 _ rfl g (o + m * 32) rfl (rsA b) (K1.out m b HBb.out) Try.underlying29 rfl (by kernel_rfl) ?_) | (refine big_index rfl 62 _ _ rfl g o n c m 32 rfl rfl HKb.out Try.underlying62 (by kernel_rfl) ?_))
            refine (less7_any b a _ (HO.out b (List.mem_of_getElem? HBb.out)) (HO.out a (List.mem_of_getElem? HA.out))).mono ?_
            rintro e c1 ⟨rfl, hc1⟩
            replace K1 := Lib.hid ((K1.out).keptB hc1)
            replace KA := Lib.hid ((KA.out).keptB hc1)
            replace KB := Lib.hid ((KB.out).keptB hc1)
            replace HB := Lib.hid (bstep HB.out hc1)
            clear hc1
            rw [HL.out]
            go_wp2
            go_roundg g2
            case measure => omega
            case rel => exact ⟨m + 1, by omega, by go_num, Lib.hid (free_step HBb.out HL.out HF.out), K1, KA, HB⟩
          · have HL := Lib.hid hl
            clear hl
            go_wp2_with (first | (refine big_whole rfl 29 _ rfl gKA rfl KA.out Try.underlying29 rfl (by kernel_rfl) ?_) | (refine big_whole rfl 29 _ rfl gKB rfl KB.out Try.underlying29 rfl (by kernel_rfl) ?_) | (refine big_fill rfl 29 _ _ rfl gKB (rsA b) rfl rfl KB.out (by kernel_rfl) (by kernel_rfl) (by kernel_rfl) ?_; intro vKB nKB tKB; have hbKB := btouch AKB.out tKB LKB.out; replace K1 := Lib.hid ((K1.out).keptB hbKB); replace KA := Lib.hid ((KA.out).keptB hbKB); replace HB := Lib.hid (bstep HB.out hbKB); replace KB := Lib.hid nKB; clear nKB tKB hbKB AKB LKB) | (refine big_alloc rfl 29 rfl (rsA zeroR) (by kernel_rfl) ?_; intro gKB wKB hlKB nKB hbKB; have KB := Lib.hid nKB; have AKB := Lib.hid hbKB; have LKB := Lib.hid hlKB; clear hlKB nKB hbKB) | (refine big_loadAt rfl 29 _ rfl g (o + m * 32) rfl (rsA b) (K1.out m b HBb.out) Try.underlying29 rfl (by kernel_rfl) ?_) | (refine big_index rfl 62 _ _ rfl g o n c m 32 rfl rfl HKb.out Try.underlying62 (by kernel_rfl) ?_))
            refine (less7_any b a _ (HO.out b (List.mem_of_getElem? HBb.out)) (HO.out a (List.mem_of_getElem? HA.out))).mono ?_
            rintro e c1 ⟨rfl, hc1⟩
            replace K1 := Lib.hid ((K1.out).keptB hc1)
            replace KA := Lib.hid ((KA.out).keptB hc1)
            replace KB := Lib.hid ((KB.out).keptB hc1)
            replace HB := Lib.hid (bstep HB.out hc1)
            clear hc1
            rw [HL.out]
            go_wp2
            go_roundg g1
            case measure => omega
            case rel => exact ⟨k + 1, by omega, by go_num, Lib.hid (first_no HA.out (free_no HBb.out HL.out) HC.out), K1, HB⟩
set_option maxHeartbeats 4000000 in
theorem first7_nil (A : Option Addr) (c : Nat) (w : World) :
    Calls Try.prog 42 #[.slice A 0 c] w fun e w' => e = .returned (.int .i64 (-1)) ∧ Below w.heap.size w w' := by
  have HB := Lib.hid (Below.refl w.heap.size w)
  go_enter Try.func42, Try.ntmps42
  go_wp2
  go_step3
  go_wp2
  go_step3
  go_wp2
  go_loopg [9] 0 (fun _ i v => i = .int .i64 0 ∧ v = w)
  case atStart => exact ⟨rfl, rfl⟩
  case round =>
    obtain ⟨rfl, rfl⟩ := hrel
    go_wp2
    try rw [Exit.noGoto_ret]
    go_ret
    exact ⟨rfl, Below.refl _ _⟩

end Go.Proofs.Ytpdnfeooijmgoaa
