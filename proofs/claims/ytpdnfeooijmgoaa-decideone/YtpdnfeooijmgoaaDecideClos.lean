/- What decider hands back: leader, follower, and their closures. -/
import Derived.Test.YtpdnfeooijmgoaaDecideSmall
import Derived.Test.YtpdnfeooijmgoaaBestPlain
import Derived.Deep.DeepCutAuto
import Derived.Deep.LoopGhost
import Derived.WalkMore
namespace Go.Proofs.Ytpdnfeooijmgoaa
set_option maxRecDepth 100000
open Go.RowKit
set_option linter.unusedVariables false
set_option linter.unusedSimpArgs false

theorem zeroR10s_ok : zeroR.ok := ⟨by show Ck.ok ⟨0, 0, 0, 0, 0, 0, 0, 0⟩; unfold Ck.ok Ck.l isByte; decide, by show Ck.ok ⟨0, 0, 0, 0, 0, 0, 0, 0⟩; unfold Ck.ok Ck.l isByte; decide, by show Ck.ok ⟨0, 0, 0, 0, 0, 0, 0, 0⟩; unfold Ck.ok Ck.l isByte; decide, by decide, by decide⟩
/-- the three closures that tell a code, each with what it has captured, in blocks from B up to E -/
inductive CodeAt (B E : Nat) (w : World) (f : Value) (me : Rs) (A : Option Addr) (n c : Nat) (l : List Ch) : Prop
  | lead (g5 g3 : Nat) (h5 : B ≤ g5 ∧ g5 < E) (h3 : B ≤ g3 ∧ g3 < E) (hf : f = .func (.func 30) #[] #[.pointer (some ⟨g5, 0, none⟩), .pointer (some ⟨g3, 0, none⟩)]) (k5 : Holds w g5 47 (chA ⟨me, true⟩)) (k3 : Holds w g3 34 #[.slice A n c]) (hg : grandB me = true) : CodeAt B E w f me A n c l
  | head (hf : f = .func (.func 33) #[] #[]) (hg : grandB me = false) (hh : headB me l = true) : CodeAt B E w f me A n c l
  | foll (g6 g5 g3 p : Nat) (b : Ch) (h6 : B ≤ g6 ∧ g6 < E) (h5 : B ≤ g5 ∧ g5 < E) (h3 : B ≤ g3 ∧ g3 < E) (hf : f = .func (.func 34) #[] #[.pointer (some ⟨g6, 0, none⟩), .pointer (some ⟨g5, 0, none⟩), .pointer (some ⟨g3, 0, none⟩)]) (k6 : Holds w g6 3 #[.int .i64 (p : Int)]) (k5 : Holds w g5 47 (chA b)) (k3 : Holds w g3 34 #[.slice A n c])
      (hg : grandB me = false) (hh : headB me l = false) (hp : allN l = p) (hb : l[p]? = some b) : CodeAt B E w f me A n c l
theorem Holds.same {w v : World} {g : Nat} {t : TypeId} {cs : Array Value} (h : Holds w g t cs) (hv : v.heap[g]? = w.heap[g]?) : Holds v g t cs := by rw [Holds, hv]; exact h
section
variable {B E g : Nat} {w v : World} {f : Value} {me : Rs} {A : Option Addr} {n c : Nat} {l : List Ch}
theorem CodeAt.same (h : CodeAt B E w f me A n c l) (hv : ∀ g, B ≤ g → g < E → v.heap[g]? = w.heap[g]?) : CodeAt B E v f me A n c l := by
  cases h with
  | lead g5 g3 h5 h3 hf k5 k3 hg => exact .lead g5 g3 h5 h3 hf (k5.same (hv _ h5.1 h5.2)) (k3.same (hv _ h3.1 h3.2)) hg
  | head hf hg hh => exact .head hf hg hh
  | foll g6 g5 g3 p b h6 h5 h3 hf k6 k5 k3 hg hh hp hb => exact .foll g6 g5 g3 p b h6 h5 h3 hf (k6.same (hv _ h6.1 h6.2)) (k5.same (hv _ h5.1 h5.2)) (k3.same (hv _ h3.1 h3.2)) hg hh hp hb
theorem CodeAt.mono {B2 E2 : Nat} (h : CodeAt B E w f me A n c l) (hB : B2 ≤ B) (hE : E ≤ E2) : CodeAt B2 E2 w f me A n c l := by
  cases h with
  | lead g5 g3 h5 h3 hf k5 k3 hg => exact .lead g5 g3 ⟨by omega, by omega⟩ ⟨by omega, by omega⟩ hf k5 k3 hg
  | head hf hg hh => exact .head hf hg hh
  | foll g6 g5 g3 p b h6 h5 h3 hf k6 k5 k3 hg hh hp hb => exact .foll g6 g5 g3 p b ⟨by omega, by omega⟩ ⟨by omega, by omega⟩ ⟨by omega, by omega⟩ hf k6 k5 k3 hg hh hp hb
theorem CodeAt.keptB (h : CodeAt B E w f me A n c l) (hE : E ≤ w.heap.size) (hb : Below w.heap.size w v) : CodeAt B E v f me A n c l := h.same fun g _ hg => hb.block g (by omega)
end
/-- what decider hands back has captured: the choices' slice, and the variable of one of the closures -/
structure DecAt (E : Nat) (w : World) (g3 g5 : Nat) (me : Rs) (A : Option Addr) (n c : Nat) (l : List Ch) : Prop where
  k3 : Holds w g3 34 #[.slice A n c]
  b3 : g3 < E
  code : ∃ f B, g5 < B ∧ Holds w g5 53 #[f] ∧ CodeAt B E w f me A n c l
  b5 : g5 < E
  ch : ChsIn w (.slice A n c) l
  size : E ≤ w.heap.size
section
variable {E g g3 g5 : Nat} {w v : World} {me : Rs} {A : Option Addr} {n c : Nat} {l : List Ch}
theorem DecAt.keptB (h : DecAt E w g3 g5 me A n c l) (hb : Below w.heap.size w v) : DecAt E v g3 g5 me A n c l := by
  obtain ⟨f, B, h1, h2, h3⟩ := h.code
  exact ⟨h.k3.keptB hb, h.b3, ⟨f, B, h1, h2.keptB hb, h3.keptB h.size hb⟩, h.b5, h.ch.keptB hb, Nat.le_trans h.size hb.size⟩
theorem DecAt.drew (h : DecAt E w g3 g5 me A n c l) : DecAt E w.drew g3 g5 me A n c l := by
  obtain ⟨f, B, h1, h2, h3⟩ := h.code
  exact ⟨h.k3.drew, h.b3, ⟨f, B, h1, h2.drew, h3.same fun _ _ _ => rfl⟩, h.b5, h.ch.drew, h.size⟩
theorem DecAt.touch (h : DecAt E w g3 g5 me A n c l) (ht : Touch g w v) (hg : E ≤ g) (hc : ∀ g' o, A = some ⟨g', o, none⟩ → 0 < n → g' ≠ g) : DecAt E v g3 g5 me A n c l := by
  obtain ⟨f, B, h1, h2, h3⟩ := h.code
  have b3 := h.b3
  have b5 := h.b5
  exact ⟨h.k3.touch ht (by omega), h.b3, ⟨f, B, h1, h2.touch ht (by omega), h3.same fun k _ hk => ht.block k (by omega)⟩, h.b5, h.ch.touch ht hc, by rw [ht.size]; exact h.size⟩
end
set_option maxHeartbeats 4000000 in
theorem lead1_any (me : Rs) (gK1 gK2 : Nat) (A : Option Addr) (n c : Nat) (l : List Ch) (k : Nat) (r : Ch) (w : World) (hm : me.ok) (ho : r.s.ok) (h1 : Holds w gK1 47 (chA ⟨me, true⟩)) (h2 : Holds w gK2 34 #[.slice A n c]) (h3 : ChsIn w (.slice A n c) l) (hr : l[k]? = some r) :
    Calls Try.prog 30 #[.int .i64 (k : Int), .pointer (some ⟨gK1, 0, none⟩), .pointer (some ⟨gK2, 0, none⟩)] w fun e w' => e = .returned (.int .i64 (codeL me r)) ∧ Below w.heap.size w w' := by
  have HB := Lib.hid (Below.refl w.heap.size w)
  have K1 := Lib.hid h1
  have K2 := Lib.hid h2
  have CI := Lib.hid h3
  have HR := Lib.hid hr
  have OM := Lib.hid hm
  have OR := Lib.hid ho
  clear h1 h2 h3 hr hm ho
  obtain ⟨g, o, hA⟩ : ∃ g o, A = some ⟨g, o, none⟩ := by
    obtain ⟨_, _, _, h1, h2, h3⟩ := id CI.out
    cases h1
    obtain ⟨g, o, h4, _⟩ := h3 (by have := (List.getElem?_eq_some_iff.1 HR.out).1; omega)
    exact ⟨g, o, h4⟩
  subst hA
  have HKN : Hid (k < n) := by
    obtain ⟨_, _, _, h1, h2, _⟩ := CI.out
    cases h1
    have := (List.getElem?_eq_some_iff.1 HR.out).1
    rw [Hid]; omega
  obtain ⟨q, HQ⟩ : ∃ q, Hid (betterB ⟨me, true⟩ r = q) := ⟨_, Lib.hid rfl⟩
  go_enter Try.func30, Try.ntmps30
  go_upto_region 1 with fail
  refine wp_region_noPanic ?_
  refine wp_region_held_drew (S := fun v => Below w.heap.size w v ∧ Holds v gK1 47 (chA ⟨me, true⟩) ∧ Holds v gK2 34 #[.slice (some ⟨g, o, none⟩) n c] ∧ ChsIn v (.slice (some ⟨g, o, none⟩) n c) l ∧ True) (by kernel_rfl) ?_ (fun hHeld => ?_)
  · exact ⟨bdrew HB.out, (K1.out).drew, (K2.out).drew, (CI.out).drew, trivial⟩
  clear HB K1 K2 CI
  refine wpAnyH_take (i := 0) (v := .agg (chA ⟨me, true⟩)) (at_list rfl) (by kernel_rfl) (by kernel_rfl) (by kernel_rfl) (fun _ _ _ h => h) (yields_whole (by rfl) 47 _ rfl gK1 rfl (fun v hv => hv.2.1) Try.underlying47 rfl (by kernel_rfl)) hHeld ?_
  try simp only [Act.put, List.setIfInBounds_toArray, List.set_cons_zero, List.set_cons_succ]
  refine wpAnyH_take (i := 1) (v := .slice (some ⟨g, o, none⟩) n c) (at_list rfl) (by kernel_rfl) (by kernel_rfl) (by kernel_rfl) (fun _ _ _ h => h) (Or.inl ⟨by rfl, ?_⟩) hHeld ?_
  · intro v hSv
    clear hHeld
    have q := Holds.reads (hSv.2.2.1) (i := 0) (x := .slice (some ⟨g, o, none⟩) n c) rfl
    clear hSv
    go_simp
  try simp only [Act.put, List.setIfInBounds_toArray, List.set_cons_zero, List.set_cons_succ]
  refine wpAnyH_take (i := 2) (v := .int .i64 (k : Int)) (at_list rfl) (by kernel_rfl) (by kernel_rfl) (by kernel_rfl) (fun _ _ _ h => h) (Or.inl ⟨by rfl, ?_⟩) hHeld ?_
  · intro v hSv
    clear hHeld
    go_simp
  try simp only [Act.put, List.setIfInBounds_toArray, List.set_cons_zero, List.set_cons_succ]
  refine wpAnyH_take (i := 3) (v := .pointer (some ⟨g, o + k * 33, none⟩)) (at_list rfl) (by kernel_rfl) (by kernel_rfl) (by kernel_rfl) (fun _ _ _ h => h) (yields_index (by rfl) 34 _ _ rfl g o n c k 33 rfl rfl HKN.out Try.underlying34 (by kernel_rfl)) hHeld ?_
  try simp only [Act.put, List.setIfInBounds_toArray, List.set_cons_zero, List.set_cons_succ]
  refine wpAnyH_take (i := 4) (v := .agg (chA r)) (at_list rfl) (by kernel_rfl) (by kernel_rfl) (by kernel_rfl) (fun _ _ _ h => h) (yieldsIf_load_mid (by rfl) 47 _ rfl g (o + k * 33) rfl (chA r).toList _ (fun v hv => ch_in (hv.2.2.2.1) HR.out) Try.underlying47 rfl (by kernel_rfl)) hHeld ?_
  try simp only [Act.put, List.setIfInBounds_toArray, List.set_cons_zero, List.set_cons_succ]
  refine wpAnyH_ready (rs := [5]) (by kernel_rfl) (by simp) ?_
  refine AllReadyH.cons (at_list rfl) (fun K hK => ?_) AllReadyH.nil
  go_simp
  refine (pbetter9_any ⟨me, true⟩ r _ OM.out OR.out).mono ?_
  rintro e v1 ⟨rfl, hv1⟩
  rw [HQ.out]
  go_wp2_with fail
  refine hK.out _ _ ?_ (fun hHeld2 => ?_)
  · exact ⟨bstep hHeld.1 hv1, (hHeld.2.1).keptB hv1, (hHeld.2.2.1).keptB hv1, (hHeld.2.2.2.1).keptB hv1, trivial⟩
  clear hK K hHeld
  have hHeld := hHeld2
  clear hHeld2 hv1
  try simp only [Act.put, List.setIfInBounds_toArray, List.set_cons_zero, List.set_cons_succ]
  refine wpAnyH_done (by kernel_rfl) ?_ _
  refine NoPanic.normal ?_
  have HB := Lib.hid hHeld.1
  have K1 := Lib.hid hHeld.2.1
  have K2 := Lib.hid hHeld.2.2.1
  have CI := Lib.hid hHeld.2.2.2.1
  clear hHeld
  cases q
  · have HX : Hid (codeL me r = 5) := by rw [Hid]; unfold codeL; rw [HQ.out]; rfl
    go_wp2
    go_ret
    exact ⟨ret_int9 HX.out.symm, HB.out⟩
  · have HX : Hid (codeL me r = 1) := by rw [Hid]; unfold codeL; rw [HQ.out]; rfl
    go_wp2
    go_ret
    exact ⟨ret_int9 HX.out.symm, HB.out⟩
set_option maxHeartbeats 4000000 in
theorem foll1_any (k : Nat) (w : World) :
    Calls Try.prog 33 #[.int .i64 (k : Int)] w fun e w' => e = .returned (.int .i64 2) ∧ Below w.heap.size w w' := by
  have HB := Lib.hid (Below.refl w.heap.size w)
  go_enter Try.func33, Try.ntmps33
  go_wp2
  go_ret
  exact ⟨rfl, HB.out⟩
set_option maxHeartbeats 4000000 in
theorem foll2_any (gK1 gK2 gK3 p : Nat) (b : Ch) (A : Option Addr) (n c : Nat) (l : List Ch) (k : Nat) (r : Ch) (w : World) (hb : b.s.ok) (ho : r.s.ok) (h0 : Holds w gK1 3 #[.int .i64 (p : Int)]) (h1 : Holds w gK2 47 (chA b)) (h2 : Holds w gK3 34 #[.slice A n c]) (h3 : ChsIn w (.slice A n c) l) (hr : l[k]? = some r) :
    Calls Try.prog 34 #[.int .i64 (k : Int), .pointer (some ⟨gK1, 0, none⟩), .pointer (some ⟨gK2, 0, none⟩), .pointer (some ⟨gK3, 0, none⟩)] w fun e w' => e = .returned (.int .i64 (codeF p k b r)) ∧ Below w.heap.size w w' := by
  have HB := Lib.hid (Below.refl w.heap.size w)
  have K1 := Lib.hid h0
  have K2 := Lib.hid h1
  have K3 := Lib.hid h2
  have CI := Lib.hid h3
  have HR := Lib.hid hr
  have OB := Lib.hid hb
  have OR := Lib.hid ho
  clear h0 h1 h2 h3 hr hb ho
  obtain ⟨g, o, hA⟩ : ∃ g o, A = some ⟨g, o, none⟩ := by
    obtain ⟨_, _, _, h1, h2, h3⟩ := id CI.out
    cases h1
    obtain ⟨g, o, h4, _⟩ := h3 (by have := (List.getElem?_eq_some_iff.1 HR.out).1; omega)
    exact ⟨g, o, h4⟩
  subst hA
  have HKN : Hid (k < n) := by
    obtain ⟨_, _, _, h1, h2, _⟩ := CI.out
    cases h1
    have := (List.getElem?_eq_some_iff.1 HR.out).1
    rw [Hid]; omega
  obtain ⟨q, HQ⟩ : ∃ q, Hid (bywayB b r = q) := ⟨_, Lib.hid rfl⟩
  have x0 := (K1.out).reads (i := 0) (x := .int .i64 (p : Int)) rfl
  by_cases hpk : (p : Int) = (k : Int)
  · have e1 : ((k : Int) == (p : Int)) = true := by rw [hpk]; simp
    have HX : Hid (codeF p k b r = 4) := if_pos hpk
    clear hpk
    go_enter Try.func34, Try.ntmps34
    go_wp2
    go_ret
    exact ⟨ret_int9 HX.out.symm, HB.out⟩
  · have e1 : ((k : Int) == (p : Int)) = false := by simpa using fun h => hpk h.symm
    have HX0 : Hid (codeF p k b r = if q = true then 6 else 3) := by rw [Hid]; unfold codeF; rw [if_neg hpk, HQ.out]
    clear hpk
    go_enter Try.func34, Try.ntmps34
    go_upto_region 3 with fail
    clear x0 K1
    refine wp_region_noPanic ?_
    refine wp_region_held_drew (S := fun v => Below w.heap.size w v ∧ Holds v gK2 47 (chA b) ∧ Holds v gK3 34 #[.slice (some ⟨g, o, none⟩) n c] ∧ ChsIn v (.slice (some ⟨g, o, none⟩) n c) l ∧ True) (by kernel_rfl) ?_ (fun hHeld => ?_)
    · exact ⟨bdrew HB.out, (K2.out).drew, (K3.out).drew, (CI.out).drew, trivial⟩
    clear HB K2 K3 CI
    refine wpAnyH_take (i := 0) (v := .agg (chA b)) (at_list rfl) (by kernel_rfl) (by kernel_rfl) (by kernel_rfl) (fun _ _ _ h => h) (yields_whole (by rfl) 47 _ rfl gK2 rfl (fun v hv => hv.2.1) Try.underlying47 rfl (by kernel_rfl)) hHeld ?_
    try simp only [Act.put, List.setIfInBounds_toArray, List.set_cons_zero, List.set_cons_succ]
    refine wpAnyH_take (i := 1) (v := .slice (some ⟨g, o, none⟩) n c) (at_list rfl) (by kernel_rfl) (by kernel_rfl) (by kernel_rfl) (fun _ _ _ h => h) (Or.inl ⟨by rfl, ?_⟩) hHeld ?_
    · intro v hSv
      clear hHeld
      have q := Holds.reads (hSv.2.2.1) (i := 0) (x := .slice (some ⟨g, o, none⟩) n c) rfl
      clear hSv
      go_simp
    try simp only [Act.put, List.setIfInBounds_toArray, List.set_cons_zero, List.set_cons_succ]
    refine wpAnyH_take (i := 2) (v := .int .i64 (k : Int)) (at_list rfl) (by kernel_rfl) (by kernel_rfl) (by kernel_rfl) (fun _ _ _ h => h) (Or.inl ⟨by rfl, ?_⟩) hHeld ?_
    · intro v hSv
      clear hHeld
      go_simp
    try simp only [Act.put, List.setIfInBounds_toArray, List.set_cons_zero, List.set_cons_succ]
    refine wpAnyH_take (i := 3) (v := .pointer (some ⟨g, o + k * 33, none⟩)) (at_list rfl) (by kernel_rfl) (by kernel_rfl) (by kernel_rfl) (fun _ _ _ h => h) (yields_index (by rfl) 34 _ _ rfl g o n c k 33 rfl rfl HKN.out Try.underlying34 (by kernel_rfl)) hHeld ?_
    try simp only [Act.put, List.setIfInBounds_toArray, List.set_cons_zero, List.set_cons_succ]
    refine wpAnyH_take (i := 4) (v := .agg (chA r)) (at_list rfl) (by kernel_rfl) (by kernel_rfl) (by kernel_rfl) (fun _ _ _ h => h) (yieldsIf_load_mid (by rfl) 47 _ rfl g (o + k * 33) rfl (chA r).toList _ (fun v hv => ch_in (hv.2.2.2.1) HR.out) Try.underlying47 rfl (by kernel_rfl)) hHeld ?_
    try simp only [Act.put, List.setIfInBounds_toArray, List.set_cons_zero, List.set_cons_succ]
    refine wpAnyH_ready (rs := [5]) (by kernel_rfl) (by simp) ?_
    refine AllReadyH.cons (at_list rfl) (fun K hK => ?_) AllReadyH.nil
    go_simp
    refine (pbyway9_any b r _ OB.out OR.out).mono ?_
    rintro e v1 ⟨rfl, hv1⟩
    rw [HQ.out]
    go_wp2_with fail
    refine hK.out _ _ ?_ (fun hHeld2 => ?_)
    · exact ⟨bstep hHeld.1 hv1, (hHeld.2.1).keptB hv1, (hHeld.2.2.1).keptB hv1, (hHeld.2.2.2.1).keptB hv1, trivial⟩
    clear hK K hHeld
    have hHeld := hHeld2
    clear hHeld2 hv1
    try simp only [Act.put, List.setIfInBounds_toArray, List.set_cons_zero, List.set_cons_succ]
    refine wpAnyH_take (i := 6) (v := .bool q) (at_list rfl) (by kernel_rfl) (by kernel_rfl) (by kernel_rfl) (fun _ _ _ h => h) (Or.inl ⟨by rfl, ?_⟩) hHeld ?_
    · intro v hSv
      clear hHeld
      go_simp
    try simp only [Act.put, List.setIfInBounds_toArray, List.set_cons_zero, List.set_cons_succ]
    refine wpAnyH_done (by kernel_rfl) ?_ _
    refine NoPanic.normal ?_
    have HB := Lib.hid hHeld.1
    have K2 := Lib.hid hHeld.2.1
    have K3 := Lib.hid hHeld.2.2.1
    have CI := Lib.hid hHeld.2.2.2.1
    clear hHeld
    cases q
    · have HX : Hid (codeF p k b r = 3) := HX0.out
      clear HX0
      go_wp2
      go_ret
      exact ⟨ret_int9 HX.out.symm, HB.out⟩
    · have HX : Hid (codeF p k b r = 6) := HX0.out
      clear HX0
      go_wp2
      go_ret
      exact ⟨ret_int9 HX.out.symm, HB.out⟩
set_option maxHeartbeats 4000000 in
theorem leader10_any (me : Rs) (A : Option Addr) (n c : Nat) (l : List Ch) (w : World) (hg : grandB me = true) :
    Calls Try.prog 25 #[.agg (rsA me), .slice A n c] w fun e w' => ∃ f, e = .returned f ∧ CodeAt w.heap.size w'.heap.size w' f me A n c l ∧ Below w.heap.size w w' := by
  have HB := Lib.hid (Below.refl w.heap.size w)
  go_enter Try.func25, Try.ntmps25
  go_upto_region 1 with (first | (refine big_box1 rfl 34 _ rfl (.slice A n c) rfl rfl ?_; intro gK3 wK3 hlK3 nK3 hbK3; have K3 := Lib.hid nK3; have LK3 := Lib.hid (Nat.le_trans (HB.out).size hlK3); have OK2K3 := Lib.hid ((K2.out).off hlK3); replace K2 := Lib.hid ((K2.out).keptB hbK3); replace HB := Lib.hid (bstep HB.out hbK3); clear hlK3 nK3 hbK3; try simp only [Act.put, List.setIfInBounds_toArray, List.set_cons_zero, List.set_cons_succ]) | (refine big_box rfl 29 _ rfl (rsA me) rfl (by kernel_rfl) ?_; intro gK2 wK2 hlK2 nK2 hbK2; have K2 := Lib.hid nK2; have LK2 := Lib.hid (Nat.le_trans (HB.out).size hlK2); replace HB := Lib.hid (bstep HB.out hbK2); clear hlK2 nK2 hbK2; try simp only [Act.put, List.setIfInBounds_toArray, List.set_cons_zero, List.set_cons_succ]))
  go_wp2_with (first | (refine big_fill rfl 47 _ _ rfl gK5 (chA ⟨me, true⟩) rfl rfl K5.out (by kernel_rfl) (by kernel_rfl) (by kernel_rfl) ?_; intro vK50 nK5 htK5; replace K5 := Lib.hid nK5; replace K2 := Lib.hid ((K2.out).touch htK5 OK2K5.out); replace K3 := Lib.hid ((K3.out).touch htK5 OK3K5.out); replace HB := Lib.hid (btouch HB.out htK5 LK5.out); clear nK5 htK5; try simp only [Act.put, List.setIfInBounds_toArray, List.set_cons_zero, List.set_cons_succ]) | (refine big_alloc rfl 47 rfl (chA zeroCh) (by kernel_rfl) ?_; intro gK5 wK5 hlK5 nK5 hbK5; have K5 := Lib.hid nK5; have LK5 := Lib.hid (Nat.le_trans (HB.out).size hlK5); have OK2K5 := Lib.hid ((K2.out).off hlK5); have OK3K5 := Lib.hid ((K3.out).off hlK5); replace K2 := Lib.hid ((K2.out).keptB hbK5); replace K3 := Lib.hid ((K3.out).keptB hbK5); replace HB := Lib.hid (bstep HB.out hbK5); clear hlK5 nK5 hbK5; try simp only [Act.put, List.setIfInBounds_toArray, List.set_cons_zero, List.set_cons_succ]) | (refine big_build rfl 47 _ rfl (chA ⟨me, true⟩) (by kernel_rfl) ?_; try simp only [Act.put, List.setIfInBounds_toArray, List.set_cons_zero, List.set_cons_succ]) | (refine big_whole rfl 29 _ rfl gK2 rfl K2.out Try.underlying29 rfl (by kernel_rfl) ?_; try simp only [Act.put, List.setIfInBounds_toArray, List.set_cons_zero, List.set_cons_succ]))
  go_ret
  exact ⟨_, rfl, .lead gK5 gK3 ⟨LK5.out, (K5.out).inside⟩ ⟨LK3.out, (K3.out).inside⟩ rfl K5.out K3.out hg, HB.out⟩
set_option maxHeartbeats 4000000 in
theorem follower10_any (me : Rs) (A : Option Addr) (n c : Nat) (l : List Ch) (w : World) (hm : me.ok) (ho : ∀ s ∈ l, s.s.ok) (hn : l.length ≤ 900) (h : ChsIn w (.slice A n c) l) (hg : grandB me = false) :
    Calls Try.prog 26 #[.agg (rsA me), .slice A n c] w fun e w' => ∃ f, e = .returned f ∧ CodeAt w.heap.size w'.heap.size w' f me A n c l ∧ Below w.heap.size w w' := by
  have HB := Lib.hid (Below.refl w.heap.size w)
  have CI := Lib.hid h
  have HO := Lib.hid ho
  have OM := Lib.hid hm
  have HG := Lib.hid hg
  have HLN : Hid (l.length = n) := by
    obtain ⟨_, _, _, h1, h2, _⟩ := CI.out
    cases h1
    exact h2
  clear h ho hm hg
  go_enter Try.func26, Try.ntmps26
  go_upto_region 1 with (first | (refine big_box1 rfl 34 _ rfl (.slice A n c) rfl rfl ?_; intro gK3 wK3 hlK3 nK3 hbK3; have K3 := Lib.hid nK3; have LK3 := Lib.hid (Nat.le_trans (HB.out).size hlK3); have OCIK3 := Lib.hid ((CI.out).off hlK3); have OK2K3 := Lib.hid ((K2.out).off hlK3); replace CI := Lib.hid ((CI.out).keptB hbK3); replace K2 := Lib.hid ((K2.out).keptB hbK3); replace HB := Lib.hid (bstep HB.out hbK3); clear hlK3 nK3 hbK3; try simp only [Act.put, List.setIfInBounds_toArray, List.set_cons_zero, List.set_cons_succ]) | (refine big_box rfl 29 _ rfl (rsA me) rfl (by kernel_rfl) ?_; intro gK2 wK2 hlK2 nK2 hbK2; have K2 := Lib.hid nK2; have LK2 := Lib.hid (Nat.le_trans (HB.out).size hlK2); have OCIK2 := Lib.hid ((CI.out).off hlK2); replace CI := Lib.hid ((CI.out).keptB hbK2); replace HB := Lib.hid (bstep HB.out hbK2); clear hlK2 nK2 hbK2; try simp only [Act.put, List.setIfInBounds_toArray, List.set_cons_zero, List.set_cons_succ]))
  go_upto_region 2 with ((refine big_alloc rfl 47 rfl (chA zeroCh) (by kernel_rfl) ?_; intro gK5 wK5 hlK5 nK5 hbK5; have K5 := Lib.hid nK5; have LK5 := Lib.hid (Nat.le_trans (HB.out).size hlK5); have OCIK5 := Lib.hid ((CI.out).off hlK5); have OK2K5 := Lib.hid ((K2.out).off hlK5); have OK3K5 := Lib.hid ((K3.out).off hlK5); replace CI := Lib.hid ((CI.out).keptB hbK5); replace K2 := Lib.hid ((K2.out).keptB hbK5); replace K3 := Lib.hid ((K3.out).keptB hbK5); replace HB := Lib.hid (bstep HB.out hbK5); clear hlK5 nK5 hbK5; try simp only [Act.put, List.setIfInBounds_toArray, List.set_cons_zero, List.set_cons_succ]))
  rcases allN_spec l with ⟨ha, _⟩ | ⟨p, bb, ha, hb, _⟩
  · have HA := Lib.hid ha
    clear ha
    have x3 := (K3.out).reads (i := 0) (x := .slice A n c) rfl
    go_wp2_with fail
    clear x3
    refine (pall9_in _ l _ HO.out (by omega) CI.out).mono ?_
    rintro e c1 ⟨rfl, hc1⟩
    replace CI := Lib.hid ((CI.out).keptB hc1)
    replace K2 := Lib.hid ((K2.out).keptB hc1)
    replace K3 := Lib.hid ((K3.out).keptB hc1)
    replace K5 := Lib.hid ((K5.out).keptB hc1)
    replace HB := Lib.hid (bstep HB.out hc1)
    clear hc1
    rw [HA.out]
    go_upto_region 3 with (first | (refine big_set rfl 3 _ _ rfl gK6 0 (.int .i64 (-1)) rfl rfl K6.out (by kernel_rfl) rfl rfl (of_decide_eq_true (by kernel_rfl)) (#[.int .i64 (-1)]) (by kernel_rfl) ?_; intro vK60 nK6 htK6; replace K6 := Lib.hid nK6; replace CI := Lib.hid ((CI.out).touch htK6 OCIK6.out); replace K2 := Lib.hid ((K2.out).touch htK6 OK2K6.out); replace K3 := Lib.hid ((K3.out).touch htK6 OK3K6.out); replace K5 := Lib.hid ((K5.out).touch htK6 OK5K6.out); replace HB := Lib.hid (btouch HB.out htK6 LK6.out); clear nK6 htK6; try simp only [Act.put, List.setIfInBounds_toArray, List.set_cons_zero, List.set_cons_succ]) | (refine big_alloc1 rfl 3 rfl (.int .i64 0) (by kernel_rfl) rfl ?_; intro gK6 wK6 hlK6 nK6 hbK6; have K6 := Lib.hid nK6; have LK6 := Lib.hid (Nat.le_trans (HB.out).size hlK6); have OCIK6 := Lib.hid ((CI.out).off hlK6); have OK2K6 := Lib.hid ((K2.out).off hlK6); have OK3K6 := Lib.hid ((K3.out).off hlK6); have OK5K6 := Lib.hid ((K5.out).off hlK6); replace CI := Lib.hid ((CI.out).keptB hbK6); replace K2 := Lib.hid ((K2.out).keptB hbK6); replace K3 := Lib.hid ((K3.out).keptB hbK6); replace K5 := Lib.hid ((K5.out).keptB hbK6); replace HB := Lib.hid (bstep HB.out hbK6); clear hlK6 nK6 hbK6; try simp only [Act.put, List.setIfInBounds_toArray, List.set_cons_zero, List.set_cons_succ]))
    have x6 := (K6.out).reads (i := 0) (x := .int .i64 (-1)) rfl
    go_upto_region 5 with fail
    clear x6
    go_wp2_with (first | (refine big_whole rfl 47 _ rfl gK5 rfl K5.out Try.underlying47 rfl (by kernel_rfl) ?_; try simp only [Act.put, List.setIfInBounds_toArray, List.set_cons_zero, List.set_cons_succ]) | (refine big_build rfl 47 _ rfl (chA ⟨me, true⟩) (by kernel_rfl) ?_; try simp only [Act.put, List.setIfInBounds_toArray, List.set_cons_zero, List.set_cons_succ]) | (refine big_whole rfl 29 _ rfl gK2 rfl K2.out Try.underlying29 rfl (by kernel_rfl) ?_; try simp only [Act.put, List.setIfInBounds_toArray, List.set_cons_zero, List.set_cons_succ]))
    refine (pbetter9_any ⟨me, true⟩ zeroCh _ OM.out zeroR10s_ok).mono ?_
    rintro e c2 ⟨rfl, hc2⟩
    replace CI := Lib.hid ((CI.out).keptB hc2)
    replace K2 := Lib.hid ((K2.out).keptB hc2)
    replace K3 := Lib.hid ((K3.out).keptB hc2)
    replace K5 := Lib.hid ((K5.out).keptB hc2)
    replace K6 := Lib.hid ((K6.out).keptB hc2)
    replace HB := Lib.hid (bstep HB.out hc2)
    clear hc2
    rw [show betterB ⟨me, true⟩ zeroCh = true from better_some rfl rfl]
    go_wp2
    go_ret
    exact ⟨_, rfl, .head rfl HG.out (by unfold headB; rw [HA.out]; rfl), HB.out⟩
  · have HA := Lib.hid ha
    clear ha
    have HBP := Lib.hid hb
    have OB := Lib.hid (HO.out bb (List.mem_of_getElem? hb))
    have HPN : Hid (p < n) := by rw [Hid, ← HLN.out]; exact (List.getElem?_eq_some_iff.1 hb).1
    clear hb
    have x3 := (K3.out).reads (i := 0) (x := .slice A n c) rfl
    go_wp2_with fail
    clear x3
    refine (pall9_in _ l _ HO.out (by omega) CI.out).mono ?_
    rintro e c1 ⟨rfl, hc1⟩
    replace CI := Lib.hid ((CI.out).keptB hc1)
    replace K2 := Lib.hid ((K2.out).keptB hc1)
    replace K3 := Lib.hid ((K3.out).keptB hc1)
    replace K5 := Lib.hid ((K5.out).keptB hc1)
    replace HB := Lib.hid (bstep HB.out hc1)
    clear hc1
    rw [HA.out]
    go_upto_region 3 with (first | (refine big_set rfl 3 _ _ rfl gK6 0 (.int .i64 (p : Int)) rfl rfl K6.out (by kernel_rfl) rfl rfl (of_decide_eq_true (by kernel_rfl)) (#[.int .i64 (p : Int)]) (by kernel_rfl) ?_; intro vK60 nK6 htK6; replace K6 := Lib.hid nK6; replace CI := Lib.hid ((CI.out).touch htK6 OCIK6.out); replace K2 := Lib.hid ((K2.out).touch htK6 OK2K6.out); replace K3 := Lib.hid ((K3.out).touch htK6 OK3K6.out); replace K5 := Lib.hid ((K5.out).touch htK6 OK5K6.out); replace HB := Lib.hid (btouch HB.out htK6 LK6.out); clear nK6 htK6; try simp only [Act.put, List.setIfInBounds_toArray, List.set_cons_zero, List.set_cons_succ]) | (refine big_alloc1 rfl 3 rfl (.int .i64 0) (by kernel_rfl) rfl ?_; intro gK6 wK6 hlK6 nK6 hbK6; have K6 := Lib.hid nK6; have LK6 := Lib.hid (Nat.le_trans (HB.out).size hlK6); have OCIK6 := Lib.hid ((CI.out).off hlK6); have OK2K6 := Lib.hid ((K2.out).off hlK6); have OK3K6 := Lib.hid ((K3.out).off hlK6); have OK5K6 := Lib.hid ((K5.out).off hlK6); replace CI := Lib.hid ((CI.out).keptB hbK6); replace K2 := Lib.hid ((K2.out).keptB hbK6); replace K3 := Lib.hid ((K3.out).keptB hbK6); replace K5 := Lib.hid ((K5.out).keptB hbK6); replace HB := Lib.hid (bstep HB.out hbK6); clear hlK6 nK6 hbK6; try simp only [Act.put, List.setIfInBounds_toArray, List.set_cons_zero, List.set_cons_succ]))
    have x6 := (K6.out).reads (i := 0) (x := .int .i64 (p : Int)) rfl
    have e0 : decide ((p : Int) ≥ 0) = true := decide_eq_true (by omega)
    go_upto_region 4 with fail
    have x3 := (K3.out).reads (i := 0) (x := .slice A n c) rfl
    obtain ⟨g, o, hA⟩ : ∃ g o, A = some ⟨g, o, none⟩ := by
      obtain ⟨_, _, _, h1, h2, h3⟩ := id CI.out
      cases h1
      obtain ⟨g, o, h4, _⟩ := h3 (by have := HPN.out; omega)
      exact ⟨g, o, h4⟩
    subst hA
    go_upto_region 5 with (first | (refine big_fill rfl 47 _ _ rfl gK5 (chA bb) rfl rfl K5.out (by kernel_rfl) (by kernel_rfl) (by kernel_rfl) ?_; intro vK50 nK5 htK5; replace K5 := Lib.hid nK5; replace CI := Lib.hid ((CI.out).touch htK5 OCIK5.out); replace K2 := Lib.hid ((K2.out).touch htK5 OK2K5.out); replace K3 := Lib.hid ((K3.out).touch htK5 OK3K5.out); replace K6 := Lib.hid ((K6.out).touch htK5 (Ne.symm OK5K6.out)); replace HB := Lib.hid (btouch HB.out htK5 LK5.out); clear nK5 htK5; try simp only [Act.put, List.setIfInBounds_toArray, List.set_cons_zero, List.set_cons_succ]) | (refine big_loadAt rfl 47 _ rfl g (o + p * 33) rfl (chA bb) (ch_in CI.out HBP.out) Try.underlying47 rfl (by kernel_rfl) ?_; try simp only [Act.put, List.setIfInBounds_toArray, List.set_cons_zero, List.set_cons_succ]) | (refine big_index rfl 34 _ _ rfl g o n c p 33 rfl rfl HPN.out Try.underlying34 (by kernel_rfl) ?_; try simp only [Act.put, List.setIfInBounds_toArray, List.set_cons_zero, List.set_cons_succ]))
    clear x3 x6 e0
    go_wp2_with (first | (refine big_whole rfl 47 _ rfl gK5 rfl K5.out Try.underlying47 rfl (by kernel_rfl) ?_; try simp only [Act.put, List.setIfInBounds_toArray, List.set_cons_zero, List.set_cons_succ]) | (refine big_build rfl 47 _ rfl (chA ⟨me, true⟩) (by kernel_rfl) ?_; try simp only [Act.put, List.setIfInBounds_toArray, List.set_cons_zero, List.set_cons_succ]) | (refine big_whole rfl 29 _ rfl gK2 rfl K2.out Try.underlying29 rfl (by kernel_rfl) ?_; try simp only [Act.put, List.setIfInBounds_toArray, List.set_cons_zero, List.set_cons_succ]))
    cases hbb : betterB ⟨me, true⟩ bb
    · have HBB := Lib.hid hbb
      clear hbb
      refine (pbetter9_any ⟨me, true⟩ bb _ OM.out OB.out).mono ?_
      rintro e c2 ⟨rfl, hc2⟩
      replace CI := Lib.hid ((CI.out).keptB hc2)
      replace K2 := Lib.hid ((K2.out).keptB hc2)
      replace K3 := Lib.hid ((K3.out).keptB hc2)
      replace K5 := Lib.hid ((K5.out).keptB hc2)
      replace K6 := Lib.hid ((K6.out).keptB hc2)
      replace HB := Lib.hid (bstep HB.out hc2)
      clear hc2
      rw [HBB.out]
      go_wp2
      go_ret
      exact ⟨_, rfl, .foll gK6 gK5 gK3 p bb ⟨LK6.out, (K6.out).inside⟩ ⟨LK5.out, (K5.out).inside⟩ ⟨LK3.out, (K3.out).inside⟩ rfl K6.out K5.out K3.out HG.out (by unfold headB; rw [HA.out, getD_of HBP.out, HBB.out, show decide ((p : Int) < 0) = false from decide_eq_false (by omega)]; rfl) HA.out HBP.out, HB.out⟩
    · have HBB := Lib.hid hbb
      clear hbb
      refine (pbetter9_any ⟨me, true⟩ bb _ OM.out OB.out).mono ?_
      rintro e c2 ⟨rfl, hc2⟩
      replace CI := Lib.hid ((CI.out).keptB hc2)
      replace K2 := Lib.hid ((K2.out).keptB hc2)
      replace K3 := Lib.hid ((K3.out).keptB hc2)
      replace K5 := Lib.hid ((K5.out).keptB hc2)
      replace K6 := Lib.hid ((K6.out).keptB hc2)
      replace HB := Lib.hid (bstep HB.out hc2)
      clear hc2
      rw [HBB.out]
      go_wp2
      go_ret
      exact ⟨_, rfl, .head rfl HG.out (by unfold headB; rw [HA.out, getD_of HBP.out, HBB.out, show decide ((p : Int) < 0) = false from decide_eq_false (by omega)]; rfl), HB.out⟩

end Go.Proofs.Ytpdnfeooijmgoaa
