/- slices.IndexFunc and slices.MinFunc over ports. -/
import Derived.Test.YtnddmaadmibpeaaForeignClos
import Derived.Deep.LoopGhost
namespace Go.Proofs.Ytnddmaadmibpeaa
set_option maxRecDepth 100000
open Go.RowKit
set_option linter.unusedVariables false

/-- ports that lie one behind the other -/
def PtsAt (w : World) (g o : Nat) (l : List Pt) : Prop := ∀ k s, l[k]? = some s → w.rangeAt g (o + k * 9) (ptA s).toList
theorem PtsAt.block_ {w v : World} {g o : Nat} {l : List Pt} (h : PtsAt w g o l) (hv : v.heap[g]? = w.heap[g]?) : PtsAt v g o l := by
  intro k s hk j x hj
  rw [World.cell?_of_block (w := w) (a := ⟨g, o + k * 9 + j, none⟩) hv]
  exact h k s hk j x hj
theorem PtsAt.inside {w : World} {g o : Nat} {l : List Pt} (h : PtsAt w g o l) {k : Nat} {s : Pt} (hk : l[k]? = some s) : g < w.heap.size := by
  have h0 := h k s hk 0 (.int .u8 s.c.b0) rfl
  by_cases hg : g < w.heap.size
  · exact hg
  · have hnone : w.heap[g]? = none := Array.getElem?_eq_none (by omega)
    simp [World.cell?, hnone] at h0
theorem PtsAt.keptB {w v : World} {g o : Nat} {l : List Pt} (h : PtsAt w g o l) (hb : Below w.heap.size w v) : PtsAt v g o l := by
  cases l with
  | nil => intro k s hk; simp at hk
  | cons a l => exact h.block_ (hb.block g (h.inside (k := 0) rfl))
theorem PtsAt.drew {w : World} {g o : Nat} {l : List Pt} (h : PtsAt w g o l) : PtsAt w.drew g o l := h.block_ rfl
theorem PtsAt.off {w : World} {g o k : Nat} {l : List Pt} (h : PtsAt w g o l) (hg : w.heap.size ≤ k) : 0 < l.length → g ≠ k := by
  intro hl
  have := h.inside (k := 0) (List.getElem?_eq_getElem hl)
  omega
theorem PtsAt.touch {w v : World} {g o k : Nat} {l : List Pt} (h : PtsAt w g o l) (ht : Touch k w v) (hg : 0 < l.length → g ≠ k) : PtsAt v g o l := by
  cases l with
  | nil => intro k s hk; simp at hk
  | cons a l => exact h.block_ (ht.block g (hg (by simp)))
/-- the number of the first one of which f holds -/
def idxK (f : Pt → Bool) : Nat → List Pt → Int
  | _, [] => -1
  | i, q :: l => if f q then (i : Int) else idxK f (i + 1) l
def idxP (f : Pt → Bool) (ps : List Pt) : Int := idxK f 0 ps
theorem idxK_spec (f : Pt → Bool) : ∀ (l : List Pt) (i : Nat), (idxK f i l = -1 ∧ ∀ q ∈ l, f q = false) ∨ ∃ k q, idxK f i l = ((i + k : Nat) : Int) ∧ l[k]? = some q ∧ f q = true ∧ ∀ x ∈ l.take k, f x = false
  | [], i => .inl ⟨rfl, by simp⟩
  | q :: l, i => by
    unfold idxK
    cases h : f q
    · rcases idxK_spec f l (i + 1) with ⟨h1, h2⟩ | ⟨k, x, h1, h2, h3, h4⟩
      · exact .inl ⟨by simpa using h1, by simp [h]; exact h2⟩
      · refine .inr ⟨k + 1, x, ?_, by simpa using h2, h3, ?_⟩
        · simp only [Bool.false_eq_true, if_false, h1]; congr 1; omega
        · simp [h]; exact h4
    · exact .inr ⟨0, q, by simp, by simp, h, by simp⟩
theorem idxP_yes {f : Pt → Bool} {ps : List Pt} {k : Nat} {q : Pt} (hk : ps[k]? = some q) (hq : f q = true) (h : ∀ x ∈ ps.take k, f x = false) : idxP f ps = k := by
  rcases idxK_spec f ps 0 with ⟨_, h2⟩ | ⟨j, x, h1, h2, h3, h4⟩
  · rw [h2 q (List.mem_of_getElem? hk)] at hq; cases hq
  · have hj : j = k := by
      rcases Nat.lt_trichotomy j k with hlt | heq | hlt
      · have : x ∈ ps.take k := List.mem_of_getElem? (i := j) (by rw [List.getElem?_take_of_lt hlt]; exact h2)
        rw [h x this] at h3; cases h3
      · exact heq
      · have : q ∈ ps.take j := List.mem_of_getElem? (i := k) (by rw [List.getElem?_take_of_lt hlt]; exact hk)
        rw [h4 q this] at hq; cases hq
    unfold idxP
    rw [h1, hj]
    simp
theorem idxP_no {f : Pt → Bool} {ps : List Pt} (h : ∀ x ∈ ps, f x = false) : idxP f ps = -1 := by
  rcases idxK_spec f ps 0 with ⟨h1, _⟩ | ⟨j, x, _, h2, h3, _⟩
  · exact h1
  · rw [h x (List.mem_of_getElem? h2)] at h3; cases h3
theorem take_false {f : Pt → Bool} {ps : List Pt} {k : Nat} {q : Pt} (hk : ps[k]? = some q) (hq : f q = false) (h : ∀ x ∈ ps.take k, f x = false) : ∀ x ∈ ps.take (k + 1), f x = false := by
  intro x hx
  rw [List.take_add_one, hk] at hx
  rcases List.mem_append.1 hx with h1 | h1
  · exact h x h1
  · simp at h1; subst h1; exact hq
set_option maxHeartbeats 4000000 in
theorem index8_any (bt bs p m : Nat) (own : Ck) (win : Int) (L : List Fe) (st : Int) (ps : List Pt) (g n c : Nat) (w : World) (h : ClosAt w bt bs p m own win L st) (ok : ∀ q ∈ ps, ptOk q) (hn : ps.length = n) (hn2 : n ≤ 1000000) (hp : PtsAt w g 0 ps) :
    Calls Try.prog 42 #[.slice (some ⟨g, 0, none⟩) n c, .func (.func 33) #[] #[.pointer (some ⟨bt, 0, none⟩), .pointer (some ⟨bs, 0, none⟩)]] w fun e w' => e = .returned (.int .i64 (idxP (keptP L st) ps)) ∧ Below w.heap.size w w' := by
  have HB := Lib.hid (Below.refl w.heap.size w)
  have CA := Lib.hid h
  have HOK := Lib.hid ok
  have HN := Lib.hid hn
  have PA := Lib.hid hp
  clear h ok hn hp
  go_enter Try.func42, Try.ntmps42
  go_wp2
  go_loopg [8] n (fun gh i v => ∃ k : Nat, k + gh = n ∧ i = .int .i64 k ∧ Hid (∀ x ∈ ps.take k, keptP L st x = false) ∧ Hid (ClosAt v bt bs p m own win L st) ∧ Hid (PtsAt v g 0 ps) ∧ Hid (Below w.heap.size w v))
  case atStart => exact ⟨0, by omega, rfl, Lib.hid (by simp), CA, PA, HB⟩
  case round =>
    clear CA PA HB
    obtain ⟨k, hk, rfl, HF, CA, PA, HB⟩ := hrel
    cases gk with
    | zero =>
      have hd : decide ((k : Int) < (n : Int)) = false := by simp; omega
      have HX := Lib.hid (idxP_no (f := keptP L st) (ps := ps) (by have := HF.out; rwa [List.take_of_length_le (by have := HN.out; omega)] at this))
      go_wp2
      try rw [Exit.noGoto_ret]
      go_ret
      exact ⟨ret_int (by rw [HX.out]), HB.out⟩
    | succ g1 =>
      have hlt : k < n := by omega
      have hd : decide ((k : Int) < (n : Int)) = true := by simpa using hlt
      obtain ⟨q, hq⟩ : ∃ q, ps[k]? = some q := ⟨_, List.getElem?_eq_getElem (show k < ps.length by have := HN.out; omega)⟩
      have HQ := Lib.hid hq
      have HK := Lib.hid hlt
      have HOQ := Lib.hid ((HOK.out) q (List.mem_of_getElem? hq))
      clear hq hlt
      cases hb : keptP L st q
      · have HB1 := Lib.hid hb
        clear hb
        go_wp2_with (first | (refine big_loadAt rfl 35 _ rfl g (0 + k * 9) rfl (ptA q) ((PA.out) k q HQ.out) Try.underlying35 rfl (by kernel_rfl) ?_) | (refine big_index rfl 56 _ _ rfl g 0 n c k 9 rfl rfl HK.out Try.underlying56 (by kernel_rfl) ?_))
        refine (kept8_any bt bs p m own win L st q _ CA.out HOQ.out).mono ?_
        rintro e w1 ⟨rfl, h1⟩
        rw [HB1.out]
        replace CA := Lib.hid ((CA.out).keptB h1)
        replace PA := Lib.hid ((PA.out).keptB h1)
        replace HB := Lib.hid (bstep HB.out h1)
        clear h1
        go_wp2
        go_roundg g1
        case measure => omega
        case rel => exact ⟨k + 1, by omega, by go_num, Lib.hid (take_false HQ.out HB1.out HF.out), CA, PA, HB⟩
      · have HB1 := Lib.hid hb
        clear hb
        go_wp2_with (first | (refine big_loadAt rfl 35 _ rfl g (0 + k * 9) rfl (ptA q) ((PA.out) k q HQ.out) Try.underlying35 rfl (by kernel_rfl) ?_) | (refine big_index rfl 56 _ _ rfl g 0 n c k 9 rfl rfl HK.out Try.underlying56 (by kernel_rfl) ?_))
        refine (kept8_any bt bs p m own win L st q _ CA.out HOQ.out).mono ?_
        rintro e w1 ⟨rfl, h1⟩
        rw [HB1.out]
        replace CA := Lib.hid ((CA.out).keptB h1)
        replace PA := Lib.hid ((PA.out).keptB h1)
        replace HB := Lib.hid (bstep HB.out h1)
        clear h1
        have HX := Lib.hid (idxP_yes HQ.out HB1.out HF.out)
        go_wp2
        try rw [Exit.noGoto_ret]
        go_ret
        exact ⟨ret_int (by rw [HX.out]), HB.out⟩
set_option maxHeartbeats 4000000 in
theorem index8_nil (bt bs p m : Nat) (own : Ck) (win : Int) (L : List Fe) (st : Int) (c : Nat) (w : World) :
    Calls Try.prog 42 #[.slice none 0 c, .func (.func 33) #[] #[.pointer (some ⟨bt, 0, none⟩), .pointer (some ⟨bs, 0, none⟩)]] w fun e w' => e = .returned (.int .i64 (-1)) ∧ Below w.heap.size w w' := by
  have HB := Lib.hid (Below.refl w.heap.size w)
  go_enter Try.func42, Try.ntmps42
  go_wp2
  go_loopg [8] 0 (fun gh i v => i = .int .i64 0 ∧ v = w)
  case atStart => exact ⟨rfl, rfl⟩
  case round =>
    obtain ⟨rfl, rfl⟩ := hrel
    go_wp2
    try rw [Exit.noGoto_ret]
    go_ret
    exact ⟨rfl, HB.out⟩

end Go.Proofs.Ytnddmaadmibpeaa
