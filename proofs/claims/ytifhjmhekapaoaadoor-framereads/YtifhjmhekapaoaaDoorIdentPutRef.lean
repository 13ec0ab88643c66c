/- The walks over the reference's Put and Get of layer 4. -/
import Derived.Test.YtifhjmhekapaoaaDoorIdentPut
namespace Go.Proofs.YtifhjmhekapaoaaDoor
set_option maxRecDepth 100000
open Go.RowKit
set_option linter.unusedVariables false

set_option maxHeartbeats 400000 in
theorem ridput_no (p : Pt) (w : World) (hf : fitB p.n = false) :
    Calls Tryd.prog 37 #[.agg #[.int .u8 p.c.b0, .int .u8 p.c.b1, .int .u8 p.c.b2, .int .u8 p.c.b3, .int .u8 p.c.b4, .int .u8 p.c.b5, .int .u8 p.c.b6, .int .u8 p.c.b7, .int .i64 p.n]] w fun e w' => e = .returned (.tuple #[.slice none 0 0, .bool false]) ∧ Below w.heap.size w w' := by
  by_cases h : p.n < 0
  · have h1 : decide (p.n < 0) = true := by simpa using h
    clear hf
    go_enter Tryd.func37, Tryd.ntmps37
    go_wp2
    go_ret2
    exact ⟨rfl, bnew _ _⟩
  · have h1 : decide (p.n < 0) = false := by simpa using h
    have h2 : decide (65535 < p.n) = true := by rw [fitB_not] at hf; simp; omega
    clear hf
    go_enter Tryd.func37, Tryd.ntmps37
    go_wp2
    go_ret2
    exact ⟨rfl, bnew _ _⟩

/-- what the reference's Put leaves: a slice that reads as the bytes -/
def RRowYes (zs : List Int) (w : World) (e : Ending) (w' : World) : Prop :=
  ∃ g c, w.heap.size ≤ g ∧ g < w'.heap.size ∧ (∀ i, i < zs.length → w'.cell? ⟨g, i, none⟩ = some (.int .u8 (zs.getD i 0))) ∧ Below w.heap.size w w' ∧ e = .returned (.tuple #[.slice (some ⟨g, 0, none⟩) 10 c, .bool true])

/-- what a round of the reference's Put keeps -/
def RPutIn (w : World) (p : Pt) (k : Nat) (b : Value) (v : World) : Prop :=
  v.ownsRow (w.heap.size + 1) 5 1 b k ((p.c.l.take k).map (Value.int .u8)) ∧ Holds v w.heap.size 26 #[.int .u8 p.c.b0, .int .u8 p.c.b1, .int .u8 p.c.b2, .int .u8 p.c.b3, .int .u8 p.c.b4, .int .u8 p.c.b5, .int .u8 p.c.b6, .int .u8 p.c.b7, .int .i64 p.n] ∧ Below w.heap.size w v

set_option maxHeartbeats 1000000 in
theorem ridput_yes (p : Pt) (w : World) (hf : fitB p.n = true) :
    Calls Tryd.prog 37 #[.agg #[.int .u8 p.c.b0, .int .u8 p.c.b1, .int .u8 p.c.b2, .int .u8 p.c.b3, .int .u8 p.c.b4, .int .u8 p.c.b5, .int .u8 p.c.b6, .int .u8 p.c.b7, .int .i64 p.n]] w (RRowYes (ptL p) w) := by
  obtain ⟨n0, n1⟩ := fitB_iff.1 hf
  clear hf
  obtain ⟨i0, hi0, hz0, hz1, hz2⟩ := info_parts info_byte
  have h1 : decide (p.n < 0) = false := by simp; omega
  have h2 : decide (65535 < p.n) = false := by simp; omega
  have K1 := Lib.hid (Holds.fresh w 26 #[.int .u8 p.c.b0, .int .u8 p.c.b1, .int .u8 p.c.b2, .int .u8 p.c.b3, .int .u8 p.c.b4, .int .u8 p.c.b5, .int .u8 p.c.b6, .int .u8 p.c.b7, .int .i64 p.n] rfl)
  have HB := Lib.hid (bnew w (.cells #[.int .u8 p.c.b0, .int .u8 p.c.b1, .int .u8 p.c.b2, .int .u8 p.c.b3, .int .u8 p.c.b4, .int .u8 p.c.b5, .int .u8 p.c.b6, .int .u8 p.c.b7, .int .i64 p.n] 26))
  go_enter Tryd.func37, Tryd.ntmps37
  go_wp2
  clear h1 h2
  go_loopw [4, 5] (fun b i v => ∃ k : Nat, k ≤ 8 ∧ i = .int .i64 k ∧ RPutIn w p k b v) (fun _ i _ => 8 - (intOf i).toNat)
  case atStart =>
    exact ⟨0, by omega, rfl, ⟨by simp, .inl ⟨rfl, rfl⟩⟩, K1.out, HB.out⟩
  case round =>
    clear K1 HB
    obtain ⟨k, hk, rfl, HO, K1, HB⟩ := hrel
    replace K1 := Lib.hid K1
    replace HB := Lib.hid HB
    replace HO := Lib.hid HO
    have hne : u4.ownBlock ≠ some w.heap.size := fun h => by
      have := ((HO.out).lt _ h).1
      omega
    have hsz := (K1.out).inside
    have hsz2 : w.heap.size + 1 ≤ wr.heap.size := hsz
    by_cases hlt : k < 8
    · obtain ⟨x, HX⟩ : ∃ x, Hid (p.c.l.getD k 0 = x) := ⟨_, Lib.hid rfl⟩
      have c1 := cell_part9 hlt K1.out
      rw [HX.out] at c1
      have HT : Hid (p.c.l.take (k + 1) = p.c.l.take k ++ [x]) := by
        have hk' : k < p.c.l.length := hlt
        rw [Hid, List.take_succ_eq_append_getElem hk', ← HX.out]
        simp [List.getD, List.getElem?_eq_getElem hk']
      go_wp2_with (at_builtin; refine wpList_append_lies _ rfl _ _ _ rfl (w.heap.size + 1) 5 i0 _ 1 1 Tryd.underlying22 hi0 hz0 hz1 hz2 rfl (by omega) _ k _ rfl ((HO.out).alloc _) ⟨wr.heap.size, 0, none⟩ 1 1 [.int .u8 x] rfl rfl (World.news_of_block (cs := #[.int .u8 x]) (t := 5) (fr := (0, 0)) (heap_alloc_new wr _)) (by simp [Value.oneCell']) (by omega) (by unfold maxLen; omega) (by omega) (by simp; omega) (wr.heap.size + 1) (by simp) ?_; intro gg cap w1 hown1 hgrow hat hlt1)
      all_goals
        go_roundw
        case rel =>
          refine ⟨k + 1, by omega, by go_num, ?_, ?_, ?_⟩
          · rw [HT.out, List.map_append]
            exact hown1
          · exact ((K1.out).laid _).grown hgrow (Ne.symm hne)
          · exact (bstep HB.out (bnew _ _)).grown hgrow (by simp; omega) (fun g hg => by have := ((HO.out).lt _ hg).1; omega)
        case measure => simp [intOf]; omega
    · obtain rfl : k = 8 := by omega
      have c8 := (K1.out).reads (i := 8) rfl
      obtain ⟨n, hn⟩ : ∃ n, p.n = n := ⟨_, rfl⟩
      have HN := Lib.hid hn
      rw [hn] at c8 n0 n1
      clear hn
      go_wp2_with (at_builtin; refine wpList_append_lies _ rfl _ _ _ rfl (w.heap.size + 1) 5 i0 _ 1 1 Tryd.underlying22 hi0 hz0 hz1 hz2 rfl (by omega) _ 8 _ rfl ((HO.out).alloc _) ⟨wr.heap.size, 0, none⟩ 2 2 [.int .u8 (n / 256), .int .u8 (n % 256)] rfl rfl (World.news_of_block (cs := #[.int .u8 (n / 256), .int .u8 (n % 256)]) (t := 5) (fr := (0, 0)) (heap_alloc_new wr _)) (by simp [Value.oneCell']) (by omega) (by unfold maxLen; omega) (by omega) (by simp; omega) (wr.heap.size + 1) (by simp) ?_; intro gg cap w1 hown1 hgrow hat hlt1)
      all_goals
        go_ret2
        refine ⟨gg, cap, ?_, hlt1, ?_, ?_, rfl⟩
        · rcases hat with h | h
          · have := ((HO.out).lt _ h).1; omega
          · omega
        · intro i hi
          have e : n / 256 % 256 = n / 256 := by omega
          have hx : (p.c.l.take 8).map (Value.int .u8) ++ [.int .u8 (n / 256), .int .u8 (n % 256)] = (ptL p).map (Value.int .u8) := by
            rw [ptL_lit, HN.out, e]; rfl
          rw [hown1.cellAt i (by rw [ptL_length] at hi; omega), hx]
          simp [List.getD, List.getElem?_eq_getElem hi]
        · exact (bstep HB.out (bnew _ _)).grown hgrow (by simp; omega) (fun g hg => by have := ((HO.out).lt _ hg).1; omega)

set_option maxHeartbeats 400000 in
theorem ridget_short (A : Option Addr) (L C : Nat) (w : World) (hL : L ≠ 10) (hm : L ≤ maxLen) :
    Calls Tryd.prog 26 #[.slice A L C] w fun e w' => e = ptR zeroP false ∧ Below w.heap.size w w' := by
  unfold maxLen at hm
  have hL' : ((L : Int) != 10) = true := by simp; omega
  go_enter Tryd.func26, Tryd.ntmps26
  go_wp2
  refine bodyPost_ret (v := .tuple #[.agg #[.int .u8 0, .int .u8 0, .int .u8 0, .int .u8 0, .int .u8 0, .int .u8 0, .int .u8 0, .int .u8 0, .int .i64 0], .bool false]) (by simp [results, Tryd.results26, go_sem]) rfl ⟨rfl, ?_⟩
  repeat' (first
    | (with_reducible exact Below.refl _ _)
    | (with_reducible refine Below.setCell ?_ (by first | exact Nat.le_refl _ | (simp; done) | (simp; omega)) _)
    | (with_reducible refine bstep ?_ (bnew _ _))
    | (with_reducible refine bdrew ?_))

set_option maxHeartbeats 1000000 in
theorem ridget_ten (a : Addr) (C : Nat) (zs : List Int) (w : World) (hl : zs.length = 10) (hb : ∀ z ∈ zs, isByte z) (hc : BytesAt w a zs) :
    Calls Tryd.prog 26 #[.slice (some a) 10 C] w fun e w' => e = ptR (getP zs) true ∧ Below w.heap.size w w' := by
  have HL := Lib.hid hl
  have hab : a.block < w.heap.size := by
    have := hc 0 (by omega)
    have := World.block_lt_of_cell? w _ this
    simpa [Addr.add] using this
  have b8 := getD_byte hb 8
  have b9 := getD_byte hb 9
  have HAT : Hid (∀ v k, Below w.heap.size w v → k < 10 → v.cell? (a.add k) = some (.int .u8 (zs.getD k 0))) := by
    intro v k hv hk
    exact hc.keep hv (fun _ _ => hab) k (by omega)
  obtain ⟨m, HM⟩ : ∃ m, Hid (zs.getD 8 0 * 256 + zs.getD 9 0 = m) := ⟨_, Lib.hid rfl⟩
  obtain ⟨y8, hy8⟩ : ∃ y, zs.getD 8 0 = y := ⟨_, rfl⟩
  obtain ⟨y9, hy9⟩ : ∃ y, zs.getD 9 0 = y := ⟨_, rfl⟩
  rw [hy8] at b8 HM
  rw [hy9] at b9 HM
  have HY8 := Lib.hid hy8
  have HY9 := Lib.hid hy9
  obtain ⟨b80, b81⟩ := b8
  obtain ⟨b90, b91⟩ := b9
  clear hl hb hc hy8 hy9
  have KR := Lib.hid ((Holds.fresh w 26 #[.int .u8 0, .int .u8 0, .int .u8 0, .int .u8 0, .int .u8 0, .int .u8 0, .int .u8 0, .int .u8 0, .int .i64 0] rfl).laid (.cells #[.int .u8 0, .int .u8 0, .int .u8 0, .int .u8 0, .int .u8 0, .int .u8 0, .int .u8 0, .int .u8 0, .int .i64 0] 26))
  have K4 : Hid (Holds ((w.alloc (.cells #[.int .u8 0, .int .u8 0, .int .u8 0, .int .u8 0, .int .u8 0, .int .u8 0, .int .u8 0, .int .u8 0, .int .i64 0] 26)).alloc (.cells #[.int .u8 0, .int .u8 0, .int .u8 0, .int .u8 0, .int .u8 0, .int .u8 0, .int .u8 0, .int .u8 0, .int .i64 0] 26)) (w.heap.size + 1) 26 #[.int .u8 (part8 (fun i => zs.getD i 0) 0).b0, .int .u8 (part8 (fun i => zs.getD i 0) 0).b1, .int .u8 (part8 (fun i => zs.getD i 0) 0).b2, .int .u8 (part8 (fun i => zs.getD i 0) 0).b3, .int .u8 (part8 (fun i => zs.getD i 0) 0).b4, .int .u8 (part8 (fun i => zs.getD i 0) 0).b5, .int .u8 (part8 (fun i => zs.getD i 0) 0).b6, .int .u8 (part8 (fun i => zs.getD i 0) 0).b7, .int .i64 0]) := Lib.hid (Holds.fresh (w.alloc (.cells #[.int .u8 0, .int .u8 0, .int .u8 0, .int .u8 0, .int .u8 0, .int .u8 0, .int .u8 0, .int .u8 0, .int .i64 0] 26)) 26 #[.int .u8 0, .int .u8 0, .int .u8 0, .int .u8 0, .int .u8 0, .int .u8 0, .int .u8 0, .int .u8 0, .int .i64 0] (g := w.heap.size + 1) (by simp))
  have HB := Lib.hid (bstep (bnew w (.cells #[.int .u8 0, .int .u8 0, .int .u8 0, .int .u8 0, .int .u8 0, .int .u8 0, .int .u8 0, .int .u8 0, .int .i64 0] 26)) (bnew _ (.cells #[.int .u8 0, .int .u8 0, .int .u8 0, .int .u8 0, .int .u8 0, .int .u8 0, .int .u8 0, .int .u8 0, .int .i64 0] 26)))
  go_enter Tryd.func26, Tryd.ntmps26
  go_wp2
  generalize (w.alloc (.cells #[.int .u8 0, .int .u8 0, .int .u8 0, .int .u8 0, .int .u8 0, .int .u8 0, .int .u8 0, .int .u8 0, .int .i64 0] 26)).alloc (.cells #[.int .u8 0, .int .u8 0, .int .u8 0, .int .u8 0, .int .u8 0, .int .u8 0, .int .u8 0, .int .u8 0, .int .i64 0] 26) = W at *
  go_loopw [5] (fun i v => ∃ k : Nat, k ≤ 8 ∧ i = .int .i64 k ∧ Hid (Holds v w.heap.size 26 #[.int .u8 0, .int .u8 0, .int .u8 0, .int .u8 0, .int .u8 0, .int .u8 0, .int .u8 0, .int .u8 0, .int .i64 0]) ∧ Hid (Holds v (w.heap.size + 1) 26 #[.int .u8 (part8 (fun i => zs.getD i 0) k).b0, .int .u8 (part8 (fun i => zs.getD i 0) k).b1, .int .u8 (part8 (fun i => zs.getD i 0) k).b2, .int .u8 (part8 (fun i => zs.getD i 0) k).b3, .int .u8 (part8 (fun i => zs.getD i 0) k).b4, .int .u8 (part8 (fun i => zs.getD i 0) k).b5, .int .u8 (part8 (fun i => zs.getD i 0) k).b6, .int .u8 (part8 (fun i => zs.getD i 0) k).b7, .int .i64 0]) ∧ Hid (Below w.heap.size w v)) (fun i _ => 8 - (intOf i).toNat)
  case atStart => exact ⟨0, by omega, rfl, KR, K4, HB⟩
  case round =>
    clear KR K4 HB
    obtain ⟨k, hk, rfl, KR, K4, HB⟩ := hrel
    by_cases hlt : k < 8
    · have c1 := HAT.out _ k HB.out (by omega)
      obtain ⟨z, HZ⟩ : ∃ z, Hid (zs.getD k 0 = z) := ⟨_, Lib.hid rfl⟩
      rw [HZ.out] at c1
      have c2 := cell_part9 hlt K4.out
      obtain ⟨y, hy⟩ : ∃ y, (part8 (fun i => zs.getD i 0) k).l.getD k 0 = y := ⟨_, rfl⟩
      rw [hy] at c2
      clear hy
      have c3 := (K4.out).open_ k
      go_wp2
      go_roundw
      case rel =>
        refine ⟨k + 1, by omega, by go_num, ?_, ?_, ?_⟩
        · exact (KR.out).aside (by simp) _
        · have h := hold_part9 hlt K4.out
          rw [HZ.out] at h
          exact h
        · exact (HB.out).setCell (by simp) _
      case measure => simp [intOf]; omega
    · obtain rfl : k = 8 := by omega
      obtain ⟨c, HCk⟩ : ∃ c, Hid (part8 (fun i => zs.getD i 0) 8 = c) := ⟨_, Lib.hid rfl⟩
      have HR : Hid (ptR (getP zs) true = .returned (.tuple #[.agg #[.int .u8 c.b0, .int .u8 c.b1, .int .u8 c.b2, .int .u8 c.b3, .int .u8 c.b4, .int .u8 c.b5, .int .u8 c.b6, .int .u8 c.b7, .int .i64 m], .bool true])) := by
        rw [Hid, ← HCk.out, ← HM.out, ← HY8.out, ← HY9.out]; rfl
      rw [HCk.out] at K4
      have e8 := HAT.out _ 8 HB.out (by omega)
      have e9 := HAT.out _ 9 HB.out (by omega)
      rw [HY8.out] at e8
      rw [HY9.out] at e9
      change wr.cell? ⟨a.block, a.off + 8, none⟩ = _ at e8
      change wr.cell? ⟨a.block, a.off + 9, none⟩ = _ at e9
      have d8 := (K4.out).reads (i := 8) rfl
      have f8 := (K4.out).open_ 8
      have hm := HM.out
      go_wp2
      go_region
      all_goals
        clear hm
        replace K4 := Lib.hid (((K4.out).put 8 (.int .i64 m)).drew)
        replace KR := Lib.hid (((KR.out).aside (p := ⟨w.heap.size + 1, 8, none⟩) (by simp) (.int .i64 m)).drew)
        replace HB := Lib.hid (bdrew ((HB.out).setCell (p := ⟨w.heap.size + 1, 8, none⟩) (by simp) (.int .i64 m)))
        clear d8 f8 e8 e9
        generalize (wr.setCell ⟨w.heap.size + 1, 8, none⟩ (.int .i64 m)).drew = V at *
        have k0 := (KR.out).reads (i := 0) rfl
        have k1 := (KR.out).reads (i := 1) rfl
        have k2 := (KR.out).reads (i := 2) rfl
        have k3 := (KR.out).reads (i := 3) rfl
        have k4 := (KR.out).reads (i := 4) rfl
        have k5 := (KR.out).reads (i := 5) rfl
        have k6 := (KR.out).reads (i := 6) rfl
        have k7 := (KR.out).reads (i := 7) rfl
        have k8 := (KR.out).reads (i := 8) rfl
        have f0 := (KR.out).open_ 0
        have f1 := (KR.out).open_ 1
        have f2 := (KR.out).open_ 2
        have f3 := (KR.out).open_ 3
        have f4 := (KR.out).open_ 4
        have f5 := (KR.out).open_ 5
        have f6 := (KR.out).open_ 6
        have f7 := (KR.out).open_ 7
        have f8 := (KR.out).open_ 8
        have c0 := (K4.out).reads (i := 0) rfl
        have c1 := (K4.out).reads (i := 1) rfl
        have c2 := (K4.out).reads (i := 2) rfl
        have c3 := (K4.out).reads (i := 3) rfl
        have c4 := (K4.out).reads (i := 4) rfl
        have c5 := (K4.out).reads (i := 5) rfl
        have c6 := (K4.out).reads (i := 6) rfl
        have c7 := (K4.out).reads (i := 7) rfl
        have c8 := (K4.out).reads (i := 8) rfl
        go_wp2
        refine bodyPost_ret (v := .tuple #[.agg #[.int .u8 c.b0, .int .u8 c.b1, .int .u8 c.b2, .int .u8 c.b3, .int .u8 c.b4, .int .u8 c.b5, .int .u8 c.b6, .int .u8 c.b7, .int .i64 m], .bool true]) (by simp [results, Tryd.results26, go_sem, k0, k1, k2, k3, k4, k5, k6, k7, k8]) rfl ⟨HR.out.symm, ?_⟩
        repeat' (first
          | (with_reducible exact Below.refl _ _)
          | (with_reducible exact HB.out)
          | (with_reducible refine Below.setCell ?_ (by first | exact Nat.le_refl _ | (simp; done) | (simp; omega)) _)
          | (with_reducible refine bstep ?_ (bnew _ _))
          | (with_reducible refine bdrew ?_))

end Go.Proofs.YtifhjmhekapaoaaDoor
