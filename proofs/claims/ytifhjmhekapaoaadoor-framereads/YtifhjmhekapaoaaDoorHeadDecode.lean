/- The walk over head.Decode. -/
import Derived.Test.YtifhjmhekapaoaaDoorHeadForm
import Derived.Test.YtifhjmhekapaoaaDoorByHand
import Derived.Test.YtifhjmhekapaoaaDoorKeep2
import Derived.Deep.DeepCutAuto
namespace Go.Proofs.YtifhjmhekapaoaaDoor
set_option maxRecDepth 100000
open Go.RowKit
set_option linter.unusedVariables false

/-- how Decode tells -/
def decR (n : Int) (h : Hd) : Ending := .returned (.tuple #[.agg #[.int .i64 h.t, .int .i64 h.d, .int .i64 h.f, .int .i64 h.c, .int .u8 h.p.c.b0, .int .u8 h.p.c.b1, .int .u8 h.p.c.b2, .int .u8 h.p.c.b3, .int .u8 h.p.c.b4, .int .u8 h.p.c.b5, .int .u8 h.p.c.b6, .int .u8 h.p.c.b7, .int .i64 h.p.n, .int .i64 h.s, .int .i64 h.l], .int .i64 n])
theorem zeroH_cells (n : Int) : decR n zeroH = .returned (.tuple #[.agg #[.int .i64 0, .int .i64 0, .int .i64 0, .int .i64 0, .int .u8 0, .int .u8 0, .int .u8 0, .int .u8 0, .int .u8 0, .int .u8 0, .int .u8 0, .int .u8 0, .int .i64 0, .int .i64 0, .int .i64 0], .int .i64 n]) := rfl
theorem BytesAt.inside {w : World} {a : Addr} {zs : List Int} (h : BytesAt w a zs) (hz : 0 < zs.length) : a.block < w.heap.size := by
  have := h 0 hz
  have := World.block_lt_of_cell? w _ this
  simpa [Addr.add] using this
theorem BytesAt.keptB {w v : World} {a : Addr} {zs : List Int} (h : BytesAt w a zs) (hb : Below w.heap.size w v) : BytesAt v a zs :=
  h.keep hb (fun i hi => h.inside (by omega))
theorem BytesAt.drew {w : World} {a : Addr} {zs : List Int} (h : BytesAt w a zs) : BytesAt w.drew a zs := h
/-- a cell at a place above 0 -/
theorem BytesAt.at_ {w : World} {a : Addr} {zs : List Int} (h : BytesAt w a zs) {k : Nat} (hk : k < zs.length) (h0 : 0 < k) : w.cell? ⟨a.block, a.off + k, none⟩ = some (.int .u8 (zs.getD k 0)) := by
  have := h k hk
  rw [Addr.add, if_neg (by omega)] at this
  exact this
theorem Holds.fill15 {w : World} {g : Nat} {t : TypeId} {x0 x1 x2 x3 x4 x5 x6 x7 x8 x9 x10 x11 x12 x13 x14 : Value} (h : Holds w g t #[x0, x1, x2, x3, x4, x5, x6, x7, x8, x9, x10, x11, x12, x13, x14]) (v0 v1 v2 v3 v4 v5 v6 v7 v8 v9 v10 v11 v12 v13 v14 : Value) :
    Holds (((((((((((((((w.setCell ⟨g, 0, none⟩ v0).setCell ⟨g, 1, none⟩ v1).setCell ⟨g, 2, none⟩ v2).setCell ⟨g, 3, none⟩ v3).setCell ⟨g, 4, none⟩ v4).setCell ⟨g, 5, none⟩ v5).setCell ⟨g, 6, none⟩ v6).setCell ⟨g, 7, none⟩ v7).setCell ⟨g, 8, none⟩ v8).setCell ⟨g, 9, none⟩ v9).setCell ⟨g, 10, none⟩ v10).setCell ⟨g, 11, none⟩ v11).setCell ⟨g, 12, none⟩ v12).setCell ⟨g, 13, none⟩ v13).setCell ⟨g, 14, none⟩ v14) g t #[v0, v1, v2, v3, v4, v5, v6, v7, v8, v9, v10, v11, v12, v13, v14] := by
  simpa using (((((((((((((((h.put 0 v0).put 1 v1).put 2 v2).put 3 v3).put 4 v4).put 5 v5).put 6 v6).put 7 v7).put 8 v8).put 9 v9).put 10 v10).put 11 v11).put 12 v12).put 13 v13).put 14 v14)
theorem Holds.fillAside15 {w : World} {g k : Nat} {t : TypeId} {cs : Array Value} (h : Holds w k t cs) (hg : g ≠ k) (v0 v1 v2 v3 v4 v5 v6 v7 v8 v9 v10 v11 v12 v13 v14 : Value) :
    Holds (((((((((((((((w.setCell ⟨g, 0, none⟩ v0).setCell ⟨g, 1, none⟩ v1).setCell ⟨g, 2, none⟩ v2).setCell ⟨g, 3, none⟩ v3).setCell ⟨g, 4, none⟩ v4).setCell ⟨g, 5, none⟩ v5).setCell ⟨g, 6, none⟩ v6).setCell ⟨g, 7, none⟩ v7).setCell ⟨g, 8, none⟩ v8).setCell ⟨g, 9, none⟩ v9).setCell ⟨g, 10, none⟩ v10).setCell ⟨g, 11, none⟩ v11).setCell ⟨g, 12, none⟩ v12).setCell ⟨g, 13, none⟩ v13).setCell ⟨g, 14, none⟩ v14) k t cs := (((((((((((((((h.aside hg v0).aside hg v1).aside hg v2).aside hg v3).aside hg v4).aside hg v5).aside hg v6).aside hg v7).aside hg v8).aside hg v9).aside hg v10).aside hg v11).aside hg v12).aside hg v13).aside hg v14)
theorem bfill15 {B g : Nat} {a w : World} (h : Below B a w) (hg : B ≤ g) (v0 v1 v2 v3 v4 v5 v6 v7 v8 v9 v10 v11 v12 v13 v14 : Value) : Below B a (((((((((((((((w.setCell ⟨g, 0, none⟩ v0).setCell ⟨g, 1, none⟩ v1).setCell ⟨g, 2, none⟩ v2).setCell ⟨g, 3, none⟩ v3).setCell ⟨g, 4, none⟩ v4).setCell ⟨g, 5, none⟩ v5).setCell ⟨g, 6, none⟩ v6).setCell ⟨g, 7, none⟩ v7).setCell ⟨g, 8, none⟩ v8).setCell ⟨g, 9, none⟩ v9).setCell ⟨g, 10, none⟩ v10).setCell ⟨g, 11, none⟩ v11).setCell ⟨g, 12, none⟩ v12).setCell ⟨g, 13, none⟩ v13).setCell ⟨g, 14, none⟩ v14) := (((((((((((((((h.setCell hg v0).setCell hg v1).setCell hg v2).setCell hg v3).setCell hg v4).setCell hg v5).setCell hg v6).setCell hg v7).setCell hg v8).setCell hg v9).setCell hg v10).setCell hg v11).setCell hg v12).setCell hg v13).setCell hg v14)

set_option maxRecDepth 100000 in
set_option maxHeartbeats 1000000 in
theorem decode_short (A : Option Addr) (L C : Nat) (w : World) (hL : L < 34) :
    Calls Tryd.prog 6 #[.slice A L C] w fun e w' => e = decR 50 zeroH ∧ Below w.heap.size w w' := by
  have HX := Lib.hid (zeroH_cells 50).symm
  rw [(zeroH_cells 50)]
  have K2 := Lib.hid (Holds.fresh w 28 #[.int .i64 0, .int .i64 0, .int .i64 0, .int .i64 0, .int .u8 0, .int .u8 0, .int .u8 0, .int .u8 0, .int .u8 0, .int .u8 0, .int .u8 0, .int .u8 0, .int .i64 0, .int .i64 0, .int .i64 0] rfl)
  have HB := Lib.hid (bnew w (.cells #[.int .i64 0, .int .i64 0, .int .i64 0, .int .i64 0, .int .u8 0, .int .u8 0, .int .u8 0, .int .u8 0, .int .u8 0, .int .u8 0, .int .u8 0, .int .u8 0, .int .i64 0, .int .i64 0, .int .i64 0] 28))
  go_enter Tryd.func6, Tryd.ntmps6
  go_wp2_with fail
  refine (form_short A L C _ hL).mono ?_
  rintro e w1 ⟨rfl, rfl⟩
  generalize w.alloc (.cells #[.int .i64 0, .int .i64 0, .int .i64 0, .int .i64 0, .int .u8 0, .int .u8 0, .int .u8 0, .int .u8 0, .int .u8 0, .int .u8 0, .int .u8 0, .int .u8 0, .int .i64 0, .int .i64 0, .int .i64 0] 28) = W at *
  have k0 := (K2.out).reads (i := 0) rfl
  have kf0 := (K2.out).open_ 0
  have k1 := (K2.out).reads (i := 1) rfl
  have kf1 := (K2.out).open_ 1
  have k2 := (K2.out).reads (i := 2) rfl
  have kf2 := (K2.out).open_ 2
  have k3 := (K2.out).reads (i := 3) rfl
  have kf3 := (K2.out).open_ 3
  have k4 := (K2.out).reads (i := 4) rfl
  have kf4 := (K2.out).open_ 4
  have k5 := (K2.out).reads (i := 5) rfl
  have kf5 := (K2.out).open_ 5
  have k6 := (K2.out).reads (i := 6) rfl
  have kf6 := (K2.out).open_ 6
  have k7 := (K2.out).reads (i := 7) rfl
  have kf7 := (K2.out).open_ 7
  have k8 := (K2.out).reads (i := 8) rfl
  have kf8 := (K2.out).open_ 8
  have k9 := (K2.out).reads (i := 9) rfl
  have kf9 := (K2.out).open_ 9
  have k10 := (K2.out).reads (i := 10) rfl
  have kf10 := (K2.out).open_ 10
  have k11 := (K2.out).reads (i := 11) rfl
  have kf11 := (K2.out).open_ 11
  have k12 := (K2.out).reads (i := 12) rfl
  have kf12 := (K2.out).open_ 12
  have k13 := (K2.out).reads (i := 13) rfl
  have kf13 := (K2.out).open_ 13
  have k14 := (K2.out).reads (i := 14) rfl
  have kf14 := (K2.out).open_ 14
  go_wp2
  refine bodyPost_ret (v := .tuple #[.agg #[.int .i64 0, .int .i64 0, .int .i64 0, .int .i64 0, .int .u8 0, .int .u8 0, .int .u8 0, .int .u8 0, .int .u8 0, .int .u8 0, .int .u8 0, .int .u8 0, .int .i64 0, .int .i64 0, .int .i64 0], .int .i64 50]) (by simp [results, Tryd.results6, go_sem, k0, k1, k2, k3, k4, k5, k6, k7, k8, k9, k10, k11, k12, k13, k14]) rfl ⟨rfl, ?_⟩
  repeat' (first
    | (with_reducible exact Below.refl _ _)
    | (with_reducible exact HB.out)
    | (with_reducible refine Below.setCell ?_ (by first | exact Nat.le_refl _ | (simp; done) | (simp; omega)) _)
    | (with_reducible refine bstep ?_ (bnew _ _))
    | (with_reducible refine bdrew ?_))


set_option maxRecDepth 100000 in
set_option maxHeartbeats 1000000 in
theorem decode_form (a : Addr) (L C : Nat) (zs : List Int) (w : World) (hlen : zs.length = L) (hL : 34 ≤ L) (hC : L ≤ C) (hM : C ≤ maxLen) (hb : ∀ z ∈ zs, isByte z) (hc : BytesAt w a zs) (hl : Lens w) (hf : formN L zs ≠ 0) :
    Calls Tryd.prog 6 #[.slice (some a) L C] w fun e w' => e = decR (formN L zs) zeroH ∧ Below w.heap.size w w' := by
  rw [zeroH_cells]
  have K2 := Lib.hid (Holds.fresh w 28 #[.int .i64 0, .int .i64 0, .int .i64 0, .int .i64 0, .int .u8 0, .int .u8 0, .int .u8 0, .int .u8 0, .int .u8 0, .int .u8 0, .int .u8 0, .int .u8 0, .int .i64 0, .int .i64 0, .int .i64 0] rfl)
  have HB := Lib.hid (bnew w (.cells #[.int .i64 0, .int .i64 0, .int .i64 0, .int .i64 0, .int .u8 0, .int .u8 0, .int .u8 0, .int .u8 0, .int .u8 0, .int .u8 0, .int .u8 0, .int .u8 0, .int .i64 0, .int .i64 0, .int .i64 0] 28))
  have C1 := Lib.hid (form_any a L C zs _ hlen hL hC hM hb (hc.keptB HB.out) (hl.keep HB.out))
  obtain ⟨n, hn⟩ : ∃ n, formN L zs = n := ⟨_, rfl⟩
  rw [hn] at hf C1 ⊢
  have hd : (n != 0) = true := by simpa using hf
  clear hf hn hc hb hl hlen hL hC hM
  go_enter Tryd.func6, Tryd.ntmps6
  go_wp2_with fail
  refine (C1.out).mono ?_
  rintro e w1 ⟨rfl, rfl⟩
  clear C1
  generalize w.alloc (.cells #[.int .i64 0, .int .i64 0, .int .i64 0, .int .i64 0, .int .u8 0, .int .u8 0, .int .u8 0, .int .u8 0, .int .u8 0, .int .u8 0, .int .u8 0, .int .u8 0, .int .i64 0, .int .i64 0, .int .i64 0] 28) = W at *
  have k0 := (K2.out).reads (i := 0) rfl
  have kf0 := (K2.out).open_ 0
  have k1 := (K2.out).reads (i := 1) rfl
  have kf1 := (K2.out).open_ 1
  have k2 := (K2.out).reads (i := 2) rfl
  have kf2 := (K2.out).open_ 2
  have k3 := (K2.out).reads (i := 3) rfl
  have kf3 := (K2.out).open_ 3
  have k4 := (K2.out).reads (i := 4) rfl
  have kf4 := (K2.out).open_ 4
  have k5 := (K2.out).reads (i := 5) rfl
  have kf5 := (K2.out).open_ 5
  have k6 := (K2.out).reads (i := 6) rfl
  have kf6 := (K2.out).open_ 6
  have k7 := (K2.out).reads (i := 7) rfl
  have kf7 := (K2.out).open_ 7
  have k8 := (K2.out).reads (i := 8) rfl
  have kf8 := (K2.out).open_ 8
  have k9 := (K2.out).reads (i := 9) rfl
  have kf9 := (K2.out).open_ 9
  have k10 := (K2.out).reads (i := 10) rfl
  have kf10 := (K2.out).open_ 10
  have k11 := (K2.out).reads (i := 11) rfl
  have kf11 := (K2.out).open_ 11
  have k12 := (K2.out).reads (i := 12) rfl
  have kf12 := (K2.out).open_ 12
  have k13 := (K2.out).reads (i := 13) rfl
  have kf13 := (K2.out).open_ 13
  have k14 := (K2.out).reads (i := 14) rfl
  have kf14 := (K2.out).open_ 14
  go_wp2
  refine bodyPost_ret (v := .tuple #[.agg #[.int .i64 0, .int .i64 0, .int .i64 0, .int .i64 0, .int .u8 0, .int .u8 0, .int .u8 0, .int .u8 0, .int .u8 0, .int .u8 0, .int .u8 0, .int .u8 0, .int .i64 0, .int .i64 0, .int .i64 0], .int .i64 n]) (by simp [results, Tryd.results6, go_sem, k0, k1, k2, k3, k4, k5, k6, k7, k8, k9, k10, k11, k12, k13, k14]) rfl ⟨rfl, ?_⟩
  repeat' (first
    | (with_reducible exact Below.refl _ _)
    | (with_reducible exact HB.out)
    | (with_reducible refine Below.setCell ?_ (by first | exact Nat.le_refl _ | (simp; done) | (simp; omega)) _)
    | (with_reducible refine bstep ?_ (bnew _ _))
    | (with_reducible refine bdrew ?_))


set_option maxRecDepth 100000 in
set_option maxHeartbeats 4000000 in
theorem decode_right (a : Addr) (L C : Nat) (zs : List Int) (w : World) (hlen : zs.length = L) (hL : 34 ≤ L) (hC : L ≤ C) (hM : C ≤ maxLen) (hb : ∀ z ∈ zs, isByte z) (hc : BytesAt w a zs) (hl : Lens w) (hf : formN L zs = 0) :
    Calls Tryd.prog 6 #[.slice (some a) L C] w fun e w' => e = decR (faultN L zs) (decH L zs) ∧ Below w.heap.size w w' := by
  have K2 := Lib.hid (Holds.fresh w 28 #[.int .i64 0, .int .i64 0, .int .i64 0, .int .i64 0, .int .u8 0, .int .u8 0, .int .u8 0, .int .u8 0, .int .u8 0, .int .u8 0, .int .u8 0, .int .u8 0, .int .i64 0, .int .i64 0, .int .i64 0] rfl)
  have HB := Lib.hid (bnew w (.cells #[.int .i64 0, .int .i64 0, .int .i64 0, .int .i64 0, .int .u8 0, .int .u8 0, .int .u8 0, .int .u8 0, .int .u8 0, .int .u8 0, .int .u8 0, .int .u8 0, .int .i64 0, .int .i64 0, .int .i64 0] 28))
  have C1 := Lib.hid (form_any a L C zs _ hlen hL hC hM hb (hc.keptB HB.out) (hl.keep HB.out))
  rw [hf] at C1
  have HC := Lib.hid (hc.keptB HB.out)
  have HBy := Lib.hid hb
  obtain ⟨G, HG⟩ : ∃ G, Hid (hdOf zs = G) := ⟨_, Lib.hid rfl⟩
  obtain ⟨z0, hz0⟩ : ∃ z, zs.getD 0 0 = z := ⟨_, rfl⟩
  obtain ⟨z4, hz4⟩ : ∃ z, zs.getD 4 0 = z := ⟨_, rfl⟩
  obtain ⟨z33, hz33⟩ : ∃ z, zs.getD 33 0 = z := ⟨_, rfl⟩
  have b0 := getD_byte hb 0
  have b4 := getD_byte hb 4
  have b33 := getD_byte hb 33
  rw [hz0] at b0
  rw [hz4] at b4
  rw [hz33] at b33
  obtain ⟨b4l, b4h⟩ := b4
  obtain ⟨b33l, b33h⟩ := b33
  have bf6 := getD_byte hb 6
  have bf7 := getD_byte hb 7
  have g1 : G.t = z0 % 16 := by rw [← HG.out, ← hz0]; rfl
  have g2 : G.d = z4 := by rw [← HG.out, ← hz4]; rfl
  have g3 : G.f = wrap64 (beN ((zs.drop 6).take 2)) := by rw [← HG.out, sub2 (by omega) hb]; rfl
  have g4 : G.c = wrap64 (beN ((zs.drop 8).take 8)) := by rw [← HG.out]; rfl
  have g5 : G.p = getP ((zs.drop 20).take 10) := by rw [← HG.out]; rfl
  have g6 : G.s = wrap64 (beN ((zs.drop 30).take 2)) := by rw [← HG.out, sub2 (by omega) hb]; rfl
  have g7 : G.l = sg1 z33 := by rw [← HG.out, ← hz33]; rfl
  have gf0 : -9223372036854775808 ≤ G.f := by rw [← HG.out]; show _ ≤ zs.getD 6 0 * 256 + zs.getD 7 0; unfold isByte at bf6 bf7; omega
  have gf1 : G.f ≤ 9223372036854775807 := by rw [← HG.out]; show zs.getD 6 0 * 256 + zs.getD 7 0 ≤ _; unfold isByte at bf6 bf7; omega
  clear bf6 bf7
  have CT : Hid (∀ v, BytesAt v a zs → Calls Tryd.prog 19 #[.slice (some a) L C] v fun e w' => e = .returned (.int .i64 G.t) ∧ v = w') := by
    intro v hv
    rw [g1]
    have e0 := hv 0 (by omega)
    rw [Addr.add_zero', hz0] at e0
    exact typeOf_any a L C z0 v (by omega) (by omega) b0 e0
  have R1 : Hid (∀ v c, BytesAt v a zs → Calls Tryd.prog 20 #[.slice (some ⟨a.block, a.off + 6, none⟩) 2 c] v fun e w' => e = .returned (.int .i64 G.f) ∧ v = w') := by
    intro v c hv
    rw [g3]
    have hlen : ((zs.drop 6).take 2).length = 2 := by rw [List.length_take, List.length_drop]; omega
    have h := hread_any (a.add 6) c ((zs.drop 6).take 2) v (by omega) (fun z hz => hb z (List.mem_of_mem_drop (List.mem_of_mem_take hz))) (hv.sub 6 (fun i hi => by
      rw [hlen] at hi
      rw [List.getElem?_take, if_pos hi, List.getElem?_drop]))
    rw [hlen] at h
    exact h
  have R2 : Hid (∀ v c, BytesAt v a zs → Calls Tryd.prog 20 #[.slice (some ⟨a.block, a.off + 8, none⟩) 8 c] v fun e w' => e = .returned (.int .i64 G.c) ∧ v = w') := by
    intro v c hv
    rw [g4]
    have hlen : ((zs.drop 8).take 8).length = 8 := by rw [List.length_take, List.length_drop]; omega
    have h := hread_any (a.add 8) c ((zs.drop 8).take 8) v (by omega) (fun z hz => hb z (List.mem_of_mem_drop (List.mem_of_mem_take hz))) (hv.sub 8 (fun i hi => by
      rw [hlen] at hi
      rw [List.getElem?_take, if_pos hi, List.getElem?_drop]))
    rw [hlen] at h
    exact h
  have R3 : Hid (∀ v c, BytesAt v a zs → Calls Tryd.prog 20 #[.slice (some ⟨a.block, a.off + 30, none⟩) 2 c] v fun e w' => e = .returned (.int .i64 G.s) ∧ v = w') := by
    intro v c hv
    rw [g6]
    have hlen : ((zs.drop 30).take 2).length = 2 := by rw [List.length_take, List.length_drop]; omega
    have h := hread_any (a.add 30) c ((zs.drop 30).take 2) v (by omega) (fun z hz => hb z (List.mem_of_mem_drop (List.mem_of_mem_take hz))) (hv.sub 30 (fun i hi => by
      rw [hlen] at hi
      rw [List.getElem?_take, if_pos hi, List.getElem?_drop]))
    rw [hlen] at h
    exact h
  have CG : Hid (∀ v c, BytesAt v a zs → Calls Tryd.prog 22 #[.slice (some ⟨a.block, a.off + 20, none⟩) 10 c] v fun e w' => e = .returned (.tuple #[.agg #[.int .u8 G.p.c.b0, .int .u8 G.p.c.b1, .int .u8 G.p.c.b2, .int .u8 G.p.c.b3, .int .u8 G.p.c.b4, .int .u8 G.p.c.b5, .int .u8 G.p.c.b6, .int .u8 G.p.c.b7, .int .i64 G.p.n], .bool true]) ∧ Below v.heap.size v w') := by
    intro v c hv
    rw [g5]
    have hlen : ((zs.drop 20).take 10).length = 10 := by rw [List.length_take, List.length_drop]; omega
    exact idget_ten (a.add 20) c ((zs.drop 20).take 10) v hlen (fun z hz => hb z (List.mem_of_mem_drop (List.mem_of_mem_take hz))) (hv.sub 20 (fun i hi => by
      rw [hlen] at hi
      rw [List.getElem?_take, if_pos hi, List.getElem?_drop]))
  have V4 : Hid (∀ v, BytesAt v a zs → v.cell? ⟨a.block, a.off + 4, none⟩ = some (.int .u8 z4)) := fun v hv => by rw [← hz4]; exact hv.at_ (by omega) (by omega)
  have V33 : Hid (∀ v, BytesAt v a zs → v.cell? ⟨a.block, a.off + 33, none⟩ = some (.int .u8 z33)) := fun v hv => by rw [← hz33]; exact hv.at_ (by omega) (by omega)
  have hi8 : IntKind.i8.wrap z33 = G.l := by
    rw [g7]; simp only [IntKind.wrap, IntKind.bits, IntKind.signed]; unfold sg1; simp; split <;> omega
  have hl0 : -128 ≤ G.l := by rw [g7]; unfold sg1; split <;> omega
  have hl1 : G.l ≤ 127 := by rw [g7]; unfold sg1; split <;> omega
  have HG2 := Lib.hid g2
  have HL : Hid (34 ≤ L ∧ L ≤ C ∧ C ≤ maxLen) := ⟨hL, hC, hM⟩
  have HW8 := Lib.hid hi8
  have hLi : (34 : Int) ≤ (L : Int) := by omega
  have hCi : (34 : Int) ≤ (C : Int) := by omega
  unfold maxLen at hM
  have hMi : (C : Int) ≤ 9223372036854775807 := by omega
  have hLC : (L : Int) ≤ (C : Int) := by omega
  obtain ⟨FB, HFB⟩ : ∃ FB, Hid (flagB G.t G.f = FB) := ⟨_, Lib.hid rfl⟩
  obtain ⟨NB, HNB⟩ : ∃ NB, Hid (inB G.p.n 1 65534 = NB) := ⟨_, Lib.hid rfl⟩
  obtain ⟨E, HE⟩ : ∃ E, Hid (decR (faultN L zs) (decH L zs) = E) := ⟨_, Lib.hid rfl⟩
  have HX : Hid (E = decR (if FB = false then 55 else if NB = false then 56 else 0) (if FB = true ∧ NB = true then G else zeroH)) := by
    rw [Hid, ← HE.out]
    unfold decH
    have e : faultN L zs = (if FB = false then 55 else if NB = false then 56 else 0) := by
      unfold faultN
      rw [hf, if_neg (by simp), HG.out, HFB.out, HNB.out]
    rw [e, HG.out]
    cases FB <;> cases NB <;> rfl
  rw [HE.out]
  clear HE
  clear hc hb hl hf hz0 hz4 hz33 b0 g1 g2 g3 g4 g5 g6 g7 hL hC hM hi8 hlen HG
  go_enter Tryd.func6, Tryd.ntmps6
  go_wp2_with fail
  refine (C1.out).mono ?_
  rintro e w1 ⟨rfl, rfl⟩
  clear C1
  go_upto_region 4 with fail
  generalize w.alloc (.cells #[.int .i64 0, .int .i64 0, .int .i64 0, .int .i64 0, .int .u8 0, .int .u8 0, .int .u8 0, .int .u8 0, .int .u8 0, .int .u8 0, .int .u8 0, .int .u8 0, .int .i64 0, .int .i64 0, .int .i64 0] 28) = W at *
  go_cut [5] (fun p wx => ∃ g, W.heap.size ≤ g ∧ p = .pointer (some ⟨g, 0, none⟩) ∧ Hid (Holds wx g 28 #[.int .i64 G.t, .int .i64 G.d, .int .i64 G.f, .int .i64 G.c, .int .u8 0, .int .u8 0, .int .u8 0, .int .u8 0, .int .u8 0, .int .u8 0, .int .u8 0, .int .u8 0, .int .i64 0, .int .i64 G.s, .int .i64 G.l]) ∧ Hid (Below W.heap.size W wx))
  case first =>
    refine wp_region_noPanic ?_
    refine wp_region_held_drew (S := fun v => BytesAt v a zs) (by kernel_rfl) ?_ (fun hHeld => ?_)
    · exact (HC.out).drew
    have hw8 := HW8.out
    have hd2 := HG2.out
    refine wpAnyH_take (i := 0) (v := .slice (some a) L C) (at_list rfl) (by kernel_rfl) (by kernel_rfl) (by kernel_rfl) (fun _ _ _ h => h) (Or.inl ⟨by rfl, ?_⟩) (by assumption) ?_
    · intro v hSv
      have c4 := V4.out v hSv
      have c33 := V33.out v hSv
      clear hSv hHeld
      go_simp
    try simp only [Act.put, List.setIfInBounds_toArray, List.set_cons_zero, List.set_cons_succ]
    refine wpAnyH_take (i := 2) (v := .slice (some a) L C) (at_list rfl) (by kernel_rfl) (by kernel_rfl) (by kernel_rfl) (fun _ _ _ h => h) (Or.inl ⟨by rfl, ?_⟩) (by assumption) ?_
    · intro v hSv
      have c4 := V4.out v hSv
      have c33 := V33.out v hSv
      clear hSv hHeld
      go_simp
    try simp only [Act.put, List.setIfInBounds_toArray, List.set_cons_zero, List.set_cons_succ]
    refine wpAnyH_take (i := 3) (v := .pointer (some ⟨a.block, a.off + 4, none⟩)) (at_list rfl) (by kernel_rfl) (by kernel_rfl) (by kernel_rfl) (fun _ _ _ h => h) (Or.inl ⟨by rfl, ?_⟩) (by assumption) ?_
    · intro v hSv
      have c4 := V4.out v hSv
      have c33 := V33.out v hSv
      clear hSv hHeld
      go_simp
      intro h
      exfalso
      omega
    try simp only [Act.put, List.setIfInBounds_toArray, List.set_cons_zero, List.set_cons_succ]
    refine wpAnyH_take (i := 4) (v := .int .u8 z4) (at_list rfl) (by kernel_rfl) (by kernel_rfl) (by kernel_rfl) (fun _ _ _ h => h) (Or.inl ⟨by rfl, ?_⟩) (by assumption) ?_
    · intro v hSv
      have c4 := V4.out v hSv
      have c33 := V33.out v hSv
      clear hSv hHeld
      go_simp
    try simp only [Act.put, List.setIfInBounds_toArray, List.set_cons_zero, List.set_cons_succ]
    refine wpAnyH_take (i := 5) (v := .int .i64 z4) (at_list rfl) (by kernel_rfl) (by kernel_rfl) (by kernel_rfl) (fun _ _ _ h => h) (Or.inl ⟨by rfl, ?_⟩) (by assumption) ?_
    · intro v hSv
      have c4 := V4.out v hSv
      have c33 := V33.out v hSv
      clear hSv hHeld
      go_simp
      rw [IntKind.wrap_i64]
      omega
    try simp only [Act.put, List.setIfInBounds_toArray, List.set_cons_zero, List.set_cons_succ]
    refine wpAnyH_take (i := 6) (v := .slice (some a) L C) (at_list rfl) (by kernel_rfl) (by kernel_rfl) (by kernel_rfl) (fun _ _ _ h => h) (Or.inl ⟨by rfl, ?_⟩) (by assumption) ?_
    · intro v hSv
      have c4 := V4.out v hSv
      have c33 := V33.out v hSv
      clear hSv hHeld
      go_simp
    try simp only [Act.put, List.setIfInBounds_toArray, List.set_cons_zero, List.set_cons_succ]
    refine wpAnyH_take (i := 7) (v := .slice (some ⟨a.block, a.off + 6, none⟩) 2 (C - 6)) (at_list rfl) (by kernel_rfl) (by kernel_rfl) (by kernel_rfl) (fun _ _ _ h => h) (Or.inl ⟨by rfl, ?_⟩) (by assumption) ?_
    · intro v hSv
      have c4 := V4.out v hSv
      have c33 := V33.out v hSv
      clear hSv hHeld
      go_simp
      rw [if_pos (by omega), if_neg (by omega)]
    try simp only [Act.put, List.setIfInBounds_toArray, List.set_cons_zero, List.set_cons_succ]
    refine wpAnyH_take (i := 9) (v := .slice (some a) L C) (at_list rfl) (by kernel_rfl) (by kernel_rfl) (by kernel_rfl) (fun _ _ _ h => h) (Or.inl ⟨by rfl, ?_⟩) (by assumption) ?_
    · intro v hSv
      have c4 := V4.out v hSv
      have c33 := V33.out v hSv
      clear hSv hHeld
      go_simp
    try simp only [Act.put, List.setIfInBounds_toArray, List.set_cons_zero, List.set_cons_succ]
    refine wpAnyH_take (i := 10) (v := .slice (some ⟨a.block, a.off + 8, none⟩) 8 (C - 8)) (at_list rfl) (by kernel_rfl) (by kernel_rfl) (by kernel_rfl) (fun _ _ _ h => h) (Or.inl ⟨by rfl, ?_⟩) (by assumption) ?_
    · intro v hSv
      have c4 := V4.out v hSv
      have c33 := V33.out v hSv
      clear hSv hHeld
      go_simp
      rw [if_pos (by omega), if_neg (by omega)]
    try simp only [Act.put, List.setIfInBounds_toArray, List.set_cons_zero, List.set_cons_succ]
    refine wpAnyH_take (i := 12) (v := .slice (some a) L C) (at_list rfl) (by kernel_rfl) (by kernel_rfl) (by kernel_rfl) (fun _ _ _ h => h) (Or.inl ⟨by rfl, ?_⟩) (by assumption) ?_
    · intro v hSv
      have c4 := V4.out v hSv
      have c33 := V33.out v hSv
      clear hSv hHeld
      go_simp
    try simp only [Act.put, List.setIfInBounds_toArray, List.set_cons_zero, List.set_cons_succ]
    refine wpAnyH_take (i := 13) (v := .slice (some ⟨a.block, a.off + 30, none⟩) 2 (C - 30)) (at_list rfl) (by kernel_rfl) (by kernel_rfl) (by kernel_rfl) (fun _ _ _ h => h) (Or.inl ⟨by rfl, ?_⟩) (by assumption) ?_
    · intro v hSv
      have c4 := V4.out v hSv
      have c33 := V33.out v hSv
      clear hSv hHeld
      go_simp
      rw [if_pos (by omega), if_neg (by omega)]
    try simp only [Act.put, List.setIfInBounds_toArray, List.set_cons_zero, List.set_cons_succ]
    refine wpAnyH_take (i := 15) (v := .slice (some a) L C) (at_list rfl) (by kernel_rfl) (by kernel_rfl) (by kernel_rfl) (fun _ _ _ h => h) (Or.inl ⟨by rfl, ?_⟩) (by assumption) ?_
    · intro v hSv
      have c4 := V4.out v hSv
      have c33 := V33.out v hSv
      clear hSv hHeld
      go_simp
    try simp only [Act.put, List.setIfInBounds_toArray, List.set_cons_zero, List.set_cons_succ]
    refine wpAnyH_take (i := 16) (v := .pointer (some ⟨a.block, a.off + 33, none⟩)) (at_list rfl) (by kernel_rfl) (by kernel_rfl) (by kernel_rfl) (fun _ _ _ h => h) (Or.inl ⟨by rfl, ?_⟩) (by assumption) ?_
    · intro v hSv
      have c4 := V4.out v hSv
      have c33 := V33.out v hSv
      clear hSv hHeld
      go_simp
      intro h
      exfalso
      omega
    try simp only [Act.put, List.setIfInBounds_toArray, List.set_cons_zero, List.set_cons_succ]
    refine wpAnyH_take (i := 17) (v := .int .u8 z33) (at_list rfl) (by kernel_rfl) (by kernel_rfl) (by kernel_rfl) (fun _ _ _ h => h) (Or.inl ⟨by rfl, ?_⟩) (by assumption) ?_
    · intro v hSv
      have c4 := V4.out v hSv
      have c33 := V33.out v hSv
      clear hSv hHeld
      go_simp
    try simp only [Act.put, List.setIfInBounds_toArray, List.set_cons_zero, List.set_cons_succ]
    refine wpAnyH_take (i := 18) (v := .int .i8 G.l) (at_list rfl) (by kernel_rfl) (by kernel_rfl) (by kernel_rfl) (fun _ _ _ h => h) (Or.inl ⟨by rfl, ?_⟩) (by assumption) ?_
    · intro v hSv
      have c4 := V4.out v hSv
      have c33 := V33.out v hSv
      clear hSv hHeld
      go_simp
    try simp only [Act.put, List.setIfInBounds_toArray, List.set_cons_zero, List.set_cons_succ]
    refine wpAnyH_take (i := 19) (v := .int .i64 G.l) (at_list rfl) (by kernel_rfl) (by kernel_rfl) (by kernel_rfl) (fun _ _ _ h => h) (Or.inl ⟨by rfl, ?_⟩) (by assumption) ?_
    · intro v hSv
      have c4 := V4.out v hSv
      have c33 := V33.out v hSv
      clear hSv hHeld
      go_simp
      rw [IntKind.wrap_i64]
      omega
    try simp only [Act.put, List.setIfInBounds_toArray, List.set_cons_zero, List.set_cons_succ]
    refine wpAnyH_ready (rs := [1, 21]) (by kernel_rfl) (by simp) ?_
    refine AllReadyH.cons (at_list rfl) (fun K hK => ?_) ?_
    · go_simp
      refine (CT.out _ (by assumption)).mono ?_
      rintro e wy ⟨rfl, rfl⟩
      go_wp2_with fail
      refine hK.out _ _ ?_ (fun hHeld => ?_)
      · assumption
      clear hK K
      try simp only [Act.put, List.setIfInBounds_toArray, List.set_cons_zero, List.set_cons_succ]
      refine wpAnyH_ready (rs := [8, 21]) (by kernel_rfl) (by simp) ?_
      refine AllReadyH.cons (at_list rfl) (fun K hK => ?_) ?_
      · go_simp
        refine (R1.out _ _ (by assumption)).mono ?_
        rintro e wy ⟨rfl, rfl⟩
        go_wp2_with fail
        refine hK.out _ _ ?_ (fun hHeld => ?_)
        · assumption
        clear hK K
        try simp only [Act.put, List.setIfInBounds_toArray, List.set_cons_zero, List.set_cons_succ]
        refine wpAnyH_ready (rs := [11, 21]) (by kernel_rfl) (by simp) ?_
        refine AllReadyH.cons (at_list rfl) (fun K hK => ?_) ?_
        · go_simp
          refine (R2.out _ _ (by assumption)).mono ?_
          rintro e wy ⟨rfl, rfl⟩
          go_wp2_with fail
          refine hK.out _ _ ?_ (fun hHeld => ?_)
          · assumption
          clear hK K
          try simp only [Act.put, List.setIfInBounds_toArray, List.set_cons_zero, List.set_cons_succ]
          refine wpAnyH_ready (rs := [14, 21]) (by kernel_rfl) (by simp) ?_
          refine AllReadyH.cons (at_list rfl) (fun K hK => ?_) ?_
          · go_simp
            refine (R3.out _ _ (by assumption)).mono ?_
            rintro e wy ⟨rfl, rfl⟩
            go_wp2_with fail
            refine hK.out _ _ ?_ (fun hHeld => ?_)
            · assumption
            clear hK K
            try simp only [Act.put, List.setIfInBounds_toArray, List.set_cons_zero, List.set_cons_succ]
            refine wpAnyH_take (i := 20) (v := .agg #[.int .i64 G.t, .int .i64 z4, .int .i64 G.f, .int .i64 G.c, .int .u8 0, .int .u8 0, .int .u8 0, .int .u8 0, .int .u8 0, .int .u8 0, .int .u8 0, .int .u8 0, .int .i64 0, .int .i64 G.s, .int .i64 G.l]) (at_list rfl) (by kernel_rfl) (by kernel_rfl) (by kernel_rfl) (fun _ _ _ h => h) (Or.inl ⟨by rfl, ?_⟩) (by assumption) ?_
            · intro v hSv
              have c4 := V4.out v hSv
              have c33 := V33.out v hSv
              clear hSv hHeld
              go_simp
            try simp only [Act.put, List.setIfInBounds_toArray, List.set_cons_zero, List.set_cons_succ]
            refine wpAnyH_ready (rs := [21]) (by kernel_rfl) (by simp) ?_
            refine AllReadyH.cons (at_list rfl) (fun K hK => ?_) ?_
            · go_simp
              refine hK.out _ _ ?_ (fun hHeld => ?_)
              · exact BytesAt.keptB HC.out (bdrew (bnew W (.cells #[.int .i64 0, .int .i64 0, .int .i64 0, .int .i64 0, .int .u8 0, .int .u8 0, .int .u8 0, .int .u8 0, .int .u8 0, .int .u8 0, .int .u8 0, .int .u8 0, .int .i64 0, .int .i64 0, .int .i64 0] 28)))
              clear hK K
              try simp only [Act.put, List.setIfInBounds_toArray, List.set_cons_zero, List.set_cons_succ]
              have MA := Lib.hid ((Holds.fresh W 28 #[.int .i64 0, .int .i64 0, .int .i64 0, .int .i64 0, .int .u8 0, .int .u8 0, .int .u8 0, .int .u8 0, .int .u8 0, .int .u8 0, .int .u8 0, .int .u8 0, .int .i64 0, .int .i64 0, .int .i64 0] rfl).drew)
              have QQ := Lib.hid (bdrew (bnew W (.cells #[.int .i64 0, .int .i64 0, .int .i64 0, .int .i64 0, .int .u8 0, .int .u8 0, .int .u8 0, .int .u8 0, .int .u8 0, .int .u8 0, .int .u8 0, .int .u8 0, .int .i64 0, .int .i64 0, .int .i64 0] 28)))
              generalize (W.alloc (.cells #[.int .i64 0, .int .i64 0, .int .i64 0, .int .i64 0, .int .u8 0, .int .u8 0, .int .u8 0, .int .u8 0, .int .u8 0, .int .u8 0, .int .u8 0, .int .u8 0, .int .i64 0, .int .i64 0, .int .i64 0] 28)).drew = V at *
              have la0 := (MA.out).reads (i := 0) rfl
              have laf0 := (MA.out).open_ 0
              have la1 := (MA.out).reads (i := 1) rfl
              have laf1 := (MA.out).open_ 1
              have la2 := (MA.out).reads (i := 2) rfl
              have laf2 := (MA.out).open_ 2
              have la3 := (MA.out).reads (i := 3) rfl
              have laf3 := (MA.out).open_ 3
              have la4 := (MA.out).reads (i := 4) rfl
              have laf4 := (MA.out).open_ 4
              have la5 := (MA.out).reads (i := 5) rfl
              have laf5 := (MA.out).open_ 5
              have la6 := (MA.out).reads (i := 6) rfl
              have laf6 := (MA.out).open_ 6
              have la7 := (MA.out).reads (i := 7) rfl
              have laf7 := (MA.out).open_ 7
              have la8 := (MA.out).reads (i := 8) rfl
              have laf8 := (MA.out).open_ 8
              have la9 := (MA.out).reads (i := 9) rfl
              have laf9 := (MA.out).open_ 9
              have la10 := (MA.out).reads (i := 10) rfl
              have laf10 := (MA.out).open_ 10
              have la11 := (MA.out).reads (i := 11) rfl
              have laf11 := (MA.out).open_ 11
              have la12 := (MA.out).reads (i := 12) rfl
              have laf12 := (MA.out).open_ 12
              have la13 := (MA.out).reads (i := 13) rfl
              have laf13 := (MA.out).open_ 13
              have la14 := (MA.out).reads (i := 14) rfl
              have laf14 := (MA.out).open_ 14
              refine wpAnyH_ready (rs := [22]) (by kernel_rfl) (by simp) ?_
              refine AllReadyH.cons (at_list rfl) (fun K hK => ?_) AllReadyH.nil
              go_simp
              refine hK.out _ _ ?_ (fun hHeld => ?_)
              · exact BytesAt.keptB HC.out (bfill15 QQ.out (Nat.le_refl _) _ _ _ _ _ _ _ _ _ _ _ _ _ _ _)
              clear hK K
              try simp only [Act.put, List.setIfInBounds_toArray, List.set_cons_zero, List.set_cons_succ]
              refine wpAnyH_done (by kernel_rfl) ?_ _
              refine NoPanic.normal ?_
              go_wp2_with fail
              go_meet
              refine ⟨_, Nat.le_refl _, rfl, ?_, bfill15 QQ.out (Nat.le_refl _) _ _ _ _ _ _ _ _ _ _ _ _ _ _ _⟩
              rw [hd2]
              exact (MA.out).fill15 _ _ _ _ _ _ _ _ _ _ _ _ _ _ _
            exact AllReadyH.nil
          refine AllReadyH.cons (at_list rfl) (fun K hK => ?_) ?_
          · go_simp
            refine hK.out _ _ ?_ (fun hHeld => ?_)
            · exact BytesAt.keptB HC.out (bdrew (bnew W (.cells #[.int .i64 0, .int .i64 0, .int .i64 0, .int .i64 0, .int .u8 0, .int .u8 0, .int .u8 0, .int .u8 0, .int .u8 0, .int .u8 0, .int .u8 0, .int .u8 0, .int .i64 0, .int .i64 0, .int .i64 0] 28)))
            clear hK K
            try simp only [Act.put, List.setIfInBounds_toArray, List.set_cons_zero, List.set_cons_succ]
            refine wpAnyH_ready (rs := [14]) (by kernel_rfl) (by simp) ?_
            refine AllReadyH.cons (at_list rfl) (fun K hK => ?_) ?_
            · go_simp
              refine (R3.out _ _ (by assumption)).mono ?_
              rintro e wy ⟨rfl, rfl⟩
              go_wp2_with fail
              refine hK.out _ _ ?_ (fun hHeld => ?_)
              · assumption
              clear hK K
              try simp only [Act.put, List.setIfInBounds_toArray, List.set_cons_zero, List.set_cons_succ]
              refine wpAnyH_take (i := 20) (v := .agg #[.int .i64 G.t, .int .i64 z4, .int .i64 G.f, .int .i64 G.c, .int .u8 0, .int .u8 0, .int .u8 0, .int .u8 0, .int .u8 0, .int .u8 0, .int .u8 0, .int .u8 0, .int .i64 0, .int .i64 G.s, .int .i64 G.l]) (at_list rfl) (by kernel_rfl) (by kernel_rfl) (by kernel_rfl) (fun _ _ _ h => h) (Or.inl ⟨by rfl, ?_⟩) (by assumption) ?_
              · intro v hSv
                have c4 := V4.out v hSv
                have c33 := V33.out v hSv
                clear hSv hHeld
                go_simp
              try simp only [Act.put, List.setIfInBounds_toArray, List.set_cons_zero, List.set_cons_succ]
              have MA := Lib.hid ((Holds.fresh W 28 #[.int .i64 0, .int .i64 0, .int .i64 0, .int .i64 0, .int .u8 0, .int .u8 0, .int .u8 0, .int .u8 0, .int .u8 0, .int .u8 0, .int .u8 0, .int .u8 0, .int .i64 0, .int .i64 0, .int .i64 0] rfl).drew)
              have QQ := Lib.hid (bdrew (bnew W (.cells #[.int .i64 0, .int .i64 0, .int .i64 0, .int .i64 0, .int .u8 0, .int .u8 0, .int .u8 0, .int .u8 0, .int .u8 0, .int .u8 0, .int .u8 0, .int .u8 0, .int .i64 0, .int .i64 0, .int .i64 0] 28)))
              generalize (W.alloc (.cells #[.int .i64 0, .int .i64 0, .int .i64 0, .int .i64 0, .int .u8 0, .int .u8 0, .int .u8 0, .int .u8 0, .int .u8 0, .int .u8 0, .int .u8 0, .int .u8 0, .int .i64 0, .int .i64 0, .int .i64 0] 28)).drew = V at *
              have la0 := (MA.out).reads (i := 0) rfl
              have laf0 := (MA.out).open_ 0
              have la1 := (MA.out).reads (i := 1) rfl
              have laf1 := (MA.out).open_ 1
              have la2 := (MA.out).reads (i := 2) rfl
              have laf2 := (MA.out).open_ 2
              have la3 := (MA.out).reads (i := 3) rfl
              have laf3 := (MA.out).open_ 3
              have la4 := (MA.out).reads (i := 4) rfl
              have laf4 := (MA.out).open_ 4
              have la5 := (MA.out).reads (i := 5) rfl
              have laf5 := (MA.out).open_ 5
              have la6 := (MA.out).reads (i := 6) rfl
              have laf6 := (MA.out).open_ 6
              have la7 := (MA.out).reads (i := 7) rfl
              have laf7 := (MA.out).open_ 7
              have la8 := (MA.out).reads (i := 8) rfl
              have laf8 := (MA.out).open_ 8
              have la9 := (MA.out).reads (i := 9) rfl
              have laf9 := (MA.out).open_ 9
              have la10 := (MA.out).reads (i := 10) rfl
              have laf10 := (MA.out).open_ 10
              have la11 := (MA.out).reads (i := 11) rfl
              have laf11 := (MA.out).open_ 11
              have la12 := (MA.out).reads (i := 12) rfl
              have laf12 := (MA.out).open_ 12
              have la13 := (MA.out).reads (i := 13) rfl
              have laf13 := (MA.out).open_ 13
              have la14 := (MA.out).reads (i := 14) rfl
              have laf14 := (MA.out).open_ 14
              refine wpAnyH_ready (rs := [22]) (by kernel_rfl) (by simp) ?_
              refine AllReadyH.cons (at_list rfl) (fun K hK => ?_) AllReadyH.nil
              go_simp
              refine hK.out _ _ ?_ (fun hHeld => ?_)
              · exact BytesAt.keptB HC.out (bfill15 QQ.out (Nat.le_refl _) _ _ _ _ _ _ _ _ _ _ _ _ _ _ _)
              clear hK K
              try simp only [Act.put, List.setIfInBounds_toArray, List.set_cons_zero, List.set_cons_succ]
              refine wpAnyH_done (by kernel_rfl) ?_ _
              refine NoPanic.normal ?_
              go_wp2_with fail
              go_meet
              refine ⟨_, Nat.le_refl _, rfl, ?_, bfill15 QQ.out (Nat.le_refl _) _ _ _ _ _ _ _ _ _ _ _ _ _ _ _⟩
              rw [hd2]
              exact (MA.out).fill15 _ _ _ _ _ _ _ _ _ _ _ _ _ _ _
            exact AllReadyH.nil
          exact AllReadyH.nil
        refine AllReadyH.cons (at_list rfl) (fun K hK => ?_) ?_
        · go_simp
          refine hK.out _ _ ?_ (fun hHeld => ?_)
          · exact BytesAt.keptB HC.out (bdrew (bnew W (.cells #[.int .i64 0, .int .i64 0, .int .i64 0, .int .i64 0, .int .u8 0, .int .u8 0, .int .u8 0, .int .u8 0, .int .u8 0, .int .u8 0, .int .u8 0, .int .u8 0, .int .i64 0, .int .i64 0, .int .i64 0] 28)))
          clear hK K
          try simp only [Act.put, List.setIfInBounds_toArray, List.set_cons_zero, List.set_cons_succ]
          refine wpAnyH_ready (rs := [11]) (by kernel_rfl) (by simp) ?_
          refine AllReadyH.cons (at_list rfl) (fun K hK => ?_) ?_
          · go_simp
            refine (R2.out _ _ (by assumption)).mono ?_
            rintro e wy ⟨rfl, rfl⟩
            go_wp2_with fail
            refine hK.out _ _ ?_ (fun hHeld => ?_)
            · assumption
            clear hK K
            try simp only [Act.put, List.setIfInBounds_toArray, List.set_cons_zero, List.set_cons_succ]
            refine wpAnyH_ready (rs := [14]) (by kernel_rfl) (by simp) ?_
            refine AllReadyH.cons (at_list rfl) (fun K hK => ?_) ?_
            · go_simp
              refine (R3.out _ _ (by assumption)).mono ?_
              rintro e wy ⟨rfl, rfl⟩
              go_wp2_with fail
              refine hK.out _ _ ?_ (fun hHeld => ?_)
              · assumption
              clear hK K
              try simp only [Act.put, List.setIfInBounds_toArray, List.set_cons_zero, List.set_cons_succ]
              refine wpAnyH_take (i := 20) (v := .agg #[.int .i64 G.t, .int .i64 z4, .int .i64 G.f, .int .i64 G.c, .int .u8 0, .int .u8 0, .int .u8 0, .int .u8 0, .int .u8 0, .int .u8 0, .int .u8 0, .int .u8 0, .int .i64 0, .int .i64 G.s, .int .i64 G.l]) (at_list rfl) (by kernel_rfl) (by kernel_rfl) (by kernel_rfl) (fun _ _ _ h => h) (Or.inl ⟨by rfl, ?_⟩) (by assumption) ?_
              · intro v hSv
                have c4 := V4.out v hSv
                have c33 := V33.out v hSv
                clear hSv hHeld
                go_simp
              try simp only [Act.put, List.setIfInBounds_toArray, List.set_cons_zero, List.set_cons_succ]
              have MA := Lib.hid ((Holds.fresh W 28 #[.int .i64 0, .int .i64 0, .int .i64 0, .int .i64 0, .int .u8 0, .int .u8 0, .int .u8 0, .int .u8 0, .int .u8 0, .int .u8 0, .int .u8 0, .int .u8 0, .int .i64 0, .int .i64 0, .int .i64 0] rfl).drew)
              have QQ := Lib.hid (bdrew (bnew W (.cells #[.int .i64 0, .int .i64 0, .int .i64 0, .int .i64 0, .int .u8 0, .int .u8 0, .int .u8 0, .int .u8 0, .int .u8 0, .int .u8 0, .int .u8 0, .int .u8 0, .int .i64 0, .int .i64 0, .int .i64 0] 28)))
              generalize (W.alloc (.cells #[.int .i64 0, .int .i64 0, .int .i64 0, .int .i64 0, .int .u8 0, .int .u8 0, .int .u8 0, .int .u8 0, .int .u8 0, .int .u8 0, .int .u8 0, .int .u8 0, .int .i64 0, .int .i64 0, .int .i64 0] 28)).drew = V at *
              have la0 := (MA.out).reads (i := 0) rfl
              have laf0 := (MA.out).open_ 0
              have la1 := (MA.out).reads (i := 1) rfl
              have laf1 := (MA.out).open_ 1
              have la2 := (MA.out).reads (i := 2) rfl
              have laf2 := (MA.out).open_ 2
              have la3 := (MA.out).reads (i := 3) rfl
              have laf3 := (MA.out).open_ 3
              have la4 := (MA.out).reads (i := 4) rfl
              have laf4 := (MA.out).open_ 4
              have la5 := (MA.out).reads (i := 5) rfl
              have laf5 := (MA.out).open_ 5
              have la6 := (MA.out).reads (i := 6) rfl
              have laf6 := (MA.out).open_ 6
              have la7 := (MA.out).reads (i := 7) rfl
              have laf7 := (MA.out).open_ 7
              have la8 := (MA.out).reads (i := 8) rfl
              have laf8 := (MA.out).open_ 8
              have la9 := (MA.out).reads (i := 9) rfl
              have laf9 := (MA.out).open_ 9
              have la10 := (MA.out).reads (i := 10) rfl
              have laf10 := (MA.out).open_ 10
              have la11 := (MA.out).reads (i := 11) rfl
              have laf11 := (MA.out).open_ 11
              have la12 := (MA.out).reads (i := 12) rfl
              have laf12 := (MA.out).open_ 12
              have la13 := (MA.out).reads (i := 13) rfl
              have laf13 := (MA.out).open_ 13
              have la14 := (MA.out).reads (i := 14) rfl
              have laf14 := (MA.out).open_ 14
              refine wpAnyH_ready (rs := [22]) (by kernel_rfl) (by simp) ?_
              refine AllReadyH.cons (at_list rfl) (fun K hK => ?_) AllReadyH.nil
              go_simp
              refine hK.out _ _ ?_ (fun hHeld => ?_)
              · exact BytesAt.keptB HC.out (bfill15 QQ.out (Nat.le_refl _) _ _ _ _ _ _ _ _ _ _ _ _ _ _ _)
              clear hK K
              try simp only [Act.put, List.setIfInBounds_toArray, List.set_cons_zero, List.set_cons_succ]
              refine wpAnyH_done (by kernel_rfl) ?_ _
              refine NoPanic.normal ?_
              go_wp2_with fail
              go_meet
              refine ⟨_, Nat.le_refl _, rfl, ?_, bfill15 QQ.out (Nat.le_refl _) _ _ _ _ _ _ _ _ _ _ _ _ _ _ _⟩
              rw [hd2]
              exact (MA.out).fill15 _ _ _ _ _ _ _ _ _ _ _ _ _ _ _
            exact AllReadyH.nil
          exact AllReadyH.nil
        exact AllReadyH.nil
      refine AllReadyH.cons (at_list rfl) (fun K hK => ?_) ?_
      · go_simp
        refine hK.out _ _ ?_ (fun hHeld => ?_)
        · exact BytesAt.keptB HC.out (bdrew (bnew W (.cells #[.int .i64 0, .int .i64 0, .int .i64 0, .int .i64 0, .int .u8 0, .int .u8 0, .int .u8 0, .int .u8 0, .int .u8 0, .int .u8 0, .int .u8 0, .int .u8 0, .int .i64 0, .int .i64 0, .int .i64 0] 28)))
        clear hK K
        try simp only [Act.put, List.setIfInBounds_toArray, List.set_cons_zero, List.set_cons_succ]
        refine wpAnyH_ready (rs := [8]) (by kernel_rfl) (by simp) ?_
        refine AllReadyH.cons (at_list rfl) (fun K hK => ?_) ?_
        · go_simp
          refine (R1.out _ _ (by assumption)).mono ?_
          rintro e wy ⟨rfl, rfl⟩
          go_wp2_with fail
          refine hK.out _ _ ?_ (fun hHeld => ?_)
          · assumption
          clear hK K
          try simp only [Act.put, List.setIfInBounds_toArray, List.set_cons_zero, List.set_cons_succ]
          refine wpAnyH_ready (rs := [11]) (by kernel_rfl) (by simp) ?_
          refine AllReadyH.cons (at_list rfl) (fun K hK => ?_) ?_
          · go_simp
            refine (R2.out _ _ (by assumption)).mono ?_
            rintro e wy ⟨rfl, rfl⟩
            go_wp2_with fail
            refine hK.out _ _ ?_ (fun hHeld => ?_)
            · assumption
            clear hK K
            try simp only [Act.put, List.setIfInBounds_toArray, List.set_cons_zero, List.set_cons_succ]
            refine wpAnyH_ready (rs := [14]) (by kernel_rfl) (by simp) ?_
            refine AllReadyH.cons (at_list rfl) (fun K hK => ?_) ?_
            · go_simp
              refine (R3.out _ _ (by assumption)).mono ?_
              rintro e wy ⟨rfl, rfl⟩
              go_wp2_with fail
              refine hK.out _ _ ?_ (fun hHeld => ?_)
              · assumption
              clear hK K
              try simp only [Act.put, List.setIfInBounds_toArray, List.set_cons_zero, List.set_cons_succ]
              refine wpAnyH_take (i := 20) (v := .agg #[.int .i64 G.t, .int .i64 z4, .int .i64 G.f, .int .i64 G.c, .int .u8 0, .int .u8 0, .int .u8 0, .int .u8 0, .int .u8 0, .int .u8 0, .int .u8 0, .int .u8 0, .int .i64 0, .int .i64 G.s, .int .i64 G.l]) (at_list rfl) (by kernel_rfl) (by kernel_rfl) (by kernel_rfl) (fun _ _ _ h => h) (Or.inl ⟨by rfl, ?_⟩) (by assumption) ?_
              · intro v hSv
                have c4 := V4.out v hSv
                have c33 := V33.out v hSv
                clear hSv hHeld
                go_simp
              try simp only [Act.put, List.setIfInBounds_toArray, List.set_cons_zero, List.set_cons_succ]
              have MA := Lib.hid ((Holds.fresh W 28 #[.int .i64 0, .int .i64 0, .int .i64 0, .int .i64 0, .int .u8 0, .int .u8 0, .int .u8 0, .int .u8 0, .int .u8 0, .int .u8 0, .int .u8 0, .int .u8 0, .int .i64 0, .int .i64 0, .int .i64 0] rfl).drew)
              have QQ := Lib.hid (bdrew (bnew W (.cells #[.int .i64 0, .int .i64 0, .int .i64 0, .int .i64 0, .int .u8 0, .int .u8 0, .int .u8 0, .int .u8 0, .int .u8 0, .int .u8 0, .int .u8 0, .int .u8 0, .int .i64 0, .int .i64 0, .int .i64 0] 28)))
              generalize (W.alloc (.cells #[.int .i64 0, .int .i64 0, .int .i64 0, .int .i64 0, .int .u8 0, .int .u8 0, .int .u8 0, .int .u8 0, .int .u8 0, .int .u8 0, .int .u8 0, .int .u8 0, .int .i64 0, .int .i64 0, .int .i64 0] 28)).drew = V at *
              have la0 := (MA.out).reads (i := 0) rfl
              have laf0 := (MA.out).open_ 0
              have la1 := (MA.out).reads (i := 1) rfl
              have laf1 := (MA.out).open_ 1
              have la2 := (MA.out).reads (i := 2) rfl
              have laf2 := (MA.out).open_ 2
              have la3 := (MA.out).reads (i := 3) rfl
              have laf3 := (MA.out).open_ 3
              have la4 := (MA.out).reads (i := 4) rfl
              have laf4 := (MA.out).open_ 4
              have la5 := (MA.out).reads (i := 5) rfl
              have laf5 := (MA.out).open_ 5
              have la6 := (MA.out).reads (i := 6) rfl
              have laf6 := (MA.out).open_ 6
              have la7 := (MA.out).reads (i := 7) rfl
              have laf7 := (MA.out).open_ 7
              have la8 := (MA.out).reads (i := 8) rfl
              have laf8 := (MA.out).open_ 8
              have la9 := (MA.out).reads (i := 9) rfl
              have laf9 := (MA.out).open_ 9
              have la10 := (MA.out).reads (i := 10) rfl
              have laf10 := (MA.out).open_ 10
              have la11 := (MA.out).reads (i := 11) rfl
              have laf11 := (MA.out).open_ 11
              have la12 := (MA.out).reads (i := 12) rfl
              have laf12 := (MA.out).open_ 12
              have la13 := (MA.out).reads (i := 13) rfl
              have laf13 := (MA.out).open_ 13
              have la14 := (MA.out).reads (i := 14) rfl
              have laf14 := (MA.out).open_ 14
              refine wpAnyH_ready (rs := [22]) (by kernel_rfl) (by simp) ?_
              refine AllReadyH.cons (at_list rfl) (fun K hK => ?_) AllReadyH.nil
              go_simp
              refine hK.out _ _ ?_ (fun hHeld => ?_)
              · exact BytesAt.keptB HC.out (bfill15 QQ.out (Nat.le_refl _) _ _ _ _ _ _ _ _ _ _ _ _ _ _ _)
              clear hK K
              try simp only [Act.put, List.setIfInBounds_toArray, List.set_cons_zero, List.set_cons_succ]
              refine wpAnyH_done (by kernel_rfl) ?_ _
              refine NoPanic.normal ?_
              go_wp2_with fail
              go_meet
              refine ⟨_, Nat.le_refl _, rfl, ?_, bfill15 QQ.out (Nat.le_refl _) _ _ _ _ _ _ _ _ _ _ _ _ _ _ _⟩
              rw [hd2]
              exact (MA.out).fill15 _ _ _ _ _ _ _ _ _ _ _ _ _ _ _
            exact AllReadyH.nil
          exact AllReadyH.nil
        exact AllReadyH.nil
      exact AllReadyH.nil
    refine AllReadyH.cons (at_list rfl) (fun K hK => ?_) ?_
    · go_simp
      refine hK.out _ _ ?_ (fun hHeld => ?_)
      · exact BytesAt.keptB HC.out (bdrew (bnew W (.cells #[.int .i64 0, .int .i64 0, .int .i64 0, .int .i64 0, .int .u8 0, .int .u8 0, .int .u8 0, .int .u8 0, .int .u8 0, .int .u8 0, .int .u8 0, .int .u8 0, .int .i64 0, .int .i64 0, .int .i64 0] 28)))
      clear hK K
      try simp only [Act.put, List.setIfInBounds_toArray, List.set_cons_zero, List.set_cons_succ]
      refine wpAnyH_ready (rs := [1]) (by kernel_rfl) (by simp) ?_
      refine AllReadyH.cons (at_list rfl) (fun K hK => ?_) ?_
      · go_simp
        refine (CT.out _ (by assumption)).mono ?_
        rintro e wy ⟨rfl, rfl⟩
        go_wp2_with fail
        refine hK.out _ _ ?_ (fun hHeld => ?_)
        · assumption
        clear hK K
        try simp only [Act.put, List.setIfInBounds_toArray, List.set_cons_zero, List.set_cons_succ]
        refine wpAnyH_ready (rs := [8]) (by kernel_rfl) (by simp) ?_
        refine AllReadyH.cons (at_list rfl) (fun K hK => ?_) ?_
        · go_simp
          refine (R1.out _ _ (by assumption)).mono ?_
          rintro e wy ⟨rfl, rfl⟩
          go_wp2_with fail
          refine hK.out _ _ ?_ (fun hHeld => ?_)
          · assumption
          clear hK K
          try simp only [Act.put, List.setIfInBounds_toArray, List.set_cons_zero, List.set_cons_succ]
          refine wpAnyH_ready (rs := [11]) (by kernel_rfl) (by simp) ?_
          refine AllReadyH.cons (at_list rfl) (fun K hK => ?_) ?_
          · go_simp
            refine (R2.out _ _ (by assumption)).mono ?_
            rintro e wy ⟨rfl, rfl⟩
            go_wp2_with fail
            refine hK.out _ _ ?_ (fun hHeld => ?_)
            · assumption
            clear hK K
            try simp only [Act.put, List.setIfInBounds_toArray, List.set_cons_zero, List.set_cons_succ]
            refine wpAnyH_ready (rs := [14]) (by kernel_rfl) (by simp) ?_
            refine AllReadyH.cons (at_list rfl) (fun K hK => ?_) ?_
            · go_simp
              refine (R3.out _ _ (by assumption)).mono ?_
              rintro e wy ⟨rfl, rfl⟩
              go_wp2_with fail
              refine hK.out _ _ ?_ (fun hHeld => ?_)
              · assumption
              clear hK K
              try simp only [Act.put, List.setIfInBounds_toArray, List.set_cons_zero, List.set_cons_succ]
              refine wpAnyH_take (i := 20) (v := .agg #[.int .i64 G.t, .int .i64 z4, .int .i64 G.f, .int .i64 G.c, .int .u8 0, .int .u8 0, .int .u8 0, .int .u8 0, .int .u8 0, .int .u8 0, .int .u8 0, .int .u8 0, .int .i64 0, .int .i64 G.s, .int .i64 G.l]) (at_list rfl) (by kernel_rfl) (by kernel_rfl) (by kernel_rfl) (fun _ _ _ h => h) (Or.inl ⟨by rfl, ?_⟩) (by assumption) ?_
              · intro v hSv
                have c4 := V4.out v hSv
                have c33 := V33.out v hSv
                clear hSv hHeld
                go_simp
              try simp only [Act.put, List.setIfInBounds_toArray, List.set_cons_zero, List.set_cons_succ]
              have MA := Lib.hid ((Holds.fresh W 28 #[.int .i64 0, .int .i64 0, .int .i64 0, .int .i64 0, .int .u8 0, .int .u8 0, .int .u8 0, .int .u8 0, .int .u8 0, .int .u8 0, .int .u8 0, .int .u8 0, .int .i64 0, .int .i64 0, .int .i64 0] rfl).drew)
              have QQ := Lib.hid (bdrew (bnew W (.cells #[.int .i64 0, .int .i64 0, .int .i64 0, .int .i64 0, .int .u8 0, .int .u8 0, .int .u8 0, .int .u8 0, .int .u8 0, .int .u8 0, .int .u8 0, .int .u8 0, .int .i64 0, .int .i64 0, .int .i64 0] 28)))
              generalize (W.alloc (.cells #[.int .i64 0, .int .i64 0, .int .i64 0, .int .i64 0, .int .u8 0, .int .u8 0, .int .u8 0, .int .u8 0, .int .u8 0, .int .u8 0, .int .u8 0, .int .u8 0, .int .i64 0, .int .i64 0, .int .i64 0] 28)).drew = V at *
              have la0 := (MA.out).reads (i := 0) rfl
              have laf0 := (MA.out).open_ 0
              have la1 := (MA.out).reads (i := 1) rfl
              have laf1 := (MA.out).open_ 1
              have la2 := (MA.out).reads (i := 2) rfl
              have laf2 := (MA.out).open_ 2
              have la3 := (MA.out).reads (i := 3) rfl
              have laf3 := (MA.out).open_ 3
              have la4 := (MA.out).reads (i := 4) rfl
              have laf4 := (MA.out).open_ 4
              have la5 := (MA.out).reads (i := 5) rfl
              have laf5 := (MA.out).open_ 5
              have la6 := (MA.out).reads (i := 6) rfl
              have laf6 := (MA.out).open_ 6
              have la7 := (MA.out).reads (i := 7) rfl
              have laf7 := (MA.out).open_ 7
              have la8 := (MA.out).reads (i := 8) rfl
              have laf8 := (MA.out).open_ 8
              have la9 := (MA.out).reads (i := 9) rfl
              have laf9 := (MA.out).open_ 9
              have la10 := (MA.out).reads (i := 10) rfl
              have laf10 := (MA.out).open_ 10
              have la11 := (MA.out).reads (i := 11) rfl
              have laf11 := (MA.out).open_ 11
              have la12 := (MA.out).reads (i := 12) rfl
              have laf12 := (MA.out).open_ 12
              have la13 := (MA.out).reads (i := 13) rfl
              have laf13 := (MA.out).open_ 13
              have la14 := (MA.out).reads (i := 14) rfl
              have laf14 := (MA.out).open_ 14
              refine wpAnyH_ready (rs := [22]) (by kernel_rfl) (by simp) ?_
              refine AllReadyH.cons (at_list rfl) (fun K hK => ?_) AllReadyH.nil
              go_simp
              refine hK.out _ _ ?_ (fun hHeld => ?_)
              · exact BytesAt.keptB HC.out (bfill15 QQ.out (Nat.le_refl _) _ _ _ _ _ _ _ _ _ _ _ _ _ _ _)
              clear hK K
              try simp only [Act.put, List.setIfInBounds_toArray, List.set_cons_zero, List.set_cons_succ]
              refine wpAnyH_done (by kernel_rfl) ?_ _
              refine NoPanic.normal ?_
              go_wp2_with fail
              go_meet
              refine ⟨_, Nat.le_refl _, rfl, ?_, bfill15 QQ.out (Nat.le_refl _) _ _ _ _ _ _ _ _ _ _ _ _ _ _ _⟩
              rw [hd2]
              exact (MA.out).fill15 _ _ _ _ _ _ _ _ _ _ _ _ _ _ _
            exact AllReadyH.nil
          exact AllReadyH.nil
        exact AllReadyH.nil
      exact AllReadyH.nil
    exact AllReadyH.nil
  case rest =>
    obtain ⟨g5, hg, rfl, K5, hb5⟩ := hcut
    have hsz := (K2.out).inside
    have h52 : w.heap.size ≠ g5 := by omega
    have hg5 : w.heap.size ≤ g5 := by omega
    clear hsz hg
    replace K2 := Lib.hid ((K2.out).keptB hb5.out)
    replace HC := Lib.hid ((HC.out).keptB hb5.out)
    replace HB := Lib.hid (bstep HB.out hb5.out)
    clear hb5 HW8 HG2
    have x0 := (K5.out).reads (i := 0) rfl
    have x2 := (K5.out).reads (i := 2) rfl
    go_wp2_with fail
    refine (rightFlags_any G.t G.f _ gf0 gf1).mono ?_
    rintro e wf ⟨rfl, rfl⟩
    clear x0 x2
    rw [HFB.out]
    cases FB
    · have k0 := (K2.out).reads (i := 0) rfl
      have kf0 := (K2.out).open_ 0
      have k1 := (K2.out).reads (i := 1) rfl
      have kf1 := (K2.out).open_ 1
      have k2 := (K2.out).reads (i := 2) rfl
      have kf2 := (K2.out).open_ 2
      have k3 := (K2.out).reads (i := 3) rfl
      have kf3 := (K2.out).open_ 3
      have k4 := (K2.out).reads (i := 4) rfl
      have kf4 := (K2.out).open_ 4
      have k5 := (K2.out).reads (i := 5) rfl
      have kf5 := (K2.out).open_ 5
      have k6 := (K2.out).reads (i := 6) rfl
      have kf6 := (K2.out).open_ 6
      have k7 := (K2.out).reads (i := 7) rfl
      have kf7 := (K2.out).open_ 7
      have k8 := (K2.out).reads (i := 8) rfl
      have kf8 := (K2.out).open_ 8
      have k9 := (K2.out).reads (i := 9) rfl
      have kf9 := (K2.out).open_ 9
      have k10 := (K2.out).reads (i := 10) rfl
      have kf10 := (K2.out).open_ 10
      have k11 := (K2.out).reads (i := 11) rfl
      have kf11 := (K2.out).open_ 11
      have k12 := (K2.out).reads (i := 12) rfl
      have kf12 := (K2.out).open_ 12
      have k13 := (K2.out).reads (i := 13) rfl
      have kf13 := (K2.out).open_ 13
      have k14 := (K2.out).reads (i := 14) rfl
      have kf14 := (K2.out).open_ 14
      go_wp2
      refine bodyPost_ret (v := .tuple #[.agg #[.int .i64 0, .int .i64 0, .int .i64 0, .int .i64 0, .int .u8 0, .int .u8 0, .int .u8 0, .int .u8 0, .int .u8 0, .int .u8 0, .int .u8 0, .int .u8 0, .int .i64 0, .int .i64 0, .int .i64 0], .int .i64 55]) (by simp [results, Tryd.results6, go_sem, k0, k1, k2, k3, k4, k5, k6, k7, k8, k9, k10, k11, k12, k13, k14]) rfl ⟨by rw [HX.out]; rfl, ?_⟩
      repeat' (first
        | (with_reducible exact Below.refl _ _)
        | (with_reducible exact HB.out)
        | (with_reducible refine Below.setCell ?_ (by first | exact Nat.le_refl _ | (simp; done) | (simp; omega)) _)
        | (with_reducible refine bstep ?_ (bnew _ _))
        | (with_reducible refine bdrew ?_))
    · go_wp2_with fail
      refine (CG.out _ _ HC.out).mono ?_
      rintro e w6 ⟨rfl, hb6⟩
      replace K2 := Lib.hid ((K2.out).keptB hb6)
      replace K5 := Lib.hid ((K5.out).keptB hb6)
      replace HB := Lib.hid (bstep HB.out hb6)
      clear hb6 CG HC V4 V33 CT R1 R2 R3
      replace K2 := Lib.hid ((K2.out).laid (.cells #[.int .u8 G.p.c.b0, .int .u8 G.p.c.b1, .int .u8 G.p.c.b2, .int .u8 G.p.c.b3, .int .u8 G.p.c.b4, .int .u8 G.p.c.b5, .int .u8 G.p.c.b6, .int .u8 G.p.c.b7, .int .i64 G.p.n] 26))
      replace K5 := Lib.hid ((K5.out).laid (.cells #[.int .u8 G.p.c.b0, .int .u8 G.p.c.b1, .int .u8 G.p.c.b2, .int .u8 G.p.c.b3, .int .u8 G.p.c.b4, .int .u8 G.p.c.b5, .int .u8 G.p.c.b6, .int .u8 G.p.c.b7, .int .i64 G.p.n] 26))
      have K6 := Lib.hid (Holds.fresh w6 26 #[.int .u8 G.p.c.b0, .int .u8 G.p.c.b1, .int .u8 G.p.c.b2, .int .u8 G.p.c.b3, .int .u8 G.p.c.b4, .int .u8 G.p.c.b5, .int .u8 G.p.c.b6, .int .u8 G.p.c.b7, .int .i64 G.p.n] rfl)
      replace HB := Lib.hid (bstep HB.out (bnew _ (.cells #[.int .u8 G.p.c.b0, .int .u8 G.p.c.b1, .int .u8 G.p.c.b2, .int .u8 G.p.c.b3, .int .u8 G.p.c.b4, .int .u8 G.p.c.b5, .int .u8 G.p.c.b6, .int .u8 G.p.c.b7, .int .i64 G.p.n] 26)))
      go_wp2_with fail
      refine (rightNumber_any G.p.n _).mono ?_
      rintro e w7 ⟨rfl, rfl⟩
      rw [HNB.out]
      generalize w6.alloc (.cells #[.int .u8 G.p.c.b0, .int .u8 G.p.c.b1, .int .u8 G.p.c.b2, .int .u8 G.p.c.b3, .int .u8 G.p.c.b4, .int .u8 G.p.c.b5, .int .u8 G.p.c.b6, .int .u8 G.p.c.b7, .int .i64 G.p.n] 26) = V6 at *
      cases NB
      · have k0 := (K2.out).reads (i := 0) rfl
        have kf0 := (K2.out).open_ 0
        have k1 := (K2.out).reads (i := 1) rfl
        have kf1 := (K2.out).open_ 1
        have k2 := (K2.out).reads (i := 2) rfl
        have kf2 := (K2.out).open_ 2
        have k3 := (K2.out).reads (i := 3) rfl
        have kf3 := (K2.out).open_ 3
        have k4 := (K2.out).reads (i := 4) rfl
        have kf4 := (K2.out).open_ 4
        have k5 := (K2.out).reads (i := 5) rfl
        have kf5 := (K2.out).open_ 5
        have k6 := (K2.out).reads (i := 6) rfl
        have kf6 := (K2.out).open_ 6
        have k7 := (K2.out).reads (i := 7) rfl
        have kf7 := (K2.out).open_ 7
        have k8 := (K2.out).reads (i := 8) rfl
        have kf8 := (K2.out).open_ 8
        have k9 := (K2.out).reads (i := 9) rfl
        have kf9 := (K2.out).open_ 9
        have k10 := (K2.out).reads (i := 10) rfl
        have kf10 := (K2.out).open_ 10
        have k11 := (K2.out).reads (i := 11) rfl
        have kf11 := (K2.out).open_ 11
        have k12 := (K2.out).reads (i := 12) rfl
        have kf12 := (K2.out).open_ 12
        have k13 := (K2.out).reads (i := 13) rfl
        have kf13 := (K2.out).open_ 13
        have k14 := (K2.out).reads (i := 14) rfl
        have kf14 := (K2.out).open_ 14
        go_wp2
        refine bodyPost_ret (v := .tuple #[.agg #[.int .i64 0, .int .i64 0, .int .i64 0, .int .i64 0, .int .u8 0, .int .u8 0, .int .u8 0, .int .u8 0, .int .u8 0, .int .u8 0, .int .u8 0, .int .u8 0, .int .i64 0, .int .i64 0, .int .i64 0], .int .i64 56]) (by simp [results, Tryd.results6, go_sem, k0, k1, k2, k3, k4, k5, k6, k7, k8, k9, k10, k11, k12, k13, k14]) rfl ⟨by rw [HX.out]; rfl, ?_⟩
        repeat' (first
          | (with_reducible exact Below.refl _ _)
          | (with_reducible exact HB.out)
          | (with_reducible refine Below.setCell ?_ (by first | exact Nat.le_refl _ | (simp; done) | (simp; omega)) _)
          | (with_reducible refine bstep ?_ (bnew _ _))
          | (with_reducible refine bdrew ?_))
      · have s0 := (K5.out).reads (i := 4) rfl
        have sf0 := (K5.out).open_ 4
        have sx0 := (K6.out).reads (i := 0) rfl
        have s1 := (K5.out).reads (i := 5) rfl
        have sf1 := (K5.out).open_ 5
        have sx1 := (K6.out).reads (i := 1) rfl
        have s2 := (K5.out).reads (i := 6) rfl
        have sf2 := (K5.out).open_ 6
        have sx2 := (K6.out).reads (i := 2) rfl
        have s3 := (K5.out).reads (i := 7) rfl
        have sf3 := (K5.out).open_ 7
        have sx3 := (K6.out).reads (i := 3) rfl
        have s4 := (K5.out).reads (i := 8) rfl
        have sf4 := (K5.out).open_ 8
        have sx4 := (K6.out).reads (i := 4) rfl
        have s5 := (K5.out).reads (i := 9) rfl
        have sf5 := (K5.out).open_ 9
        have sx5 := (K6.out).reads (i := 5) rfl
        have s6 := (K5.out).reads (i := 10) rfl
        have sf6 := (K5.out).open_ 10
        have sx6 := (K6.out).reads (i := 6) rfl
        have s7 := (K5.out).reads (i := 11) rfl
        have sf7 := (K5.out).open_ 11
        have sx7 := (K6.out).reads (i := 7) rfl
        have s8 := (K5.out).reads (i := 12) rfl
        have sf8 := (K5.out).open_ 12
        have sx8 := (K6.out).reads (i := 8) rfl
        go_upto_region 11 with fail
        replace K2 := Lib.hid ((((((((((K2.out).aside (p := ⟨g5, 4, none⟩) (Ne.symm h52) (.int .u8 G.p.c.b0)).aside (p := ⟨g5, 5, none⟩) (Ne.symm h52) (.int .u8 G.p.c.b1)).aside (p := ⟨g5, 6, none⟩) (Ne.symm h52) (.int .u8 G.p.c.b2)).aside (p := ⟨g5, 7, none⟩) (Ne.symm h52) (.int .u8 G.p.c.b3)).aside (p := ⟨g5, 8, none⟩) (Ne.symm h52) (.int .u8 G.p.c.b4)).aside (p := ⟨g5, 9, none⟩) (Ne.symm h52) (.int .u8 G.p.c.b5)).aside (p := ⟨g5, 10, none⟩) (Ne.symm h52) (.int .u8 G.p.c.b6)).aside (p := ⟨g5, 11, none⟩) (Ne.symm h52) (.int .u8 G.p.c.b7)).aside (p := ⟨g5, 12, none⟩) (Ne.symm h52) (.int .i64 G.p.n))
        replace HB := Lib.hid ((((((((((HB.out).setCell (p := ⟨g5, 4, none⟩) hg5 (.int .u8 G.p.c.b0)).setCell (p := ⟨g5, 5, none⟩) hg5 (.int .u8 G.p.c.b1)).setCell (p := ⟨g5, 6, none⟩) hg5 (.int .u8 G.p.c.b2)).setCell (p := ⟨g5, 7, none⟩) hg5 (.int .u8 G.p.c.b3)).setCell (p := ⟨g5, 8, none⟩) hg5 (.int .u8 G.p.c.b4)).setCell (p := ⟨g5, 9, none⟩) hg5 (.int .u8 G.p.c.b5)).setCell (p := ⟨g5, 10, none⟩) hg5 (.int .u8 G.p.c.b6)).setCell (p := ⟨g5, 11, none⟩) hg5 (.int .u8 G.p.c.b7)).setCell (p := ⟨g5, 12, none⟩) hg5 (.int .i64 G.p.n))
        have K5b : Hid (Holds (((((((((V6.setCell ⟨g5, 4, none⟩ (.int .u8 G.p.c.b0)).setCell ⟨g5, 5, none⟩ (.int .u8 G.p.c.b1)).setCell ⟨g5, 6, none⟩ (.int .u8 G.p.c.b2)).setCell ⟨g5, 7, none⟩ (.int .u8 G.p.c.b3)).setCell ⟨g5, 8, none⟩ (.int .u8 G.p.c.b4)).setCell ⟨g5, 9, none⟩ (.int .u8 G.p.c.b5)).setCell ⟨g5, 10, none⟩ (.int .u8 G.p.c.b6)).setCell ⟨g5, 11, none⟩ (.int .u8 G.p.c.b7)).setCell ⟨g5, 12, none⟩ (.int .i64 G.p.n)) g5 28 #[.int .i64 G.t, .int .i64 G.d, .int .i64 G.f, .int .i64 G.c, .int .u8 G.p.c.b0, .int .u8 G.p.c.b1, .int .u8 G.p.c.b2, .int .u8 G.p.c.b3, .int .u8 G.p.c.b4, .int .u8 G.p.c.b5, .int .u8 G.p.c.b6, .int .u8 G.p.c.b7, .int .i64 G.p.n, .int .i64 G.s, .int .i64 G.l]) := by
          rw [Hid]
          have h := (((((((((K5.out).put 4 (.int .u8 G.p.c.b0)).put 5 (.int .u8 G.p.c.b1)).put 6 (.int .u8 G.p.c.b2)).put 7 (.int .u8 G.p.c.b3)).put 8 (.int .u8 G.p.c.b4)).put 9 (.int .u8 G.p.c.b5)).put 10 (.int .u8 G.p.c.b6)).put 11 (.int .u8 G.p.c.b7)).put 12 (.int .i64 G.p.n)
          simpa using h
        clear K5 K6 s0 sf0 sx0 s1 sf1 sx1 s2 sf2 sx2 s3 sf3 sx3 s4 sf4 sx4 s5 sf5 sx5 s6 sf6 sx6 s7 sf7 sx7 s8 sf8 sx8
        generalize (((((((((V6.setCell ⟨g5, 4, none⟩ (.int .u8 G.p.c.b0)).setCell ⟨g5, 5, none⟩ (.int .u8 G.p.c.b1)).setCell ⟨g5, 6, none⟩ (.int .u8 G.p.c.b2)).setCell ⟨g5, 7, none⟩ (.int .u8 G.p.c.b3)).setCell ⟨g5, 8, none⟩ (.int .u8 G.p.c.b4)).setCell ⟨g5, 9, none⟩ (.int .u8 G.p.c.b5)).setCell ⟨g5, 10, none⟩ (.int .u8 G.p.c.b6)).setCell ⟨g5, 11, none⟩ (.int .u8 G.p.c.b7)).setCell ⟨g5, 12, none⟩ (.int .i64 G.p.n)) = V7 at *
        have k0 := (K2.out).reads (i := 0) rfl
        have kf0 := (K2.out).open_ 0
        have k1 := (K2.out).reads (i := 1) rfl
        have kf1 := (K2.out).open_ 1
        have k2 := (K2.out).reads (i := 2) rfl
        have kf2 := (K2.out).open_ 2
        have k3 := (K2.out).reads (i := 3) rfl
        have kf3 := (K2.out).open_ 3
        have k4 := (K2.out).reads (i := 4) rfl
        have kf4 := (K2.out).open_ 4
        have k5 := (K2.out).reads (i := 5) rfl
        have kf5 := (K2.out).open_ 5
        have k6 := (K2.out).reads (i := 6) rfl
        have kf6 := (K2.out).open_ 6
        have k7 := (K2.out).reads (i := 7) rfl
        have kf7 := (K2.out).open_ 7
        have k8 := (K2.out).reads (i := 8) rfl
        have kf8 := (K2.out).open_ 8
        have k9 := (K2.out).reads (i := 9) rfl
        have kf9 := (K2.out).open_ 9
        have k10 := (K2.out).reads (i := 10) rfl
        have kf10 := (K2.out).open_ 10
        have k11 := (K2.out).reads (i := 11) rfl
        have kf11 := (K2.out).open_ 11
        have k12 := (K2.out).reads (i := 12) rfl
        have kf12 := (K2.out).open_ 12
        have k13 := (K2.out).reads (i := 13) rfl
        have kf13 := (K2.out).open_ 13
        have k14 := (K2.out).reads (i := 14) rfl
        have kf14 := (K2.out).open_ 14
        have x0 := (K5b.out).reads (i := 0) rfl
        have xf0 := (K5b.out).open_ 0
        have x1 := (K5b.out).reads (i := 1) rfl
        have xf1 := (K5b.out).open_ 1
        have x2 := (K5b.out).reads (i := 2) rfl
        have xf2 := (K5b.out).open_ 2
        have x3 := (K5b.out).reads (i := 3) rfl
        have xf3 := (K5b.out).open_ 3
        have x4 := (K5b.out).reads (i := 4) rfl
        have xf4 := (K5b.out).open_ 4
        have x5 := (K5b.out).reads (i := 5) rfl
        have xf5 := (K5b.out).open_ 5
        have x6 := (K5b.out).reads (i := 6) rfl
        have xf6 := (K5b.out).open_ 6
        have x7 := (K5b.out).reads (i := 7) rfl
        have xf7 := (K5b.out).open_ 7
        have x8 := (K5b.out).reads (i := 8) rfl
        have xf8 := (K5b.out).open_ 8
        have x9 := (K5b.out).reads (i := 9) rfl
        have xf9 := (K5b.out).open_ 9
        have x10 := (K5b.out).reads (i := 10) rfl
        have xf10 := (K5b.out).open_ 10
        have x11 := (K5b.out).reads (i := 11) rfl
        have xf11 := (K5b.out).open_ 11
        have x12 := (K5b.out).reads (i := 12) rfl
        have xf12 := (K5b.out).open_ 12
        have x13 := (K5b.out).reads (i := 13) rfl
        have xf13 := (K5b.out).open_ 13
        have x14 := (K5b.out).reads (i := 14) rfl
        have xf14 := (K5b.out).open_ 14
        go_wp2
        refine bodyPost_ret (v := .tuple #[.agg #[.int .i64 G.t, .int .i64 G.d, .int .i64 G.f, .int .i64 G.c, .int .u8 G.p.c.b0, .int .u8 G.p.c.b1, .int .u8 G.p.c.b2, .int .u8 G.p.c.b3, .int .u8 G.p.c.b4, .int .u8 G.p.c.b5, .int .u8 G.p.c.b6, .int .u8 G.p.c.b7, .int .i64 G.p.n, .int .i64 G.s, .int .i64 G.l], .int .i64 0]) (by simp [results, Tryd.results6, go_sem, k0, k1, k2, k3, k4, k5, k6, k7, k8, k9, k10, k11, k12, k13, k14]) rfl ⟨by rw [HX.out]; rfl, ?_⟩
        repeat' (first
          | (with_reducible exact Below.refl _ _)
          | (with_reducible exact HB.out)
          | (with_reducible refine Below.setCell ?_ (by first | exact Nat.le_refl _ | (simp; done) | (simp; omega)) _)
          | (with_reducible refine bstep ?_ (bnew _ _))
          | (with_reducible refine bdrew ?_))

theorem decode_any (a : Addr) (L C : Nat) (zs : List Int) (w : World) (hlen : zs.length = L) (hL : 34 ≤ L) (hC : L ≤ C) (hM : C ≤ maxLen) (hb : ∀ z ∈ zs, isByte z) (hc : BytesAt w a zs) (hl : Lens w) :
    Calls Tryd.prog 6 #[.slice (some a) L C] w fun e w' => e = decR (faultN L zs) (decH L zs) ∧ Below w.heap.size w w' := by
  by_cases hf : formN L zs = 0
  · exact decode_right a L C zs w hlen hL hC hM hb hc hl hf
  · have e : faultN L zs = formN L zs := by unfold faultN; rw [if_pos hf]
    have e2 : decH L zs = zeroH := by unfold decH; rw [if_neg (by rw [e]; exact hf)]
    rw [e, e2]
    exact decode_form a L C zs w hlen hL hC hM hb hc hl hf

end Go.Proofs.YtifhjmhekapaoaaDoor
