/- best.heardBy, and the iterator that it hands back: walked within a fence. -/
import Derived.Test.YtcmcgkcljefckaaBestSmall
import Derived.Test.YtcmcgkcljefckaaFenceCells
import Derived.Test.YtcmcgkcljefckaaBestYes
import Derived.Deep.DeepCutAuto
import Derived.Deep.LoopGhost
import Derived.WalkMore
namespace Go.Proofs.Ytcmcgkcljefckaa
set_option maxRecDepth 100000
open Go.RowKit Go.Shelf
set_option linter.unusedVariables false
set_option linter.unusedSimpArgs false
attribute [local go_sem] Oper.semAt_some

set_option maxHeartbeats 4000000 in
theorem heardby9_any (A : Option Addr) (n c : Nat) (r : Pt) (w : World) :
    Calls Try.prog 23 #[.slice A n c, .agg (ptA r)] w fun e w' => ∃ b2 b3, e = .returned (.func (.func 32) #[] #[.pointer (some ⟨b2, 0, none⟩), .pointer (some ⟨b3, 0, none⟩)]) ∧ Holds w' b2 22 #[.slice A n c] ∧ Holds w' b3 26 (ptA r) ∧ w.heap.size ≤ b2 ∧ w.heap.size ≤ b3 ∧ Below w.heap.size w w' := by
  have HB := Lib.hid (Below.refl w.heap.size w)
  go_enter Try.func23, Try.ntmps23
  go_wp2_with (first | (refine big_box rfl 26 _ rfl (ptA r) rfl (by kernel_rfl) ?_; intro gK3 wK3 hlK3 nK3 hbK3; have K3 := Lib.hid nK3; have LK3 := Lib.hid (Nat.le_trans (HB.out).size hlK3); have OK2K3 := Lib.hid ((K2.out).off hlK3); replace K2 := Lib.hid ((K2.out).keptB hbK3); replace HB := Lib.hid (bstep HB.out hbK3); clear hlK3 nK3 hbK3; try simp only [Act.put, List.setIfInBounds_toArray, List.set_cons_zero, List.set_cons_succ]) | (refine big_box1 rfl 22 _ rfl (.slice A n c) rfl rfl ?_; intro gK2 wK2 hlK2 nK2 hbK2; have K2 := Lib.hid nK2; have LK2 := Lib.hid (Nat.le_trans (HB.out).size hlK2); replace HB := Lib.hid (bstep HB.out hbK2); clear hlK2 nK2 hbK2; try simp only [Act.put, List.setIfInBounds_toArray, List.set_cons_zero, List.set_cons_succ]))
  go_ret
  exact ⟨gK2, gK3, rfl, K2.out, K3.out, LK2.out, LK3.out, HB.out⟩
/-- what the iterator reads: the slice in its box, the port in its box, the sets -/
structure HeardAt (w : World) (b2 b3 : Nat) (A : Option Addr) (n c : Nat) (l : List Rs) (r : Pt) : Prop where
  bs : Holds w b2 22 #[.slice A n c]
  bp : Holds w b3 26 (ptA r)
  ss : SetsIn w (.slice A n c) l
theorem HeardAt.keptB {w v : World} {b2 b3 n c : Nat} {A : Option Addr} {l : List Rs} {r : Pt} (h : HeardAt w b2 b3 A n c l r) (hb : Below w.heap.size w v) : HeardAt v b2 b3 A n c l r := ⟨h.bs.keptB hb, h.bp.keptB hb, h.ss.keptB hb⟩
theorem SetsIn.onlyB {s : List Nat} {B : Nat} {w v : World} {A : Option Addr} {n c : Nat} {l : List Rs} (h : SetsIn w (.slice A n c) l) (k : Only s B w v) (hg : ∀ g o, A = some ⟨g, o, none⟩ → 0 < n → g < B ∧ g ∉ s) : SetsIn v (.slice A n c) l := by
  obtain ⟨A2, n2, c2, h1, h2, h3⟩ := h
  cases h1
  refine ⟨_, _, _, rfl, h2, fun hn => ?_⟩
  obtain ⟨g, o, h4, h5⟩ := h3 hn
  obtain ⟨h6, h7⟩ := hg g o h4 hn
  exact ⟨g, o, h4, h5.block_ (k.block g h6 h7)⟩
/-- where that lies -/
structure HeardOff (s : List Nat) (B b2 b3 : Nat) (A : Option Addr) (n : Nat) : Prop where
  l2 : b2 < B ∧ b2 ∉ s
  l3 : b3 < B ∧ b3 ∉ s
  ls : ∀ g o, A = some ⟨g, o, none⟩ → 0 < n → g < B ∧ g ∉ s
theorem HeardAt.onlyB {s : List Nat} {B : Nat} {w v : World} {b2 b3 n c : Nat} {A : Option Addr} {l : List Rs} {r : Pt} (h : HeardAt w b2 b3 A n c l r) (k : Only s B w v) (o : HeardOff s B b2 b3 A n) : HeardAt v b2 b3 A n c l r :=
  ⟨h.bs.onlyB k o.l2.1 o.l2.2, h.bp.onlyB k o.l3.1 o.l3.2, h.ss.onlyB k o.ls⟩
set_option maxHeartbeats 4000000 in
theorem heard1_in (F : Fence) (n : Nat) (hf : F.fn 32) (hro : F.round = none) (hn : 1 ≤ n) (l : Nat) (s : List Nat) (B b2 b3 : Nat) (A : Option Addr) (m c : Nat) (L : List Rs) (r : Pt) (J Jx : List Rs → World → Prop)
    (hY : ∀ pre x W, J pre W → pre.length < L.length → YieldAt F (n - 1) Try.prog l #[.agg (rsA x)] W fun e W' =>
      (e = .returned (.bool true) ∧ J (pre ++ [x]) W' ∧ Only s B W W') ∨ (e = .returned (.bool false) ∧ Jx (pre ++ [x]) W'))
    (W : World) (hJ : AbidesFrom W.heap.size J) (hA : HeardAt W b2 b3 A m c L r) (hO : HeardOff s B b2 b3 A m) (hm : m ≤ 1000000) (h0 : J [] W) :
    CallsIn F n Try.prog 32 #[.func (.yield l) #[] #[], .pointer (some ⟨b2, 0, none⟩), .pointer (some ⟨b3, 0, none⟩)] W fun e W' => (∃ v, e = .returned v) ∧
      ((∃ ss : List Rs, ss = heardL r L ∧ J ss W') ∨ (∃ pre : List Rs, True ∧ Jx pre W')) := by
  refine callsIn_of_wp Try.func32 rfl hf ?_ hro
  simp only [Try.ntmps32, List.size_toArray, List.length_cons, List.length_nil, Nat.reduceAdd, Nat.reduceSub, Array.replicate_succ, Array.replicate_zero, List.push_toArray, List.append_toArray, List.nil_append, List.cons_append]
  have hmc := hA.bs.reads (i := 0) (x := .slice A m c) rfl
  have HM : Hid (L.length = m) := by
    obtain ⟨_, _, _, h1, h2, _⟩ := hA.ss
    cases h1
    exact h2
  have HSA := Lib.hid hA
  have HJ := Lib.hid h0
  clear hA h0
  gi_wp2
  clear hmc
  gi_loopw [8] (fun i wr => ∃ k : Nat, k ≤ m ∧ i = .int .i64 k ∧ Hid (HeardAt wr b2 b3 A m c L r) ∧ Hid (J (heardL r (L.take k)) wr)) (fun i _ => m - (intOf i).toNat)
  case atStart => exact ⟨0, by omega, rfl, HSA, HJ⟩
  case round =>
    clear HSA HJ
    obtain ⟨k, hk, rfl, HSA, HJ⟩ := hrel
    by_cases hlt : k < m
    · have hd : decide ((k : Int) < (m : Int)) = true := by simpa using hlt
      obtain ⟨a, ha⟩ : ∃ a, L[k]? = some a := ⟨_, List.getElem?_eq_getElem (show k < L.length by rw [HM.out]; exact hlt)⟩
      have HA := Lib.hid ha
      have HK := Lib.hid hlt
      obtain ⟨g, o, hg⟩ : ∃ g o, A = some ⟨g, o, none⟩ := by
        obtain ⟨_, _, _, h1, _, h3⟩ := (HSA.out).ss
        cases h1
        obtain ⟨g, o, h4, _⟩ := h3 (by omega)
        exact ⟨g, o, h4⟩
      subst hg
      have hlen : (heardL r (L.take k)).length < L.length := by unfold heardL; rw [List.length_map, List.length_take, HM.out]; omega
      have HLN := Lib.hid hlen
      clear ha hlen
      gi_wp2_with (first | (refine fe_store rfl 26 _ _ rfl g5 23 [.int .u8 r.c.b0, .int .u8 r.c.b1, .int .u8 r.c.b2, .int .u8 r.c.b3, .int .u8 r.c.b4, .int .u8 r.c.b5, .int .u8 r.c.b6, .int .u8 r.c.b7, .int .i64 r.n] rfl rfl K5.out (by kernel_rfl) (by kernel_rfl) (of_decide_eq_true (by kernel_rfl)) (rsA (recv r a)) (by kernel_rfl) ?_; intro w6 n6 t6; have hb6 := btouch B4.out t6 (Nat.le_of_eq G5.out); replace HSA := Lib.hid ((HS0.out).keptB hb6); have hJ6 := hJ _ wr w6 none HJ.out (fe_grown hb6) (fun r e => by cases e); replace K5 := Lib.hid n6; clear n6 t6 hb6 B4; obtain ⟨fn, tmps, assign, body, hy, hR⟩ := hY (heardL r (L.take k)) (recv r a) w6 hJ6 HLN.out; clear hJ6 HJ) | (refine fe_fill rfl 31 _ _ rfl g5 (rsA a) rfl rfl K5.out (by kernel_rfl) (by kernel_rfl) (by kernel_rfl) ?_; intro w4 n4 t4; have B4 := Lib.hid (btouch B3.out t4 (Nat.le_of_eq G5.out)); replace HSA := Lib.hid ((HS0.out).keptB B4.out); replace K5 := Lib.hid n4; clear n4 t4 B3) | (refine fe_alloc rfl 31 rfl (rsA zeroR) (by kernel_rfl) ?_; intro g5 w3 hg5 n3 hb3; have HS0 := HSA; replace HSA := Lib.hid ((HSA.out).keptB hb3); have K5 := Lib.hid n3; have B3 := Lib.hid hb3; have G5 := Lib.hid hg5; clear n3 hb3 hg5) | (refine fe_loadAt rfl 26 _ rfl b3 0 rfl (ptA r) ((HSA.out).bp.range (by kernel_rfl)) Try.underlying26 rfl (by kernel_rfl) ?_) | (refine fe_loadAt rfl 31 _ rfl g (o + k * 32) rfl (rsA a) (set_in (HSA.out).ss HA.out) Try.underlying31 rfl (by kernel_rfl) ?_) | (refine fe_index rfl 22 _ _ rfl g o m c k 32 rfl rfl HK.out Try.underlying22 (by kernel_rfl) ?_) | (refine fe_whole rfl 31 _ rfl g5 rfl K5.out Try.underlying31 rfl (by kernel_rfl) ?_) | gi_in)
      refine hR.mono ?_
      rintro e3 W3 (⟨rfl, hJ3, hk3⟩ | ⟨rfl, hJx3⟩)
      · have HSA3 := Lib.hid ((HSA.out).onlyB hk3 hO)
        have HJ3 := Lib.hid (show J (heardL r (L.take (k + 1))) W3 by rw [heardL_snoc r HA.out]; exact hJ3)
        clear hJ3 hk3
        gi_wp2
        go_roundw
        case rel => exact ⟨k + 1, by omega, by go_num, HSA3, HJ3⟩
        case measure => simp [intOf]; omega
      · gi_wp2
        refine bodyPost_ret (results_none rfl _ _ _) rfl ?_
        exact ⟨⟨_, rfl⟩, .inr ⟨_, trivial, hJx3⟩⟩
    · have hd : decide ((k : Int) < (m : Int)) = false := by simpa using hlt
      have hkm : k = m := by omega
      subst hkm
      rw [List.take_of_length_le (by rw [HM.out]; omega)] at HJ
      gi_wp2
      go_end0
      exact ⟨⟨_, rfl⟩, .inl ⟨_, rfl, HJ.out⟩⟩
/-- what heardBy hands back -/
theorem heard_stops (F : Fence) (n : Nat) (hf : F.fn 32) (hro : F.round = none) (hn : 1 ≤ n) (s : List Nat) (B b2 b3 : Nat) (A : Option Addr) (m c : Nat) (L : List Rs) (r : Pt) (w : World) (hA : HeardAt w b2 b3 A m c L r) (hO : HeardOff s B b2 b3 A m) (hm : m ≤ 1000000) :
    SeqStopsK F n Try.prog 32 #[.pointer (some ⟨b2, 0, none⟩), .pointer (some ⟨b3, 0, none⟩)] (fun x : Rs => #[Value.agg (rsA x)]) (Only s B) (fun ss => ss = heardL r L) (fun _ => True) L.length w := fun l J Jx W hW hJ _ hY h0 =>
  heard1_in F n hf hro hn l s B b2 b3 A m c L r J Jx hY W hJ (hA.keptB hW) hO hm h0

end Go.Proofs.Ytcmcgkcljefckaa
