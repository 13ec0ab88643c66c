/- A value of the type of messages that can be read is a message. -/
import Derived.Test.YtnmpfemmeblnlaaDoorFlat
import Derived.Test.YtnmpfemmeblnlaaDoorFrameMath
import Derived.Test.YtnmpfemmeblnlaaDoorIdentOpen
namespace Go.Proofs.YtnmpfemmeblnlaaDoor
set_option maxRecDepth 100000
open Go.ChangeShapes Go.WideShapes Go.ChangeAt Go.RowKit
set_option linter.unusedVariables false

/-- what is known of a message's numbers -/
structure MsOk (m : Ms) : Prop where
  f0 : -9223372036854775808 ≤ m.h.f
  f1 : m.h.f ≤ 9223372036854775807
  c0 : -9223372036854775808 ≤ m.h.c
  c1 : m.h.c ≤ 9223372036854775807
  o1 : m.h.p.c.ok
  o2 : m.ak.c.ok
  o3 : m.gr.ok
theorem leavesOk_split : ∀ {a b : List Lit} {cs : List Value}, leavesOk (a ++ b) cs → ∃ c d, cs = c ++ d ∧ leavesOk a c ∧ leavesOk b d
  | [], b, cs, h => ⟨[], cs, rfl, rfl, h⟩
  | k :: a, b, cs, h => by
    obtain ⟨v, vs, rfl, hk, h⟩ := h
    obtain ⟨c, d, rfl, h1, h2⟩ := leavesOk_split h
    exact ⟨v :: c, d, rfl, ⟨v, c, rfl, hk, h1⟩, h2⟩
theorem open_p0 {cs : List Value} (h : leavesOk [.int .i64 0, .int .i64 0, .int .i64 0, .int .i64 0, .int .u8 0, .int .u8 0, .int .u8 0, .int .u8 0, .int .u8 0, .int .u8 0, .int .u8 0, .int .u8 0, .int .i64 0, .int .i64 0, .int .i64 0] cs) : ∃ a0 a1 a2 a3 a4 a5 a6 a7 a8 a9 a10 a11 a12 a13 a14 : Int, cs = [.int .i64 a0, .int .i64 a1, .int .i64 a2, .int .i64 a3, .int .u8 a4, .int .u8 a5, .int .u8 a6, .int .u8 a7, .int .u8 a8, .int .u8 a9, .int .u8 a10, .int .u8 a11, .int .i64 a12, .int .i64 a13, .int .i64 a14] ∧ (Lit.int .i64 a0).wf = true ∧ (Lit.int .i64 a1).wf = true ∧ (Lit.int .i64 a2).wf = true ∧ (Lit.int .i64 a3).wf = true ∧ (Lit.int .u8 a4).wf = true ∧ (Lit.int .u8 a5).wf = true ∧ (Lit.int .u8 a6).wf = true ∧ (Lit.int .u8 a7).wf = true ∧ (Lit.int .u8 a8).wf = true ∧ (Lit.int .u8 a9).wf = true ∧ (Lit.int .u8 a10).wf = true ∧ (Lit.int .u8 a11).wf = true ∧ (Lit.int .i64 a12).wf = true ∧ (Lit.int .i64 a13).wf = true ∧ (Lit.int .i64 a14).wf = true := by
  simp only [leavesOk, leafOk] at h
  obtain ⟨_, _, rfl, ⟨a0, rfl, w0⟩, _, _, rfl, ⟨a1, rfl, w1⟩, _, _, rfl, ⟨a2, rfl, w2⟩, _, _, rfl, ⟨a3, rfl, w3⟩, _, _, rfl, ⟨a4, rfl, w4⟩, _, _, rfl, ⟨a5, rfl, w5⟩, _, _, rfl, ⟨a6, rfl, w6⟩, _, _, rfl, ⟨a7, rfl, w7⟩, _, _, rfl, ⟨a8, rfl, w8⟩, _, _, rfl, ⟨a9, rfl, w9⟩, _, _, rfl, ⟨a10, rfl, w10⟩, _, _, rfl, ⟨a11, rfl, w11⟩, _, _, rfl, ⟨a12, rfl, w12⟩, _, _, rfl, ⟨a13, rfl, w13⟩, _, _, rfl, ⟨a14, rfl, w14⟩, rfl⟩ := h
  exact ⟨a0, a1, a2, a3, a4, a5, a6, a7, a8, a9, a10, a11, a12, a13, a14, rfl, w0, w1, w2, w3, w4, w5, w6, w7, w8, w9, w10, w11, w12, w13, w14⟩
theorem open_p1 {cs : List Value} (h : leavesOk [.int .i64 0, .int .i64 0, .int .u8 0, .int .u8 0, .int .u8 0, .int .u8 0, .int .u8 0, .int .u8 0, .int .u8 0, .int .u8 0, .int .i64 0, .int .i64 0] cs) : ∃ a15 a16 a17 a18 a19 a20 a21 a22 a23 a24 a25 a26 : Int, cs = [.int .i64 a15, .int .i64 a16, .int .u8 a17, .int .u8 a18, .int .u8 a19, .int .u8 a20, .int .u8 a21, .int .u8 a22, .int .u8 a23, .int .u8 a24, .int .i64 a25, .int .i64 a26] ∧ (Lit.int .i64 a15).wf = true ∧ (Lit.int .i64 a16).wf = true ∧ (Lit.int .u8 a17).wf = true ∧ (Lit.int .u8 a18).wf = true ∧ (Lit.int .u8 a19).wf = true ∧ (Lit.int .u8 a20).wf = true ∧ (Lit.int .u8 a21).wf = true ∧ (Lit.int .u8 a22).wf = true ∧ (Lit.int .u8 a23).wf = true ∧ (Lit.int .u8 a24).wf = true ∧ (Lit.int .i64 a25).wf = true ∧ (Lit.int .i64 a26).wf = true := by
  simp only [leavesOk, leafOk] at h
  obtain ⟨_, _, rfl, ⟨a15, rfl, w15⟩, _, _, rfl, ⟨a16, rfl, w16⟩, _, _, rfl, ⟨a17, rfl, w17⟩, _, _, rfl, ⟨a18, rfl, w18⟩, _, _, rfl, ⟨a19, rfl, w19⟩, _, _, rfl, ⟨a20, rfl, w20⟩, _, _, rfl, ⟨a21, rfl, w21⟩, _, _, rfl, ⟨a22, rfl, w22⟩, _, _, rfl, ⟨a23, rfl, w23⟩, _, _, rfl, ⟨a24, rfl, w24⟩, _, _, rfl, ⟨a25, rfl, w25⟩, _, _, rfl, ⟨a26, rfl, w26⟩, rfl⟩ := h
  exact ⟨a15, a16, a17, a18, a19, a20, a21, a22, a23, a24, a25, a26, rfl, w15, w16, w17, w18, w19, w20, w21, w22, w23, w24, w25, w26⟩
theorem open_p2 {cs : List Value} (h : leavesOk [.int .i64 0, .int .i64 0, .int .i64 0, .int .i64 0, .int .i64 0, .int .u8 0, .int .u8 0, .int .u8 0, .int .u8 0, .int .u8 0, .int .u8 0, .int .u8 0, .int .u8 0, .int .i64 0] cs) : ∃ a27 a28 a29 a30 a31 a32 a33 a34 a35 a36 a37 a38 a39 a40 : Int, cs = [.int .i64 a27, .int .i64 a28, .int .i64 a29, .int .i64 a30, .int .i64 a31, .int .u8 a32, .int .u8 a33, .int .u8 a34, .int .u8 a35, .int .u8 a36, .int .u8 a37, .int .u8 a38, .int .u8 a39, .int .i64 a40] ∧ (Lit.int .i64 a27).wf = true ∧ (Lit.int .i64 a28).wf = true ∧ (Lit.int .i64 a29).wf = true ∧ (Lit.int .i64 a30).wf = true ∧ (Lit.int .i64 a31).wf = true ∧ (Lit.int .u8 a32).wf = true ∧ (Lit.int .u8 a33).wf = true ∧ (Lit.int .u8 a34).wf = true ∧ (Lit.int .u8 a35).wf = true ∧ (Lit.int .u8 a36).wf = true ∧ (Lit.int .u8 a37).wf = true ∧ (Lit.int .u8 a38).wf = true ∧ (Lit.int .u8 a39).wf = true ∧ (Lit.int .i64 a40).wf = true := by
  simp only [leavesOk, leafOk] at h
  obtain ⟨_, _, rfl, ⟨a27, rfl, w27⟩, _, _, rfl, ⟨a28, rfl, w28⟩, _, _, rfl, ⟨a29, rfl, w29⟩, _, _, rfl, ⟨a30, rfl, w30⟩, _, _, rfl, ⟨a31, rfl, w31⟩, _, _, rfl, ⟨a32, rfl, w32⟩, _, _, rfl, ⟨a33, rfl, w33⟩, _, _, rfl, ⟨a34, rfl, w34⟩, _, _, rfl, ⟨a35, rfl, w35⟩, _, _, rfl, ⟨a36, rfl, w36⟩, _, _, rfl, ⟨a37, rfl, w37⟩, _, _, rfl, ⟨a38, rfl, w38⟩, _, _, rfl, ⟨a39, rfl, w39⟩, _, _, rfl, ⟨a40, rfl, w40⟩, rfl⟩ := h
  exact ⟨a27, a28, a29, a30, a31, a32, a33, a34, a35, a36, a37, a38, a39, a40, rfl, w27, w28, w29, w30, w31, w32, w33, w34, w35, w36, w37, w38, w39, w40⟩
theorem open_p3 {cs : List Value} (h : leavesOk [.int .u8 0, .int .u8 0, .int .u8 0, .int .u8 0, .int .u8 0, .int .u8 0, .int .u8 0, .int .u8 0, .int .i64 0, .int .u8 0, .int .u8 0, .int .u8 0, .int .u8 0, .int .u8 0, .int .u8 0, .int .u8 0, .int .u8 0, .int .i64 0, .int .i64 0] cs) : ∃ a41 a42 a43 a44 a45 a46 a47 a48 a49 a50 a51 a52 a53 a54 a55 a56 a57 a58 a59 : Int, cs = [.int .u8 a41, .int .u8 a42, .int .u8 a43, .int .u8 a44, .int .u8 a45, .int .u8 a46, .int .u8 a47, .int .u8 a48, .int .i64 a49, .int .u8 a50, .int .u8 a51, .int .u8 a52, .int .u8 a53, .int .u8 a54, .int .u8 a55, .int .u8 a56, .int .u8 a57, .int .i64 a58, .int .i64 a59] ∧ (Lit.int .u8 a41).wf = true ∧ (Lit.int .u8 a42).wf = true ∧ (Lit.int .u8 a43).wf = true ∧ (Lit.int .u8 a44).wf = true ∧ (Lit.int .u8 a45).wf = true ∧ (Lit.int .u8 a46).wf = true ∧ (Lit.int .u8 a47).wf = true ∧ (Lit.int .u8 a48).wf = true ∧ (Lit.int .i64 a49).wf = true ∧ (Lit.int .u8 a50).wf = true ∧ (Lit.int .u8 a51).wf = true ∧ (Lit.int .u8 a52).wf = true ∧ (Lit.int .u8 a53).wf = true ∧ (Lit.int .u8 a54).wf = true ∧ (Lit.int .u8 a55).wf = true ∧ (Lit.int .u8 a56).wf = true ∧ (Lit.int .u8 a57).wf = true ∧ (Lit.int .i64 a58).wf = true ∧ (Lit.int .i64 a59).wf = true := by
  simp only [leavesOk, leafOk] at h
  obtain ⟨_, _, rfl, ⟨a41, rfl, w41⟩, _, _, rfl, ⟨a42, rfl, w42⟩, _, _, rfl, ⟨a43, rfl, w43⟩, _, _, rfl, ⟨a44, rfl, w44⟩, _, _, rfl, ⟨a45, rfl, w45⟩, _, _, rfl, ⟨a46, rfl, w46⟩, _, _, rfl, ⟨a47, rfl, w47⟩, _, _, rfl, ⟨a48, rfl, w48⟩, _, _, rfl, ⟨a49, rfl, w49⟩, _, _, rfl, ⟨a50, rfl, w50⟩, _, _, rfl, ⟨a51, rfl, w51⟩, _, _, rfl, ⟨a52, rfl, w52⟩, _, _, rfl, ⟨a53, rfl, w53⟩, _, _, rfl, ⟨a54, rfl, w54⟩, _, _, rfl, ⟨a55, rfl, w55⟩, _, _, rfl, ⟨a56, rfl, w56⟩, _, _, rfl, ⟨a57, rfl, w57⟩, _, _, rfl, ⟨a58, rfl, w58⟩, _, _, rfl, ⟨a59, rfl, w59⟩, rfl⟩ := h
  exact ⟨a41, a42, a43, a44, a45, a46, a47, a48, a49, a50, a51, a52, a53, a54, a55, a56, a57, a58, a59, rfl, w41, w42, w43, w44, w45, w46, w47, w48, w49, w50, w51, w52, w53, w54, w55, w56, w57, w58, w59⟩
theorem ms_open {cs : Array Value} (h : leavesOk [.int .i64 0, .int .i64 0, .int .i64 0, .int .i64 0, .int .u8 0, .int .u8 0, .int .u8 0, .int .u8 0, .int .u8 0, .int .u8 0, .int .u8 0, .int .u8 0, .int .i64 0, .int .i64 0, .int .i64 0, .int .i64 0, .int .i64 0, .int .u8 0, .int .u8 0, .int .u8 0, .int .u8 0, .int .u8 0, .int .u8 0, .int .u8 0, .int .u8 0, .int .i64 0, .int .i64 0, .int .i64 0, .int .i64 0, .int .i64 0, .int .i64 0, .int .i64 0, .int .u8 0, .int .u8 0, .int .u8 0, .int .u8 0, .int .u8 0, .int .u8 0, .int .u8 0, .int .u8 0, .int .i64 0, .int .u8 0, .int .u8 0, .int .u8 0, .int .u8 0, .int .u8 0, .int .u8 0, .int .u8 0, .int .u8 0, .int .i64 0, .int .u8 0, .int .u8 0, .int .u8 0, .int .u8 0, .int .u8 0, .int .u8 0, .int .u8 0, .int .u8 0, .int .i64 0, .int .i64 0] cs.toList) : ∃ m : Ms, cs = msA m ∧ MsOk m := by
  obtain ⟨c0, d0, e0, h0, r0⟩ := leavesOk_split (a := [.int .i64 0, .int .i64 0, .int .i64 0, .int .i64 0, .int .u8 0, .int .u8 0, .int .u8 0, .int .u8 0, .int .u8 0, .int .u8 0, .int .u8 0, .int .u8 0, .int .i64 0, .int .i64 0, .int .i64 0]) h
  obtain ⟨c1, d1, e1, h1, r1⟩ := leavesOk_split (a := [.int .i64 0, .int .i64 0, .int .u8 0, .int .u8 0, .int .u8 0, .int .u8 0, .int .u8 0, .int .u8 0, .int .u8 0, .int .u8 0, .int .i64 0, .int .i64 0]) r0
  obtain ⟨c2, c3, e2, h2, h3⟩ := leavesOk_split (a := [.int .i64 0, .int .i64 0, .int .i64 0, .int .i64 0, .int .i64 0, .int .u8 0, .int .u8 0, .int .u8 0, .int .u8 0, .int .u8 0, .int .u8 0, .int .u8 0, .int .u8 0, .int .i64 0]) r1
  obtain ⟨a0, a1, a2, a3, a4, a5, a6, a7, a8, a9, a10, a11, a12, a13, a14, x0, w0, w1, w2, w3, w4, w5, w6, w7, w8, w9, w10, w11, w12, w13, w14⟩ := open_p0 h0
  obtain ⟨a15, a16, a17, a18, a19, a20, a21, a22, a23, a24, a25, a26, x1, w15, w16, w17, w18, w19, w20, w21, w22, w23, w24, w25, w26⟩ := open_p1 h1
  obtain ⟨a27, a28, a29, a30, a31, a32, a33, a34, a35, a36, a37, a38, a39, a40, x2, w27, w28, w29, w30, w31, w32, w33, w34, w35, w36, w37, w38, w39, w40⟩ := open_p2 h2
  obtain ⟨a41, a42, a43, a44, a45, a46, a47, a48, a49, a50, a51, a52, a53, a54, a55, a56, a57, a58, a59, x3, w41, w42, w43, w44, w45, w46, w47, w48, w49, w50, w51, w52, w53, w54, w55, w56, w57, w58, w59⟩ := open_p3 h3
  refine ⟨⟨⟨a0, a1, a2, a3, ⟨⟨a4, a5, a6, a7, a8, a9, a10, a11⟩, a12⟩, a13, a14⟩, a15, a16, ⟨⟨a17, a18, a19, a20, a21, a22, a23, a24⟩, a25⟩, a26, a27, a28, a29, a30, a31, ⟨a32, a33, a34, a35, a36, a37, a38, a39⟩, a40, ⟨⟨a41, a42, a43, a44, a45, a46, a47, a48⟩, a49⟩, ⟨⟨a50, a51, a52, a53, a54, a55, a56, a57⟩, a58⟩, a59⟩, ?_, ⟨(in64_wf w2).1, (in64_wf w2).2, (in64_wf w3).1, (in64_wf w3).2, (ok8 w4 w5 w6 w7 w8 w9 w10 w11), (ok8 w17 w18 w19 w20 w21 w22 w23 w24), (ok8 w32 w33 w34 w35 w36 w37 w38 w39)⟩⟩
  apply Array.toList_inj.1
  rw [e0, e1, e2, x0, x1, x2, x3]
  rfl

end Go.Proofs.YtnmpfemmeblnlaaDoor
