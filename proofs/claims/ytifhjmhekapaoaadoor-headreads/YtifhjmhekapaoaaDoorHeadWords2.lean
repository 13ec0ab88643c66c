/- Words of the laws HeadBack and HeadTurned: what any bytes are read as; a byte that is turned. -/
import Derived.Test.YtifhjmhekapaoaaDoorHeadWords
namespace Go.Proofs.YtifhjmhekapaoaaDoor
set_option maxRecDepth 100000
open Go.RowKit
set_option linter.unusedVariables false

theorem dec_slice (A : Option Addr) (L C : Nat) (zs : List Int) (w : World) (hs : sliceOk .u8 w A L C zs) :
    ∃ n G, (∀ v, Below w.heap.size w v → Lens v → Calls Tryd.prog 6 #[.slice A L C] v fun e w' => e = .returned (.tuple #[.agg #[.int .i64 G.t, .int .i64 G.d, .int .i64 G.f, .int .i64 G.c, .int .u8 G.p.c.b0, .int .u8 G.p.c.b1, .int .u8 G.p.c.b2, .int .u8 G.p.c.b3, .int .u8 G.p.c.b4, .int .u8 G.p.c.b5, .int .u8 G.p.c.b6, .int .u8 G.p.c.b7, .int .i64 G.p.n, .int .i64 G.s, .int .i64 G.l], .int .i64 n]) ∧ Below v.heap.size v w') ∧
      ((n ≠ 0 ∧ G = zeroH) ∨ (n = 0 ∧ G.right = true ∧ ∃ a, A = some a ∧ 34 ≤ L ∧ L ≤ C ∧ C ≤ maxLen ∧ BytesAt w a (encL G))) := by
  by_cases hL : L < 34
  · exact ⟨50, zeroH, fun v _ _ => decode_short A L C v hL, .inl ⟨by omega, rfl⟩⟩
  rcases hs with ⟨_, h0, _⟩ | ⟨a, rfl, h1, h2, h3, h4, h5⟩
  · omega
  have hz : BytesAt w a (zs.take L) := by
    intro i hi
    rw [List.length_take] at hi
    rw [h4 i (by omega)]
    simp only [List.getD, List.getElem?_take, if_pos (show i < L by omega)]
  have hb : ∀ z ∈ zs.take L, isByte z := fun z hz => byte_wf (h5 z (List.mem_of_mem_take hz))
  have hl : (zs.take L).length = L := by rw [List.length_take]; omega
  obtain ⟨ys, hys⟩ : ∃ ys, zs.take L = ys := ⟨_, rfl⟩
  rw [hys] at hz hb hl
  refine ⟨faultN L ys, decH L ys, fun v hv hlv => decode_any a L C ys v hl (by omega) h1 h2 hb (fun i hi => keepc hv (hz i hi)) hlv, ?_⟩
  by_cases hf : faultN L ys = 0
  · have e : decH L ys = hdOf ys := by unfold decH; rw [if_pos hf]
    rw [← hl] at hf
    have hed := enc_dec ys (by omega) hb hf
    rw [hl] at hf
    refine .inr ⟨hf, by rw [e]; exact hed.1, a, rfl, by omega, h1, h2, ?_⟩
    rw [e, hed.2]
    have hz2 := hz
    rw [← List.take_append_drop 34 ys] at hz2
    exact hz2.front
  · exact .inl ⟨hf, by unfold decH; rw [if_neg hf]⟩
theorem zero_eq (w : World) : (binOp .eql 28 (.agg #[.int .i64 0, .int .i64 0, .int .i64 0, .int .i64 0, .int .u8 0, .int .u8 0, .int .u8 0, .int .u8 0, .int .u8 0, .int .u8 0, .int .u8 0, .int .u8 0, .int .i64 0, .int .i64 0, .int .i64 0]) (.agg #[.int .i64 0, .int .i64 0, .int .i64 0, .int .i64 0, .int .u8 0, .int .u8 0, .int .u8 0, .int .u8 0, .int .u8 0, .int .u8 0, .int .u8 0, .int .u8 0, .int .i64 0, .int .i64 0, .int .i64 0])).run Tryd.prog w = .ok (.bool true) w := by
  have h := eql_head zeroH zeroH w
  rw [eqH_self] at h
  exact h
theorem enc_zeros (h : Hd) (cap n : Nat) (hc : 34 + n ≤ cap) : encL h ++ List.replicate (cap - 34) 0 = (encL h ++ List.replicate n 0) ++ List.replicate (cap - (34 + n)) 0 := by
  rw [List.append_assoc, List.replicate_append_replicate]
  congr 2
  omega
theorem turned_not {h : Hd} {r : List Int} {k : Nat} {y : Int} (hk : k < 34) (hb : ∀ z ∈ (encL h ++ r).set k y, isByte z) (hne : y ≠ (encL h).getD k 0) (hf : faultN ((encL h ++ r).set k y).length ((encL h ++ r).set k y) = 0) : eqH (hdOf ((encL h ++ r).set k y)) h = false := by
  rw [← Bool.not_eq_true, eqH_iff]
  intro e
  have hl : 34 ≤ ((encL h ++ r).set k y).length := by rw [List.length_set, List.length_append, encL_length]; omega
  have h1 := (enc_dec _ hl hb hf).2
  rw [e] at h1
  have h2 := congrArg (fun l => l.getD k 0) h1
  simp only [List.getD, List.getElem?_take, if_pos hk] at h2
  rw [List.getElem?_set_self (by rw [List.length_append, encL_length]; omega)] at h2
  exact hne h2.symm
end Go.Proofs.YtifhjmhekapaoaaDoor
