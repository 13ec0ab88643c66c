/- The walks over ident.Text and the reference's, over strings.IndexByte, ident.Read and the reference's. -/
import Derived.Test.YtbiglmpibdlhmaaIdentRef
import Derived.Deep.AppendLies
import Derived.Lib.Bytealg
namespace Go.Proofs.Ytbiglmpibdlhmaa
open Go.RowKit
set_option linter.unusedVariables false

theorem ret_str {a b : ByteArray} (h : a = b) : Ending.returned (.string a) = .returned (.string b) := by rw [h]
/-- a digit's letter -/
def digN (n : Int) : Int := if n < 10 then 48 + n else 87 + n
theorem digN_byte {n : Int} (h0 : 0 ≤ n) (h1 : n ≤ 15) : isByte (digN n) := by unfold digN isByte; split <;> omega
theorem digN_mono {m n : Int} (h0 : 0 ≤ m) (h1 : m < n) (h2 : n ≤ 15) : digN m < digN n := by unfold digN; split <;> split <;> omega
/-- bytes as digits -/
def hexL (zs : List Int) : List Int := zs.flatMap fun z => [digN (z / 16), digN (z % 16)]
def digits : ByteArray := { data := #[48, 49, 50, 51, 52, 53, 54, 55, 56, 57, 97, 98, 99, 100, 101, 102] }
theorem index_dig (n : Int) (h0 : 0 ≤ n) (h1 : n ≤ 15) (w : World) : (Instr.index 9 (.string { data := #[48, 49, 50, 51, 52, 53, 54, 55, 56, 57, 97, 98, 99, 100, 101, 102] }) (.int .u8 n)).run Try.prog w = .ok (.int .u8 (digN n)) w := by
  obtain ⟨m, rfl⟩ := Int.eq_ofNat_of_zero_le h0
  have hm : m < 16 := by omega
  match m, hm with
  | 0, _ => rfl
  | 1, _ => rfl
  | 2, _ => rfl
  | 3, _ => rfl
  | 4, _ => rfl
  | 5, _ => rfl
  | 6, _ => rfl
  | 7, _ => rfl
  | 8, _ => rfl
  | 9, _ => rfl
  | 10, _ => rfl
  | 11, _ => rfl
  | 12, _ => rfl
  | 13, _ => rfl
  | 14, _ => rfl
  | 15, _ => rfl
theorem and15 (x : Int) (h0 : 0 ≤ x) (h1 : x ≤ 255) : bits .and .u8 x 15 = x % 16 := by
  rw [u8_and x 15 h0 (by omega) (by omega) (by omega)]
  have : x.toNat &&& (15 : Int).toNat = x.toNat % 2 ^ 4 := Nat.and_two_pow_sub_one_eq_mod x.toNat 4
  rw [this]
  omega

theorem hexL_take (c : Ck) {k : Nat} (hk : k < 8) : hexL (c.l.take (k + 1)) = hexL (c.l.take k) ++ [digN (c.l.getD k 0 / 16), digN (c.l.getD k 0 % 16)] := by
  have hk' : k < c.l.length := hk
  rw [List.take_succ_eq_append_getElem hk']
  simp only [hexL, List.flatMap_append, List.getD, List.getElem?_eq_getElem hk', Option.getD_some]
  rfl
theorem hexL_length (zs : List Int) : (hexL zs).length = 2 * zs.length := by
  induction zs with
  | nil => rfl
  | cons z zs ih =>
    have : hexL (z :: zs) = [digN (z / 16), digN (z % 16)] ++ hexL zs := by simp [hexL]
    rw [this]
    simp [ih]; omega
theorem hexL_byte {zs : List Int} (h : ∀ z ∈ zs, isByte z) : ∀ y ∈ hexL zs, isByte y := by
  intro y hy
  simp only [hexL, List.mem_flatMap] at hy
  obtain ⟨z, hz, hy⟩ := hy
  have hb := h z hz
  unfold isByte at hb
  simp at hy
  rcases hy with rfl | rfl
  · exact digN_byte (by omega) (by omega)
  · exact digN_byte (by omega) (by omega)
theorem info_byte : (Try.prog.info? 5).map (fun i => (i.zero, i.size, i.bytes)) = some (some (.int .u8 0), 1, 1) := by kernel_rfl
theorem make_bytes (l c : Int) (h0 : 0 ≤ l) (h1 : l ≤ c) (hc : c ≤ 1000) (w : World) : (Instr.makeSlice 35 (.int .i64 l) (.int .i64 c)).run Try.prog w = .ok (.slice (some ⟨w.heap.size, 0, none⟩) l.toNat c.toNat) (w.alloc (.cells (madeCells #[.int .u8 0] c.toNat) 5)) := by
  obtain ⟨i0, hi0, hz0, hz1, hz2⟩ := info_parts info_byte
  have := run_make (P := Try.prog) w 35 5 i0 (.int .u8 0) (by kernel_rfl) hi0 hz0 .i64 .i64 l c h0 h1 (by rw [hz2]; omega) (by omega)
  rw [hz1, Nat.mul_one] at this
  exact this
theorem made_16 : madeCells #[.int .u8 0] 16 = #[.int .u8 0, .int .u8 0, .int .u8 0, .int .u8 0, .int .u8 0, .int .u8 0, .int .u8 0, .int .u8 0, .int .u8 0, .int .u8 0, .int .u8 0, .int .u8 0, .int .u8 0, .int .u8 0, .int .u8 0, .int .u8 0] := by kernel_rfl
theorem made_10 : madeCells #[.int .u8 0] 10 = #[.int .u8 0, .int .u8 0, .int .u8 0, .int .u8 0, .int .u8 0, .int .u8 0, .int .u8 0, .int .u8 0, .int .u8 0, .int .u8 0] := by kernel_rfl
theorem make_16 (w : World) : (Instr.makeSlice 35 (.int .i64 0) (.int .i64 16)).run Try.prog w = .ok (.slice (some ⟨w.heap.size, 0, none⟩) 0 16) (w.alloc (.cells #[.int .u8 0, .int .u8 0, .int .u8 0, .int .u8 0, .int .u8 0, .int .u8 0, .int .u8 0, .int .u8 0, .int .u8 0, .int .u8 0, .int .u8 0, .int .u8 0, .int .u8 0, .int .u8 0, .int .u8 0, .int .u8 0] 5)) := by
  rw [← made_16]; exact make_bytes 0 16 (by omega) (by omega) (by omega) w
theorem make_10 (w : World) : (Instr.makeSlice 35 (.int .i64 10) (.int .i64 10)).run Try.prog w = .ok (.slice (some ⟨w.heap.size, 0, none⟩) 10 10) (w.alloc (.cells #[.int .u8 0, .int .u8 0, .int .u8 0, .int .u8 0, .int .u8 0, .int .u8 0, .int .u8 0, .int .u8 0, .int .u8 0, .int .u8 0] 5)) := by
  rw [← made_10]; exact make_bytes 10 10 (by omega) (by omega) (by omega) w
theorem heap_alloc_at (w : World) (o : Obj) {g : Nat} (h : g = w.heap.size) : (w.alloc o).heap[g]? = some o := by rw [h]; exact heap_alloc_new w o
theorem Holds.grown {w v : World} {g : Nat} {t : TypeId} {cs : Array Value} {row : Option Nat} (h : Holds w g t cs) (hg : w.grownBy v row) (hne : some g ≠ row) : Holds v g t cs := by
  rw [Holds, hg.block g h.inside hne]; exact h

/-- what a round of Text keeps -/
def TextIn (w : World) (c : Ck) (k : Nat) (b : Value) (v : World) : Prop :=
  v.ownsRow (w.heap.size + 1) 5 1 b (2 * k) ((hexL (c.l.take k)).map (Value.int .u8)) ∧ Holds v w.heap.size 23 #[.int .u8 c.b0, .int .u8 c.b1, .int .u8 c.b2, .int .u8 c.b3, .int .u8 c.b4, .int .u8 c.b5, .int .u8 c.b6, .int .u8 c.b7] ∧ Below w.heap.size w v

set_option maxHeartbeats 1000000 in
theorem text_any (c : Ck) (hok : c.ok) (w : World) :
    Calls Try.prog 18 #[.agg #[.int .u8 c.b0, .int .u8 c.b1, .int .u8 c.b2, .int .u8 c.b3, .int .u8 c.b4, .int .u8 c.b5, .int .u8 c.b6, .int .u8 c.b7]] w fun e w' => e = .returned (.string (strOfNums (hexL c.l))) ∧ Below w.heap.size w w' := by
  have HOK := Lib.hid hok
  clear hok
  obtain ⟨i0, hi0, hz0, hz1, hz2⟩ := info_parts info_byte
  have K1 := Lib.hid (Holds.fresh w 23 #[.int .u8 c.b0, .int .u8 c.b1, .int .u8 c.b2, .int .u8 c.b3, .int .u8 c.b4, .int .u8 c.b5, .int .u8 c.b6, .int .u8 c.b7] rfl)
  have HB := Lib.hid (bnew w (.cells #[.int .u8 c.b0, .int .u8 c.b1, .int .u8 c.b2, .int .u8 c.b3, .int .u8 c.b4, .int .u8 c.b5, .int .u8 c.b6, .int .u8 c.b7] 23))
  have hmk := make_16
  go_enter Try.func18, Try.ntmps18
  go_wp2
  clear hmk
  go_loopw [3, 6] (fun b i v => ∃ k : Nat, k ≤ 8 ∧ i = .int .i64 k ∧ TextIn w c k b v) (fun _ i _ => 8 - (intOf i).toNat)
  case atStart =>
    refine ⟨0, by omega, rfl, ⟨by simp [hexL], .inr ⟨w.heap.size + 1, 16, _, rfl, Nat.le_refl _, heap_alloc_at _ _ (by simp), by omega, by unfold maxLen; omega, rfl, by simp [hexL]⟩⟩, ?_, ?_⟩
    · exact (K1.out).laid _
    · exact bstep HB.out (bnew _ _)
  case round =>
    clear K1 HB
    obtain ⟨k, hk, rfl, HO, K1, HB⟩ := hrel
    replace K1 := Lib.hid K1
    replace HB := Lib.hid HB
    replace HO := Lib.hid HO
    by_cases hlt : k < 8
    · obtain ⟨x, HX⟩ : ∃ x, Hid (c.l.getD k 0 = x) := ⟨_, Lib.hid rfl⟩
      have c1 := Ck.cell K1.out hlt
      have hT := hexL_take c hlt
      rw [HX.out] at c1 hT
      have hxb : isByte x := by
        rw [← HX.out]
        rcases c.at_ hlt with h | h
        · exact h
        · exact absurd HOK.out h
      obtain ⟨x0, x1⟩ := hxb
      obtain ⟨h, hh⟩ : ∃ h, x / 16 = h := ⟨_, rfl⟩
      obtain ⟨l, hl⟩ : ∃ l, x % 16 = l := ⟨_, rfl⟩
      have ha := and15 x x0 x1
      rw [hl] at ha hT
      rw [hh] at hT
      have hi1 := index_dig h (by omega) (by omega)
      have hi2 := index_dig l (by omega) (by omega)
      obtain ⟨d1, hd1⟩ : ∃ d, digN h = d := ⟨_, rfl⟩
      obtain ⟨d2, hd2⟩ : ∃ d, digN l = d := ⟨_, rfl⟩
      rw [hd1] at hi1 hT
      rw [hd2] at hi2 hT
      have HT := Lib.hid hT
      clear hT hd1 hd2 hl
      have hne : u3.ownBlock ≠ some w.heap.size := fun h => by
        have := ((HO.out).lt _ h).1
        omega
      have hsz := (K1.out).inside
      have hsz2 : w.heap.size + 1 ≤ wr.heap.size := hsz
      go_wp2
      go_region_held3 (fun v => v.cell? ⟨w.heap.size, k, none⟩ = some (.int .u8 x))
        (first
          | go_keep
          | (rw [hgrow.cell_far _ (by simp; omega) (Ne.symm hne)]; assumption))
        ((refine step_append_lies _ (by rfl) _ _ _ (by rfl) (w.heap.size + 1) 5 i0 _ 1 1 Try.underlying35 hi0 hz0 hz1 hz2 rfl (by omega) _ (2 * k) _ (by rfl) (((HO.out).alloc _).drew)
            ⟨wr.heap.size, 0, none⟩ 2 2 [.int .u8 d1, .int .u8 d2] (by rfl) (by rfl) (World.news_of_block (cs := #[.int .u8 d1, .int .u8 d2]) (t := 5) (fr := (0, 0)) (heap_alloc_new wr _)) (by simp [Value.oneCell'])
            (by omega) (by unfold maxLen; omega) (by omega) (by simp; omega) (wr.heap.size + 1) (by simp) ?_; intro gg cap w1 hown1 hgrow hat hlt1))
      all_goals
        clear hi1 hi2 ha hh c1
        go_wp2
        go_roundw
        case rel =>
          refine ⟨k + 1, by omega, by go_num, ?_, ?_, ?_⟩
          · rw [HT.out, List.map_append]
            exact hown1
          · exact (((K1.out).laid _).drew).grown hgrow (Ne.symm hne)
          · exact (bdrew (bstep HB.out (bnew _ _))).grown hgrow (by simp; omega) (fun g hg => by have := ((HO.out).lt _ hg).1; omega)
        case measure => simp [intOf]; omega
    · obtain rfl : k = 8 := by omega
      obtain ⟨gg, cap, hform, _, _⟩ := (HO.out).form (by omega)
      subst hform
      have HO2 := (HO.out)
      rw [List.take_of_length_le (by rw [Ck.len]; omega)] at HO2
      have hconv : (convert 35 9 (.slice (some ⟨gg, 0, none⟩) 16 cap)).run Try.prog wr = .ok (.string (strOfNums (hexL c.l))) wr := by
        refine run_convert_bytes_arg wr 35 5 Try.underlying35 Try.underlying5 gg 0 16 cap (hexL c.l) (by rw [hexL_length, Ck.len]) (fun i hi => ?_) 9 Try.underlying9
        rw [Nat.zero_add, HO2.cellAt i (by omega)]
        have hi' : i < (hexL c.l).length := by rw [hexL_length, Ck.len]; omega
        simp [List.getD, List.getElem?_eq_getElem hi']
      obtain ⟨S, HS⟩ : ∃ S, Hid (strOfNums (hexL c.l) = S) := ⟨_, Lib.hid rfl⟩
      rw [HS.out] at hconv
      clear HO2 HO
      go_wp2
      go_ret
      exact ⟨ret_str HS.out.symm, HB.out⟩

end Go.Proofs.Ytbiglmpibdlhmaa
