/- A rule of this proof's own for a region that draws its order: whatever the order, what each operation yields keeps its own word, and the world keeps a word of its own. No program is read here. -/
import Derived.Test.YtfdadebddfhpdaaDoorKeep
import Derived.Test.YtfdadebddfhpdaaDoorByHand
import Derived.Deep.RegionHeld
namespace Go.Proofs.YtfdadebddfhpdaaDoor
set_option maxRecDepth 100000
open Go.RowKit
set_option linter.unusedVariables false

section
variable {P : Program} {ops : Array Oper} {Q : Exit → Act → World → Prop}

/-- a frame in which the slots of what has come up are filled -/
def putAll (l : Nat → Bool) (v : Nat → Value) : List (Option Nat) → Nat → Act → Act
  | [], _, a => a
  | d :: ds, k, a => putAll l v ds (k + 1) (if l k = true then a.put d (v k) else a)
/-- no slot stands twice -/
def apartL : List (Option Nat) → Bool
  | [] => true
  | d :: ds => ds.all (fun e => d == none || d != e) && apartL ds

theorem put_comm (a : Act) {d e : Option Nat} (h : d = none ∨ d ≠ e) (x y : Value) : (a.put d x).put e y = (a.put e y).put d x := by
  cases d with
  | none => rfl
  | some d =>
    cases e with
    | none => rfl
    | some e =>
      have hne : d ≠ e := h.elim (fun h => by cases h) (fun h he => h (by rw [he]))
      simp only [Act.put]
      rw [Array.setIfInBounds_comm _ _ hne]
theorem putAll_put (l : Nat → Bool) (v : Nat → Value) (d : Option Nat) (x : Value) : ∀ (ds : List (Option Nat)) (k : Nat) (a : Act), (∀ e ∈ ds, d = none ∨ d ≠ e) → (putAll l v ds k a).put d x = putAll l v ds k (a.put d x)
  | [], _, _, _ => rfl
  | e :: ds, k, a, h => by
    rw [putAll, putAll, putAll_put l v d x ds (k + 1) _ (fun e' he' => h e' (by simp [he']))]
    congr 1
    split
    · exact (put_comm a (h e (by simp)) x (v k)).symm
    · rfl
theorem putAll_congr {l l' : Nat → Bool} {v v' : Nat → Value} : ∀ (ds : List (Option Nat)) (k : Nat) (a : Act), (∀ i, k ≤ i → l i = l' i) → (∀ i, k ≤ i → v i = v' i) → putAll l v ds k a = putAll l' v' ds k a
  | [], _, _, _, _ => rfl
  | d :: ds, k, a, h1, h2 => by
    rw [putAll, putAll, h1 k (Nat.le_refl k), h2 k (Nat.le_refl k), putAll_congr ds (k + 1) _ (fun i hi => h1 i (by omega)) (fun i hi => h2 i (by omega))]
def upd {α : Type} (f : Nat → α) (i : Nat) (x : α) : Nat → α := fun j => if j = i then x else f j
theorem putAll_set {l : Nat → Bool} {v : Nat → Value} {i : Nat} {d : Option Nat} {x : Value} (hl : l i = false) : ∀ (ds : List (Option Nat)) (k : Nat) (a : Act), k ≤ i → ds[i - k]? = some d → apartL ds = true →
    (putAll l v ds k a).put d x = putAll (upd l i true) (upd v i x) ds k a
  | [], k, a, hk, hd, _ => by simp at hd
  | e :: ds, k, a, hk, hd, ha => by
    simp only [apartL, Bool.and_eq_true, List.all_eq_true, Bool.or_eq_true, beq_iff_eq, bne_iff_ne] at ha
    by_cases hki : k = i
    · subst hki
      simp at hd
      subst hd
      rw [putAll, putAll, putAll_put l v e x ds (k + 1) _ (fun e' he' => ha.1 e' he')]
      rw [if_neg (by rw [hl]; simp), if_pos (by simp [upd])]
      have : upd v k x k = x := by simp [upd]
      rw [this]
      exact putAll_congr ds (k + 1) _ (fun j hj => by simp only [upd]; rw [if_neg (by omega)]) (fun j hj => by simp only [upd]; rw [if_neg (by omega)])
    · have hd' : ds[i - (k + 1)]? = some d := by
        have e1 : i - k = (i - (k + 1)) + 1 := by omega
        rw [e1] at hd
        simpa using hd
      rw [putAll, putAll, putAll_set hl ds (k + 1) _ (by omega) hd' ha.2]
      simp only [upd, if_neg hki]
theorem put_size (a : Act) (d : Option Nat) (x : Value) : (a.put d x).tmps.size = a.tmps.size := by
  cases d <;> simp [Act.put]
theorem putAll_old (l : Nat → Bool) (v : Nat → Value) {s : Nat} : ∀ (ds : List (Option Nat)) (k : Nat) (a : Act), some s ∉ ds → (putAll l v ds k a).tmps.getD s undef = a.tmps.getD s undef
  | [], _, _, _ => rfl
  | d :: ds, k, a, h => by
    rw [putAll, putAll_old l v ds (k + 1) _ (fun h' => h (by simp [h']))]
    split
    · cases d with
      | none => rfl
      | some d =>
        have hne : d ≠ s := fun e => h (by simp [e])
        simp [Act.put, Array.getElem?_setIfInBounds_ne hne]
    · rfl
theorem putAll_new {l : Nat → Bool} {v : Nat → Value} {s j : Nat} (hl : l j = true) : ∀ (ds : List (Option Nat)) (k : Nat) (a : Act), k ≤ j → ds[j - k]? = some (some s) → apartL ds = true → s < a.tmps.size →
    (putAll l v ds k a).tmps.getD s undef = v j
  | [], k, a, hk, hd, _, _ => by simp at hd
  | e :: ds, k, a, hk, hd, ha, hs => by
    simp only [apartL, Bool.and_eq_true, List.all_eq_true, Bool.or_eq_true, beq_iff_eq, bne_iff_ne] at ha
    by_cases hkj : k = j
    · subst hkj
      simp at hd
      subst hd
      rw [putAll, putAll_old l v ds (k + 1) _ (fun h => (ha.1 _ h).elim (fun h => by cases h) (fun h => h rfl)), if_pos hl]
      simp [Act.put, hs]
    · have hd' : ds[j - (k + 1)]? = some (some s) := by
        have e1 : j - k = (j - (k + 1)) + 1 := by omega
        rw [e1] at hd
        simpa using hd
      rw [putAll]
      refine putAll_new hl ds (k + 1) _ (by omega) hd' ha.2 ?_
      split
      · rw [put_size]; exact hs
      · exact hs

/-- how many have not come up -/
def cntF : List Bool → Nat
  | [] => 0
  | true :: l => cntF l
  | false :: l => cntF l + 1
theorem cntF_set : ∀ (l : List Bool) (i : Nat), l[i]? = some false → cntF (l.set i true) + 1 = cntF l
  | [], _, h => by simp at h
  | b :: l, 0, h => by simp at h; subst h; simp [cntF]
  | true :: l, i + 1, h => by simp at h; simp [cntF, cntF_set l i h]
  | false :: l, i + 1, h => by simp at h; simp [cntF, cntF_set l i h]
theorem cntF_zero : ∀ (l : List Bool), cntF l = 0 → ∀ i : Nat, i < l.length → l[i]? = some true
  | [], _, _, h => by simp at h
  | true :: l, h, 0, _ => rfl
  | true :: l, h, i + 1, hi => by simp at hi; simpa using cntF_zero l h i hi
  | false :: l, h, _, _ => by simp [cntF] at h
theorem cntF_pos : ∀ (l : List Bool), cntF l ≠ 0 → ∃ i : Nat, l[i]? = some false ∧ ∀ j : Nat, j < i → l[j]? = some true
  | [], h => by simp [cntF] at h
  | false :: l, _ => ⟨0, rfl, fun j hj => by omega⟩
  | true :: l, h => by
    obtain ⟨i, h1, h2⟩ := cntF_pos l h
    refine ⟨i + 1, by simpa using h1, fun j hj => ?_⟩
    match j with
    | 0 => rfl
    | j + 1 => simpa using h2 j (by omega)

/-- does an operation wait for number j? -/
def depB (o : Oper) (j : Nat) : Bool := o.after.any (fun e => Region.binds .any e && e.on == j)
/-- the region is in order: all wait for earlier ones; nothing is guarded -/
def orderlyB (ops : Array Oper) : Bool := (List.range ops.size).all fun i => match ops[i]? with | some o => o.guard == none && o.after.all (fun e => decide (e.on < i)) | none => true

/-- what an operation may know of the frame -/
structure Knows (ds : List (Option Nat)) (base : Act) (Φ : Nat → World → Value → Prop) (o : Oper) (a : Act) (w : World) : Prop where
  new : ∀ (j s : Nat), ds[j]? = some (some s) → depB o j = true → Φ j w (a.tmps.getD s undef)
  old : ∀ s : Nat, (ds.contains (some s)) = false → a.tmps.getD s undef = base.tmps.getD s undef

theorem region_free {id : Nat} {base : Act} {w0 : World} (ds : List (Option Nat)) (Φ : Nat → World → Value → Prop) (G : World → Prop)
    (hm : P.follows .mixedOrders = true) (hds : ops.toList.map (·.dst) = ds) (hap : apartL ds = true) (hin : ds.all (fun d => match d with | some s => decide (s < base.tmps.size) | none => true) = true) (hor : orderlyB ops = true)
    (hΦ : ∀ i w w' x, Below w.heap.size w w' → Φ i w x → Φ i w' x) (hG : ∀ w w', Below w.heap.size w w' → G w → G w') (hG0 : G w0.drew)
    (hstep : ∀ (i : Nat) (o : Oper), ops[i]? = some o → ∀ a w, G w → Knows ds base Φ o a w → ∀ K : Act → World → Prop, (∀ x w', Φ i w' x → Below w.heap.size w w' → K (a.put o.dst x) w') → o.wp P a w K Q)
    (hend : ∀ v w, G w → (∀ i, i < ops.size → Φ i w (v i)) → Q .normal (putAll (fun _ => true) v ds 0 base) w) :
    (Code.region id ops true).wp P Q base w0 := by
  have hor' : ∀ (i : Nat) (o : Oper), ops[i]? = some o → o.guard = none ∧ ∀ e ∈ o.after, e.on < i := by
    intro i o ho
    have h1 := List.all_eq_true.1 hor i (by rw [List.mem_range]; exact (Array.getElem?_eq_some_iff.1 ho).1)
    simp only [ho, Bool.and_eq_true, beq_iff_eq, Array.all_eq_true_iff_forall_mem, decide_eq_true_eq] at h1
    exact h1
  have hdsz : ds.length = ops.size := by rw [← hds]; simp
  have hdst : ∀ (i : Nat) (o : Oper), ops[i]? = some o → ds[i]? = some o.dst := by
    intro i o ho
    rw [← hds, List.getElem?_map, Array.getElem?_toList, ho]; rfl
  have key : ∀ (fuel : Nat) (listed : Array Bool) (a : Act) (w : World), listed.size = ops.size → cntF listed.toList = fuel →
      (∃ v, a = putAll (fun k => listed.getD k false) v ds 0 base ∧ (∀ i, listed.getD i false = true → Φ i w (v i)) ∧ G w) → wpAny P .any ops Q fuel listed a w := by
    intro fuel
    induction fuel with
    | zero =>
      intro listed a w hsz hc ⟨v, ha, hv, hg⟩
      have hall : ∀ i, i < ops.size → listed.getD i false = true := by
        intro i hi
        have := cntF_zero _ hc i (by simpa [hsz] using hi)
        rw [Array.getElem?_toList] at this
        simp [this]
      have hr : Region.ready .any ops listed = [] := by
        rw [List.eq_nil_iff_forall_not_mem]
        intro j hj
        obtain ⟨h0, o, ho, _⟩ := mem_ready.1 hj
        have hlt := (Array.getElem?_eq_some_iff.1 ho).1
        have := hall j hlt
        have hlt' : j < listed.size := by omega
        simp [hlt'] at h0 this
        rw [h0] at this; cases this
      refine ⟨hr, ?_⟩
      have hae : a = putAll (fun _ => true) (v) ds 0 base := by
        rw [ha]
        have : ∀ (es : List (Option Nat)) (k : Nat) (b : Act), k + es.length ≤ ops.size → putAll (fun k => listed.getD k false) v es k b = putAll (fun _ => true) v es k b := by
          intro es
          induction es with
          | nil => intros; rfl
          | cons e es ih =>
            intro k b hk
            rw [putAll, putAll, hall k (by simp at hk; omega), ih (k + 1) _ (by simp at hk; omega)]
        exact this ds 0 base (by omega)
      rw [hae]
      exact hend v w hg (fun i hi => hv i (hall i hi))
    | succ fuel ih =>
      intro listed a w hsz hc ⟨v, ha, hv, hg⟩
      refine ⟨fun hr => ?_, fun i hi => ?_⟩
      · exfalso
        obtain ⟨i, h1, h2⟩ := cntF_pos listed.toList (by omega)
        rw [Array.getElem?_toList] at h1
        have hlt : i < ops.size := by have := (Array.getElem?_eq_some_iff.1 h1).1; omega
        have hmem : i ∈ Region.ready .any ops listed := by
          rw [mem_ready]
          refine ⟨by simp [h1], ops[i], by simp [hlt], fun e he _ => ?_⟩
          have := (hor' i ops[i] (by simp [hlt])).2 e he
          have h3 := h2 e.on this
          rw [Array.getElem?_toList] at h3
          simp [h3]
        rw [hr] at hmem
        cases hmem
      · obtain ⟨h0, o, ho, hall⟩ := mem_ready.1 hi
        have hlt := (Array.getElem?_eq_some_iff.1 ho).1
        have hlt' : i < listed.size := by omega
        have h0' : listed.getD i false = false := by simp [hlt'] at h0 ⊢; exact h0
        unfold wpOp
        rw [ho]
        simp only []
        have hw : Region.wanted o (yielded ops a.tmps) = true := by simp [Region.wanted, (hor' i o ho).1]
        rw [if_pos hw]
        left
        refine hstep i o ho a w hg ⟨fun j s hj hdep => ?_, fun s hs => ?_⟩ _ (fun x w' hx hb => ?_)
        · unfold depB at hdep
          rw [Array.any_eq_true'] at hdep
          obtain ⟨e, he, hb⟩ := hdep
          rw [Bool.and_eq_true, beq_iff_eq] at hb
          have hl := hall e he hb.1
          rw [hb.2] at hl
          have hs : s < base.tmps.size := by
            have := List.all_eq_true.1 hin (some s) (List.mem_of_getElem? hj)
            simpa using this
          rw [ha, putAll_new (v := v) (s := s) (j := j) (l := fun k => listed.getD k false) hl ds 0 base (Nat.zero_le _) (by simpa using hj) hap hs]
          exact hv j hl
        · rw [ha]
          exact putAll_old _ _ ds 0 base (fun h => by
            have : ds.contains (some s) = true := by simpa using h
            rw [hs] at this; cases this)
        · refine ih (listed.setIfInBounds i true) (a.put o.dst x) w' (by simpa using hsz) ?_ ?_
          · have h1 : listed.toList[i]? = some false := by
              rw [Array.getElem?_toList]
              simp [hlt'] at h0' ⊢
              exact h0'
            have := cntF_set listed.toList i h1
            rw [Array.toList_setIfInBounds]
            omega
          · refine ⟨upd v i x, ?_, fun j hj => ?_, hG w w' hb hg⟩
            · rw [ha, putAll_set (l := fun k => listed.getD k false) (v := v) (i := i) (d := o.dst) (x := x) h0' ds 0 base (Nat.zero_le _) (by simpa using hdst i o ho) hap]
              refine putAll_congr ds 0 base (fun j _ => ?_) (fun _ _ => rfl)
              by_cases hji : j = i
              · subst hji; simp [upd, hlt']
              · simp only [upd, if_neg hji]
                exact (getD_set_ne false (Ne.symm hji)).symm
            · by_cases hji : j = i
              · subst hji; simpa [upd] using hx
              · simp only [upd, if_neg hji]
                rw [getD_set_ne false (Ne.symm hji)] at hj
                exact hΦ j w w' (v j) hb (hv j hj)
  refine wp_region_any hm ?_
  refine key ops.size (Array.replicate ops.size false) base w0.drew (by simp) ?_ ⟨fun _ => undef, ?_, fun i hi => ?_, hG0⟩
  · have : ∀ n, cntF (List.replicate n false) = n := by
      intro n
      induction n with
      | zero => rfl
      | succ n ih => simp [List.replicate_succ, cntF, ih]
    simpa using this ops.size
  · have : ∀ (es : List (Option Nat)) (k : Nat) (b : Act), putAll (fun k => (Array.replicate ops.size false).getD k false) (fun _ => undef) es k b = b := by
      intro es
      induction es with
      | nil => intros; rfl
      | cons e es ih =>
        intro k b
        rw [putAll, ih, if_neg]
        simp [Array.getElem?_replicate]
        split <;> simp
    exact (this ds 0 base).symm
  · simp [Array.getElem?_replicate] at hi
    split at hi <;> simp at hi
end

/-- one word for each operation -/
def AllSteps (f : Nat → Oper → Prop) : List Oper → Nat → Prop
  | [], _ => True
  | o :: os, k => f k o ∧ AllSteps f os (k + 1)
theorem AllSteps.at_ {f : Nat → Oper → Prop} : ∀ (os : List Oper) (k : Nat), AllSteps f os k → ∀ (i : Nat) (o : Oper), os[i]? = some o → f (k + i) o
  | [], _, _, _, _, h => by simp at h
  | o' :: os, k, hs, 0, o, h => by simp at h; subst h; exact hs.1
  | o' :: os, k, hs, i + 1, o, h => by
    have := AllSteps.at_ os (k + 1) hs.2 i o (by simpa using h)
    rw [show k + (i + 1) = k + 1 + i by omega]
    exact this
/-- the rule, its steps as one list -/
theorem region_free' {P : Program} {ops : Array Oper} {Q : Exit → Act → World → Prop} {id : Nat} {base : Act} {w0 : World} (ds : List (Option Nat)) (Φ : Nat → World → Value → Prop) (G : World → Prop)
    (hm : P.follows .mixedOrders = true) (hds : ops.toList.map (·.dst) = ds) (hap : apartL ds = true) (hin : ds.all (fun d => match d with | some s => decide (s < base.tmps.size) | none => true) = true) (hor : orderlyB ops = true)
    (hΦ : ∀ i w w' x, Below w.heap.size w w' → Φ i w x → Φ i w' x) (hG : ∀ w w', Below w.heap.size w w' → G w → G w') (hG0 : G w0.drew)
    (hstep : AllSteps (fun i o => ∀ a w, G w → Knows ds base Φ o a w → ∀ K : Act → World → Prop, (∀ x w', Φ i w' x → Below w.heap.size w w' → K (a.put o.dst x) w') → o.wp P a w K Q) ops.toList 0)
    (hend : ∀ v w, G w → (∀ i, i < ops.size → Φ i w (v i)) → Q .normal (putAll (fun _ => true) v ds 0 base) w) :
    (Code.region id ops true).wp P Q base w0 :=
  region_free ds Φ G hm hds hap hin hor hΦ hG hG0 (fun i o ho => by
    have := AllSteps.at_ ops.toList 0 hstep i o (by rw [Array.getElem?_toList]; exact ho)
    rw [Nat.zero_add] at this
    exact this) hend
/-- every operation but the last one is waited for by a later one -/
def coversB (ops : Array Oper) : Bool := (List.range (ops.size - 1)).all fun i => (List.range ops.size).any fun j => decide (i < j) && (match ops[j]? with | some o => depB o i | none => false)
theorem putAll_last (l : Nat → Bool) (v : Nat → Value) (d : Option Nat) : ∀ (es : List (Option Nat)) (k : Nat) (b : Act), (∀ i, k ≤ i → i < k + es.length → l i = true) → l (k + es.length) = false → putAll l v (es ++ [d]) k b = putAll (fun _ => true) v es k b
  | [], k, b, _, h => by simp [putAll] at h ⊢; intro h2; rw [h] at h2; cases h2
  | e :: es, k, b, h1, h2 => by
    rw [List.cons_append, putAll, putAll, h1 k (Nat.le_refl k) (by simp), putAll_last l v d es (k + 1) _ (fun i hi hi2 => h1 i (by omega) (by simp at hi2 ⊢; omega)) (by rw [← h2]; congr 1; simp; omega)]

/-- the rule where one operation comes last, whatever the order of the others -/
theorem region_tail {P : Program} {ops : Array Oper} {Q : Exit → Act → World → Prop} {id : Nat} {base : Act} {w0 : World} (es : List (Option Nat)) (d : Option Nat) (ol : Oper) (os : List Oper) (Φ : Nat → World → Value → Prop) (G : World → Prop)
    (hm : P.follows .mixedOrders = true) (hops : ops.toList = os ++ [ol]) (hds : os.map (·.dst) = es) (hdl : ol.dst = d) (hap : apartL es = true) (hin : es.all (fun d => match d with | some s => decide (s < base.tmps.size) | none => true) = true) (hor : orderlyB ops = true) (hcv : coversB ops = true)
    (hΦ : ∀ i w w' x, Below w.heap.size w w' → Φ i w x → Φ i w' x) (hG : ∀ w w', Below w.heap.size w w' → G w → G w') (hG0 : G w0.drew)
    (hstep : AllSteps (fun i o => ∀ a w, G w → Knows es base Φ o a w → ∀ K : Act → World → Prop, (∀ x w', Φ i w' x → Below w.heap.size w w' → K (a.put o.dst x) w') → o.wp P a w K Q) os 0)
    (hlast : ∀ v w, G w → (∀ i, i < os.length → Φ i w (v i)) → ol.wp P (putAll (fun _ => true) v es 0 base) w (fun a w => Q .normal a w) Q) :
    (Code.region id ops true).wp P Q base w0 := by
  have hsize : ops.size = os.length + 1 := by
    have := congrArg List.length hops
    simpa using this
  have hget : ∀ (i : Nat), i < os.length → ops[i]? = os[i]? := by
    intro i hi
    rw [← Array.getElem?_toList, hops, List.getElem?_append_left hi]
  have hgl : ops[os.length]? = some ol := by
    rw [← Array.getElem?_toList, hops]; simp
  have hor' : ∀ (i : Nat) (o : Oper), ops[i]? = some o → o.guard = none ∧ ∀ e ∈ o.after, e.on < i := by
    intro i o ho
    have h1 := List.all_eq_true.1 hor i (by rw [List.mem_range]; exact (Array.getElem?_eq_some_iff.1 ho).1)
    simp only [ho, Bool.and_eq_true, beq_iff_eq, Array.all_eq_true_iff_forall_mem, decide_eq_true_eq] at h1
    exact h1
  have hcv' : ∀ i, i < os.length → ∃ j o, i < j ∧ ops[j]? = some o ∧ depB o i = true := by
    intro i hi
    have h1 := List.all_eq_true.1 hcv i (by rw [List.mem_range]; omega)
    obtain ⟨j, _, hj⟩ := List.any_eq_true.1 h1
    rw [Bool.and_eq_true, decide_eq_true_eq] at hj
    cases ho : ops[j]? with
    | none => rw [ho] at hj; cases hj.2
    | some o => rw [ho] at hj; exact ⟨j, o, hj.1, ho, hj.2⟩
  have hel : es.length = os.length := by rw [← hds]; simp
  have hdst : ∀ (i : Nat) (o : Oper), i < os.length → ops[i]? = some o → es[i]? = some o.dst := by
    intro i o hi ho
    rw [hget i hi] at ho
    rw [← hds, List.getElem?_map, ho]; rfl
  have depOn : ∀ (o : Oper) (j : Nat) (listed : Array Bool), depB o j = true → (∀ e ∈ o.after, Region.binds .any e = true → listed.getD e.on false = true) → listed.getD j false = true := by
    intro o j listed hdep hall
    unfold depB at hdep
    rw [Array.any_eq_true'] at hdep
    obtain ⟨e, he, hb⟩ := hdep
    rw [Bool.and_eq_true, beq_iff_eq] at hb
    have hl := hall e he hb.1
    rw [hb.2] at hl
    exact hl
  have key : ∀ (fuel : Nat) (listed : Array Bool) (a : Act) (w : World), listed.size = ops.size → cntF listed.toList = fuel + 1 → listed.getD os.length false = false →
      (∀ (j : Nat) (o : Oper), ops[j]? = some o → listed.getD j false = true → ∀ e ∈ o.after, Region.binds .any e = true → listed.getD e.on false = true) →
      (∃ v, a = putAll (fun k => listed.getD k false) v es 0 base ∧ (∀ i, listed.getD i false = true → Φ i w (v i)) ∧ G w) → wpAny P .any ops Q (fuel + 1) listed a w := by
    intro fuel
    induction fuel with
    | zero =>
      intro listed a w hsz hc hlast0 hdown ⟨v, ha, hv, hg⟩
      have h1 : listed.toList[os.length]? = some false := by
        rw [Array.getElem?_toList]
        have hlt' : os.length < listed.size := by omega
        simp [hlt'] at hlast0 ⊢
        exact hlast0
      have hc2 := cntF_set listed.toList os.length h1
      have hall : ∀ i, i < os.length → listed.getD i false = true := by
        intro i hi
        have := cntF_zero (listed.toList.set os.length true) (by omega) i (by simp; omega)
        rw [List.getElem?_set_ne (by omega), Array.getElem?_toList] at this
        simp [this]
      refine ⟨fun hr => ?_, fun i hi => ?_⟩
      · exfalso
        have hmem : os.length ∈ Region.ready .any ops listed := by
          rw [mem_ready]
          refine ⟨by rw [Array.getElem?_toList] at h1; simp [h1], ol, hgl, fun e he _ => ?_⟩
          exact hall _ ((hor' _ ol hgl).2 e he)
        rw [hr] at hmem
        cases hmem
      · obtain ⟨h0, o, ho, _⟩ := mem_ready.1 hi
        have hlt := (Array.getElem?_eq_some_iff.1 ho).1
        have hio : i = os.length := by
          rcases Nat.lt_or_ge i os.length with h | h
          · have := hall i h
            have hlt' : i < listed.size := by omega
            simp [hlt'] at h0 this
            rw [h0] at this; cases this
          · omega
        subst hio
        rw [hgl] at ho
        cases ho
        unfold wpOp
        rw [hgl]
        simp only []
        have hw : Region.wanted ol (yielded ops a.tmps) = true := by simp [Region.wanted, (hor' _ ol hgl).1]
        rw [if_pos hw]
        left
        have hae : a = putAll (fun _ => true) v es 0 base := by
          rw [ha]
          have : ∀ (fs : List (Option Nat)) (k : Nat) (b : Act), k + fs.length ≤ os.length → putAll (fun k => listed.getD k false) v fs k b = putAll (fun _ => true) v fs k b := by
            intro fs
            induction fs with
            | nil => intros; rfl
            | cons e fs ih =>
              intro k b hk
              rw [putAll, putAll, hall k (by simp at hk; omega), ih (k + 1) _ (by simp at hk; omega)]
          exact this es 0 base (by omega)
        rw [hae]
        refine Oper.wp_mono (fun a' w' hq => ?_) (hlast v w hg (fun i hi => hv i (hall i hi)))
        refine ⟨?_, hq⟩
        rw [List.eq_nil_iff_forall_not_mem]
        intro j hj
        obtain ⟨h0, o, ho, _⟩ := mem_ready.1 hj
        have hlt := (Array.getElem?_eq_some_iff.1 ho).1
        by_cases hjo : j = os.length
        · subst hjo
          have hlt' : os.length < listed.size := by omega
          simp [hlt'] at h0
        · rw [getD_set_ne true (Ne.symm hjo)] at h0
          have := hall j (by omega)
          have hlt' : j < listed.size := by omega
          simp [hlt'] at h0 this
          rw [h0] at this; cases this
    | succ fuel ih =>
      intro listed a w hsz hc hlast0 hdown ⟨v, ha, hv, hg⟩
      refine ⟨fun hr => ?_, fun i hi => ?_⟩
      · exfalso
        obtain ⟨i, h1, h2⟩ := cntF_pos listed.toList (by omega)
        rw [Array.getElem?_toList] at h1
        have hlt : i < ops.size := by have := (Array.getElem?_eq_some_iff.1 h1).1; omega
        have hmem : i ∈ Region.ready .any ops listed := by
          rw [mem_ready]
          refine ⟨by simp [h1], ops[i], by simp [hlt], fun e he _ => ?_⟩
          have := (hor' i ops[i] (by simp [hlt])).2 e he
          have h3 := h2 e.on this
          rw [Array.getElem?_toList] at h3
          simp [h3]
        rw [hr] at hmem
        cases hmem
      · obtain ⟨h0, o, ho, hall⟩ := mem_ready.1 hi
        have hlt := (Array.getElem?_eq_some_iff.1 ho).1
        have hlt' : i < listed.size := by omega
        have h0' : listed.getD i false = false := by simp [hlt'] at h0 ⊢; exact h0
        have hil : i < os.length := by
          rcases Nat.lt_or_ge i os.length with h | h
          · exact h
          · exfalso
            have hio : i = os.length := by omega
            subst hio
            have hall2 : ∀ n k, os.length = k + n → listed.getD k false = true ∨ k = os.length := by
              intro n
              induction n using Nat.strongRecOn with
              | _ n ihn =>
                intro k hk
                by_cases hk0 : n = 0
                · right; omega
                · left
                  obtain ⟨j, oj, hij, hoj, hdep⟩ := hcv' k (by omega)
                  have hjl := (Array.getElem?_eq_some_iff.1 hoj).1
                  rcases ihn (os.length - j) (by omega) j (by omega) with hj | hj
                  · exact depOn oj k listed hdep (hdown j oj hoj hj)
                  · subst hj
                    rw [hoj] at ho
                    cases ho
                    exact depOn _ k listed hdep hall
            have hone : cntF listed.toList ≤ 1 := by
              have h1 : listed.toList[os.length]? = some false := by
                rw [Array.getElem?_toList]
                simp [hlt'] at h0' ⊢
                exact h0'
              have hset := cntF_set listed.toList os.length h1
              rcases Nat.eq_zero_or_pos (cntF (listed.toList.set os.length true)) with hz | hz
              · omega
              · exfalso
                obtain ⟨k, hk1, _⟩ := cntF_pos (listed.toList.set os.length true) (by omega)
                have hkl : k < listed.size := by
                  have := (List.getElem?_eq_some_iff.1 hk1).1
                  simpa using this
                by_cases hko : k = os.length
                · subst hko
                  rw [List.getElem?_set_self (by simpa using hkl)] at hk1
                  cases hk1
                · rw [List.getElem?_set_ne (Ne.symm hko), Array.getElem?_toList] at hk1
                  rcases hall2 (os.length - k) k (by omega) with hh | hh
                  · simp [hk1] at hh
                  · exact hko hh
            omega
        unfold wpOp
        rw [ho]
        simp only []
        have hw : Region.wanted o (yielded ops a.tmps) = true := by simp [Region.wanted, (hor' i o ho).1]
        rw [if_pos hw]
        left
        have hst := AllSteps.at_ os 0 hstep i o (by rw [← hget i hil]; exact ho)
        rw [Nat.zero_add] at hst
        refine hst a w hg ⟨fun j s hj hdep => ?_, fun s hs => ?_⟩ _ (fun x w' hx hb => ?_)
        · have hl := depOn o j listed hdep hall
          have hs : s < base.tmps.size := by
            have := List.all_eq_true.1 hin (some s) (List.mem_of_getElem? hj)
            simpa using this
          rw [ha, putAll_new (v := v) (s := s) (j := j) (l := fun k => listed.getD k false) hl es 0 base (Nat.zero_le _) (by simpa using hj) hap hs]
          exact hv j hl
        · rw [ha]
          exact putAll_old _ _ es 0 base (fun h => by
            have : es.contains (some s) = true := by simpa using h
            rw [hs] at this; cases this)
        · refine ih (listed.setIfInBounds i true) (a.put o.dst x) w' (by simpa using hsz) ?_ ?_ ?_ ?_
          · have h1 : listed.toList[i]? = some false := by
              rw [Array.getElem?_toList]
              simp [hlt'] at h0' ⊢
              exact h0'
            have := cntF_set listed.toList i h1
            rw [Array.toList_setIfInBounds]
            omega
          · rw [getD_set_ne false (by omega)]; exact hlast0
          · intro j oj hoj hj e he hb
            by_cases hji : j = i
            · subst hji
              rw [hoj] at ho
              cases ho
              exact getD_set_true (hall e he hb)
            · rw [getD_set_ne false (Ne.symm hji)] at hj
              exact getD_set_true (hdown j oj hoj hj e he hb)
          · refine ⟨upd v i x, ?_, fun j hj => ?_, hG w w' hb hg⟩
            · rw [ha, putAll_set (l := fun k => listed.getD k false) (v := v) (i := i) (d := o.dst) (x := x) h0' es 0 base (Nat.zero_le _) (by simpa using hdst i o hil ho) hap]
              refine putAll_congr es 0 base (fun j _ => ?_) (fun _ _ => rfl)
              by_cases hji : j = i
              · subst hji; simp [upd, hlt']
              · simp only [upd, if_neg hji]
                exact (getD_set_ne false (Ne.symm hji)).symm
            · by_cases hji : j = i
              · subst hji; simpa [upd] using hx
              · simp only [upd, if_neg hji]
                rw [getD_set_ne false (Ne.symm hji)] at hj
                exact hΦ j w w' (v j) hb (hv j hj)
  refine wp_region_any hm ?_
  have h0 : ∀ k, (Array.replicate ops.size false).getD k false = false := by
    intro k
    simp [Array.getElem?_replicate]
    split <;> simp
  rw [hsize] at *
  refine key os.length (Array.replicate (os.length + 1) false) base w0.drew (by rw [Array.size_replicate, hsize]) ?_ (h0 _) (fun j o _ hj => by rw [h0 j] at hj; cases hj) ⟨fun _ => undef, ?_, (fun i hi => by rw [h0 i] at hi; cases hi), hG0⟩
  · have : ∀ n, cntF (List.replicate n false) = n := by
      intro n
      induction n with
      | zero => rfl
      | succ n ih => simp [List.replicate_succ, cntF, ih]
    simpa using this (os.length + 1)
  · have : ∀ (fs : List (Option Nat)) (k : Nat) (b : Act), putAll (fun k => (Array.replicate (os.length + 1) false).getD k false) (fun _ => undef) fs k b = b := by
      intro fs
      induction fs with
      | nil => intros; rfl
      | cons e fs ih =>
        intro k b
        rw [putAll, ih, h0 k]
        rfl
    exact (this es 0 base).symm
/-- a goal that is not looked into -/
structure Last (p : Prop) : Prop where
  out : p
/-- the last one, so that the unifier comes to it itself -/
def lastO : List Oper → Option Oper
  | [] => none
  | [a] => some a
  | _ :: b :: l => lastO (b :: l)
theorem lastO_eq : ∀ l : List Oper, lastO l = l.getLast?
  | [] => rfl
  | [a] => rfl
  | a :: b :: l => by
    rw [lastO, lastO_eq (b :: l)]
    rfl
/-- the same, the operations taken from the region itself -/
theorem region_tail' {P : Program} {ops : Array Oper} {Q : Exit → Act → World → Prop} {id : Nat} {base : Act} {w0 : World} (es : List (Option Nat)) (Φ : Nat → World → Value → Prop) (G : World → Prop) {ol : Oper} (hl0 : lastO ops.toList = some ol)
    (hm : P.follows .mixedOrders = true) (hds : ops.toList.dropLast.map (·.dst) = es) (hap : apartL es = true) (hin : es.all (fun d => match d with | some s => decide (s < base.tmps.size) | none => true) = true) (hor : orderlyB ops = true) (hcv : coversB ops = true)
    (hΦ : ∀ i w w' x, Below w.heap.size w w' → Φ i w x → Φ i w' x) (hG : ∀ w w', Below w.heap.size w w' → G w → G w') (hG0 : G w0.drew)
    (hstep : AllSteps (fun i o => ∀ a w, G w → Knows es base Φ o a w → ∀ K : Act → World → Prop, (∀ x w', Φ i w' x → Below w.heap.size w w' → K (a.put o.dst x) w') → o.wp P a w K Q) ops.toList.dropLast 0)
    (hlast : ∀ v w, G w → (∀ i, i + 1 < ops.size → Φ i w (v i)) → Last (ol.wp P (putAll (fun _ => true) v es 0 base) w (fun a w => Q .normal a w) Q)) :
    (Code.region id ops true).wp P Q base w0 := by
  have hl : ops.toList.getLast? = some ol := by rw [← lastO_eq]; exact hl0
  have hne : ops.toList ≠ [] := fun h => by rw [h] at hl; cases hl
  have hops : ops.toList = ops.toList.dropLast ++ [ol] := by
    rw [List.getLast?_eq_some_getLast hne] at hl
    have h2 := List.dropLast_concat_getLast hne
    rw [Option.some.inj hl] at h2
    exact h2.symm
  refine region_tail es ol.dst ol ops.toList.dropLast Φ G hm hops hds rfl hap hin hor hcv hΦ hG hG0 hstep (fun v w hg hv => (hlast v w hg (fun i hi => hv i ?_)).out)
  rw [List.length_dropLast, Array.length_toList]
  omega
theorem wp_of_run {P : Program} {o : Oper} {a : Act} {w w' : World} {K : Act → World → Prop} {Q : Exit → Act → World → Prop} {x : Value} (hr : (execOp a.eval o).run P w = .ok (.value x) w') (hK : K (a.put o.dst x) w') : o.wp P a w K Q := by
  unfold Oper.wp
  rw [hr]
  exact hK
theorem wp_of_call {P : Program} {o : Oper} {a : Act} {w : World} {K : Act → World → Prop} {Q : Exit → Act → World → Prop} {f : FuncId} {args : Array Value} (hr : (execOp a.eval o).run P w = .ok (.enter f args) w) (hc : Calls P f args w fun e w' => ∃ x, e = .returned x ∧ K (a.put o.dst x) w') : o.wp P a w K Q := by
  unfold Oper.wp
  rw [hr, Oper.upon_enter]
  refine hc.mono ?_
  rintro e w' ⟨x, rfl, hx⟩
  exact hx

end Go.Proofs.YtfdadebddfhpdaaDoor
