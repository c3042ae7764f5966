/-
  A drawn region, whatever the order: each operation has what it answers described by a relation of its own, and each is looked at once. No enumeration of orders.
  A drawn region, whatever the order, whose last operations (from number m on) wait for all ahead of them and may write what those have laid.
-/
import Derived.Test.YtjbjnndmpheedaaA5
namespace Go.Proofs.Ytjbjnndmpheedaa
open Go.RowKit
set_option linter.unusedVariables false

def upV (vs : Nat → Value) (i : Nat) (v : Value) : Nat → Value := fun j => if j = i then v else vs j
theorem upV_same (vs : Nat → Value) (i : Nat) (v : Value) : upV vs i v i = v := by unfold upV; rw [if_pos rfl]
theorem upV_ne (vs : Nat → Value) {i j : Nat} (v : Value) (h : j ≠ i) : upV vs i v j = vs j := by unfold upV; rw [if_neg h]
/-- How many are not listed yet. -/
def openN (listed : Array Bool) (n : Nat) : Nat := (List.range n).countP fun j => !listed.getD j true
theorem openN_zero {listed : Array Bool} {n : Nat} (h : openN listed n = 0) : ∀ j, j < n → listed.getD j true = true := by
  intro j hj
  unfold openN at h
  rw [List.countP_eq_zero] at h
  have := h j (List.mem_range.2 hj)
  simpa using this
theorem getD_setT {l : Array Bool} {i j : Nat} (h : j ≠ i) : (l.setIfInBounds i true).getD j true = l.getD j true := by
  exact getD_set_ne true (Ne.symm h)
theorem getD_setS {l : Array Bool} {i : Nat} : (l.setIfInBounds i true).getD i true = true := by
  by_cases h : i < l.size <;> simp [h]
theorem getD_both {l : Array Bool} {i : Nat} (hi : i < l.size) (h : l.getD i true = true) : l.getD i false = true := by
  simp only [Array.getD, hi, dif_pos] at *
  exact h
theorem getD_mono {l : Array Bool} {i : Nat} (h : l.getD i false = true) : l.getD i true = true := by
  by_cases hi : i < l.size
  · simp only [Array.getD, hi, dif_pos] at *
    exact h
  · simp [Array.getD, hi]
theorem countP_lt {p q : Nat → Bool} {i : Nat} (hp : p i = true) (hq : q i = false) : ∀ (l : List Nat), (∀ j ∈ l, q j = true → p j = true) → i ∈ l → l.countP q < l.countP p
  | [], _, h => by cases h
  | a :: l, hs, h => by
    have hle : ∀ (l : List Nat), (∀ j ∈ l, q j = true → p j = true) → l.countP q ≤ l.countP p := fun l hs => List.countP_mono_left hs
    rcases List.mem_cons.1 h with e | e
    · subst e
      rw [List.countP_cons_of_pos hp, List.countP_cons_of_neg (by rw [hq]; simp)]
      have := hle l fun j hj => hs j (List.mem_cons_of_mem _ hj)
      omega
    · have ih := countP_lt hp hq l (fun j hj => hs j (List.mem_cons_of_mem _ hj)) e
      by_cases hqa : q a = true
      · rw [List.countP_cons_of_pos hqa, List.countP_cons_of_pos (hs a (List.mem_cons_self ..) hqa)]
        omega
      · rw [List.countP_cons_of_neg hqa]
        have : l.countP p ≤ (a :: l).countP p := by rw [List.countP_cons]; omega
        omega
section
variable {P : Program} {ops : Array Oper} {Q : Exit → Act → World → Prop} {S : World → Prop} {R : Nat → (Nat → Value) → World → Prop} {A : (Nat → Value) → Act} {n : Nat}
/-- Operation number j waits for number k. -/
def waitsFor (o : Oper) (k : Nat) : Bool := o.after.any fun e => Region.binds .any e && e.on == k
theorem waitsFor_spec {o : Oper} {k : Nat} (h : waitsFor o k = true) : ∃ e ∈ o.after, Region.binds .any e = true ∧ e.on = k := by
  unfold waitsFor at h
  rw [Array.any_eq_true] at h
  obtain ⟨i, hi, h⟩ := h
  simp only [Bool.and_eq_true, beq_iff_eq] at h
  exact ⟨o.after[i], Array.getElem_mem hi, h⟩
/-- What is asked of each operation. -/
def StepR (P : Program) (ops : Array Oper) (Q : Exit → Act → World → Prop) (S : World → Prop) (R : Nat → (Nat → Value) → World → Prop) (A : (Nat → Value) → Act) (n : Nat) (i : Nat) (o : Oper) : Prop :=
  ∀ (L : Nat → Bool) (vs : Nat → Value) (w : World), L i = false → (∀ k, waitsFor o k = true → L k = true) → (∀ j o', ops[j]? = some o' → L j = true → ∀ k, waitsFor o' k = true → L k = true) → S w → (∀ j, j < n → L j = true → R j vs w) →
    ∀ K : Act → World → Prop, Shut (∀ v w', S w' → (∀ j, j < n → j ≠ i → L j = true → R j (upV vs i v) w') → R i (upV vs i v) w' → K ((A vs).put o.dst v) w') →
      if Region.wanted o (yielded ops (A vs).tmps) = true then Oper.wp P o (A vs) w K Q else K ((A vs).put o.dst undef) w
theorem wpAny_R (hn : ops.size = n) (hac : (ops.toList.zipIdx.all fun p => p.1.after.toList.all fun e => !Region.binds .any e || decide (e.on < p.2)) = true)
    (hput : ∀ i o, ops[i]? = some o → ∀ vs v, (A vs).put o.dst v = A (upV vs i v))
    (hstep : ∀ i o, ops[i]? = some o → StepR P ops Q S R A n i o)
    (hend : ∀ vs w, S w → (∀ j, j < n → R j vs w) → Q .normal (A vs) w) :
    ∀ (fuel : Nat) (listed : Array Bool) (vs : Nat → Value) (w : World), listed.size = n → (∀ j o', ops[j]? = some o' → listed.getD j true = true → ∀ k, waitsFor o' k = true → listed.getD k true = true) → S w → (∀ j, j < n → listed.getD j true = true → R j vs w) → openN listed n ≤ fuel → wpAny P .any ops Q fuel listed (A vs) w := by
  have hac' : ∀ (i : Nat) (o : Oper), ops[i]? = some o → ∀ e ∈ o.after, Region.binds .any e = true → e.on < i := fun i o ho e he hbe => by
    rw [List.all_eq_true] at hac
    have hm : (o, i) ∈ ops.toList.zipIdx := by
      rw [List.mem_zipIdx_iff_getElem?]
      simpa using ho
    have h1 := hac _ hm
    rw [List.all_eq_true] at h1
    have h2 := h1 e (by simpa using he)
    rw [hbe] at h2
    simpa using h2
  have all : ∀ listed : Array Bool, listed.size = n → Region.ready .any ops listed = [] → ∀ j, j < n → listed.getD j true = true   := fun listed hsz hr j => by
    induction j using Nat.strongRecOn with
    | ind j ih =>
      intro hj
      by_cases h : listed.getD j true = true
      · exact h
      · have ho : ops[j]? = some ops[j] := Array.getElem?_eq_getElem (by omega)
        have : j ∈ Region.ready .any ops listed := mem_ready.2 ⟨by simpa using h, _, ho, fun e he hbe => by
          have h1 := hac' _ _ ho e he hbe
          have h2 := ih e.on h1 (by omega)
          exact getD_both (by omega) h2⟩
        rw [hr] at this
        cases this
  intro fuel
  induction fuel with
  | zero =>
    intro listed vs w hsz hcl hS hR hf
    have h1 := openN_zero (Nat.le_zero.1 hf)
    refine ⟨?_, hend vs w hS fun j hj => hR j hj (h1 j hj)⟩
    cases hr : Region.ready .any ops listed with
    | nil => rfl
    | cons a l =>
      have ha : a ∈ Region.ready .any ops listed := by rw [hr]; exact List.mem_cons_self ..
      obtain ⟨h2, o, ho, _⟩ := mem_ready.1 ha
      have ha2 : a < n := by rw [← hn]; exact (Array.getElem?_eq_some_iff.1 ho).1
      rw [h1 a ha2] at h2
      cases h2
  | succ fuel ih =>
    intro listed vs w hsz hcl hS hR hf
    refine ⟨fun hr => hend vs w hS fun j hj => hR j hj (all listed hsz hr j hj), fun i hi => ?_⟩
    obtain ⟨h2, o, ho, hd⟩ := mem_ready.1 hi
    have hin : i < n := by rw [← hn]; exact (Array.getElem?_eq_some_iff.1 ho).1
    refine wpOp_step ho fun K' hK => hstep i o ho (fun j => listed.getD j true) vs w h2 (fun k hk => ?_) hcl hS hR K' (fun v w' hS' hR' hv => ?_)
    · obtain ⟨e, he, hb, rfl⟩ := waitsFor_spec hk
      exact getD_mono (hd e he hb)
    · refine hK _ _ ?_
      rw [hput i o ho vs v]
      refine ih _ _ _ (by simpa using hsz) (fun j o' ho' hl k hk => ?_) hS' (fun j hj hl => ?_) ?_
      · by_cases ek : k = i
        · rw [ek]
          exact getD_setS
        · rw [getD_setT ek]
          by_cases e : j = i
          · subst e
            rw [ho] at ho'
            obtain rfl := Option.some.inj ho'
            obtain ⟨e, he, hb, rfl⟩ := waitsFor_spec hk
            exact getD_mono (hd e he hb)
          · rw [getD_setT e] at hl
            exact hcl j o' ho' hl k hk
      · by_cases e : j = i
        · subst e
          exact hv
        · rw [getD_setT e] at hl
          exact hR' j hj e hl
      · have : openN (listed.setIfInBounds i true) n < openN listed n := by
          unfold openN
          refine countP_lt (i := i) (by rw [h2]; rfl) (by rw [getD_setS]; rfl) _ (fun j _ hj => ?_) (List.mem_range.2 hin)
          by_cases e : j = i
          · subst e
            rw [h2]
            rfl
          · rw [getD_setT e] at hj
            exact hj
        omega
theorem wp_region_R {id : Nat} {w : World} (A : (Nat → Value) → Act) (vs : Nat → Value) (R : Nat → (Nat → Value) → World → Prop) (S : World → Prop) (n : Nat) (hm : P.follows .mixedOrders = true) (hn : ops.size = n) (hac : (ops.toList.zipIdx.all fun p => p.1.after.toList.all fun e => !Region.binds .any e || decide (e.on < p.2)) = true)
    (hput : ∀ i o, ops[i]? = some o → ∀ vs v, (A vs).put o.dst v = A (upV vs i v))
    (hS : S w.drew) (hstep : ∀ i o, ops[i]? = some o → StepR P ops Q S R A n i o)
    (hend : ∀ vs w, S w → (∀ j, j < n → R j vs w) → Q .normal (A vs) w) {a : Act} (ha : a = A vs) : (Code.region id ops true).wp P Q a w := by
  subst ha
  refine wp_region_any hm (wpAny_R hn hac hput hstep hend _ _ _ _ (by simp [hn]) (fun j o' ho' h => ?_) hS (fun j hj h => ?_) ?_)
  · have hj : j < n := by rw [← hn]; exact (Array.getElem?_eq_some_iff.1 ho').1
    have : (Array.replicate ops.size false).getD j true = false := by simp [hn, hj]
    rw [this] at h
    cases h
  · have : (Array.replicate ops.size false).getD j true = false := by simp [hn, hj]
    rw [this] at h
    cases h
  · unfold openN
    rw [hn]
    exact Nat.le_trans List.countP_le_length (by simp)
/-- The same, with the operations named by their place. -/
theorem wp_region_S {id : Nat} {w : World} (A : (Nat → Value) → Act) (vs : Nat → Value) (R : Nat → (Nat → Value) → World → Prop) (S : World → Prop) (n : Nat) (hm : P.follows .mixedOrders = true) (hn : ops.size = n) (hac : (ops.toList.zipIdx.all fun p => p.1.after.toList.all fun e => !Region.binds .any e || decide (e.on < p.2)) = true)
    (hput : ∀ i, i < n → ∀ o, (ops.toList.drop i).head? = some o → ∀ vs v, (A vs).put o.dst v = A (upV vs i v))
    (hS : S w.drew) (hstep : ∀ i, i < n → ∀ o, (ops.toList.drop i).head? = some o → StepR P ops Q S R A n i o)
    (hend : ∀ vs w, S w → (∀ j, j < n → R j vs w) → Q .normal (A vs) w) {a : Act} (ha : a = A vs) : (Code.region id ops true).wp P Q a w := by
  have hlt : ∀ (i : Nat) (o : Oper), ops[i]? = some o → i < n ∧ (ops.toList.drop i).head? = some o := fun i o ho => by
    refine ⟨by rw [← hn]; exact (Array.getElem?_eq_some_iff.1 ho).1, ?_⟩
    rw [List.head?_drop]
    simpa using ho
  exact wp_region_R A vs R S n hm hn hac (fun i o ho => hput i (hlt i o ho).1 o (hlt i o ho).2) hS (fun i o ho => hstep i (hlt i o ho).1 o (hlt i o ho).2) hend ha
end
end Go.Proofs.Ytjbjnndmpheedaa
namespace Go.Proofs.Ytjbjnndmpheedaa
open Go.RowKit
set_option linter.unusedVariables false

section
variable {P : Program} {ops : Array Oper} {Q : Exit → Act → World → Prop} {S : World → Prop} {R : Nat → (Nat → Value) → World → Prop} {A : (Nat → Value) → Act} {n m : Nat}
/-- What is asked of an operation ahead of number m. -/
def StepN (P : Program) (ops : Array Oper) (Q : Exit → Act → World → Prop) (S : World → Prop) (R : Nat → (Nat → Value) → World → Prop) (A : (Nat → Value) → Act) (m : Nat) (vs0 : Nat → Value) (i : Nat) (o : Oper) : Prop :=
  ∀ (L : Nat → Bool) (vs : Nat → Value) (w : World), L i = false → (∀ j, j < m → L j = false → vs j = vs0 j) → (∀ k, waitsFor o k = true → L k = true) → S w → (∀ j, j < m → L j = true → R j vs w) →
    ∀ K : Act → World → Prop, Shut (∀ v w', S w' → (∀ j, j < m → j ≠ i → L j = true → R j (upV vs i v) w') → R i (upV vs i v) w' → K ((A vs).put o.dst v) w') →
      if Region.wanted o (yielded ops (A vs).tmps) = true then Oper.wp P o (A vs) w K Q else K ((A vs).put o.dst undef) w
/-- What is asked of one of the last. -/
def StepT (P : Program) (ops : Array Oper) (Q : Exit → Act → World → Prop) (S : World → Prop) (R : Nat → (Nat → Value) → World → Prop) (A : (Nat → Value) → Act) (m : Nat) (i : Nat) (o : Oper) : Prop :=
  ∀ (vs : Nat → Value) (w : World), S w → (i = m → ∀ j, j < m → R j vs w) → (m < i → R (i - 1) vs w) →
    ∀ K : Act → World → Prop, Shut (∀ v w', S w' → R i (upV vs i v) w' → K ((A vs).put o.dst v) w') →
      if Region.wanted o (yielded ops (A vs).tmps) = true then Oper.wp P o (A vs) w K Q else K ((A vs).put o.dst undef) w
theorem wpAny_T {vs0 : Nat → Value} (hn : ops.size = n) (hmn : m < n) (hac : (ops.toList.zipIdx.all fun p => p.1.after.toList.all fun e => !Region.binds .any e || decide (e.on < p.2)) = true)
    (hsp : ∀ (i : Nat) (o : Oper), ops[i]? = some o → m ≤ i → ∀ j, j < i → waitsFor o j = true)
    (hput : ∀ i o, ops[i]? = some o → ∀ vs v, (A vs).put o.dst v = A (upV vs i v))
    (hstepN : ∀ i o, i < m → ops[i]? = some o → StepN P ops Q S R A m vs0 i o)
    (hstepT : ∀ i o, m ≤ i → ops[i]? = some o → StepT P ops Q S R A m i o)
    (hend : ∀ vs w, S w → R (n - 1) vs w → Q .normal (A vs) w) :
    ∀ (fuel : Nat) (listed : Array Bool) (vs : Nat → Value) (w : World), listed.size = n → (∀ j, j < n → listed.getD j true = false → vs j = vs0 j) → (∀ j o', ops[j]? = some o' → listed.getD j true = true → ∀ k, waitsFor o' k = true → listed.getD k true = true) → S w → (∀ j, j < n → listed.getD j true = true → (∀ s, m ≤ s → j < s → s < n → listed.getD s true = false) → R j vs w) → openN listed n ≤ fuel → wpAny P .any ops Q fuel listed (A vs) w := by
  have hac' : ∀ (i : Nat) (o : Oper), ops[i]? = some o → ∀ e ∈ o.after, Region.binds .any e = true → e.on < i := fun i o ho e he hbe => by
    rw [List.all_eq_true] at hac
    have hm : (o, i) ∈ ops.toList.zipIdx := by
      rw [List.mem_zipIdx_iff_getElem?]
      simpa using ho
    have h1 := hac _ hm
    rw [List.all_eq_true] at h1
    have h2 := h1 e (by simpa using he)
    rw [hbe] at h2
    simpa using h2
  have all : ∀ listed : Array Bool, listed.size = n → Region.ready .any ops listed = [] → ∀ j, j < n → listed.getD j true = true   := fun listed hsz hr j => by
    induction j using Nat.strongRecOn with
    | ind j ih =>
      intro hj
      by_cases h : listed.getD j true = true
      · exact h
      · have ho : ops[j]? = some ops[j] := Array.getElem?_eq_getElem (by omega)
        have : j ∈ Region.ready .any ops listed := mem_ready.2 ⟨by simpa using h, _, ho, fun e he hbe => by
          have h1 := hac' _ _ ho e he hbe
          have h2 := ih e.on h1 (by omega)
          exact getD_both (by omega) h2⟩
        rw [hr] at this
        cases this
  intro fuel
  induction fuel with
  | zero =>
    intro listed vs w hsz hv0 hcl hS hR hf
    have h1 := openN_zero (Nat.le_zero.1 hf)
    refine ⟨?_, hend vs w hS (hR (n - 1) (by omega) (h1 _ (by omega)) fun s _ h2 h3 => by omega)⟩
    cases hr : Region.ready .any ops listed with
    | nil => rfl
    | cons a l =>
      have ha : a ∈ Region.ready .any ops listed := by rw [hr]; exact List.mem_cons_self ..
      obtain ⟨h2, o, ho, _⟩ := mem_ready.1 ha
      have ha2 : a < n := by rw [← hn]; exact (Array.getElem?_eq_some_iff.1 ho).1
      rw [h1 a ha2] at h2
      cases h2
  | succ fuel ih =>
    intro listed vs w hsz hv0 hcl hS hR hf
    refine ⟨fun hr => hend vs w hS (hR (n - 1) (by omega) (all listed hsz hr _ (by omega)) fun s _ h2 h3 => by omega), fun i hi => ?_⟩
    obtain ⟨h2, o, ho, hd⟩ := mem_ready.1 hi
    have hin : i < n := by rw [← hn]; exact (Array.getElem?_eq_some_iff.1 ho).1
    have hw : ∀ k, waitsFor o k = true → listed.getD k true = true := fun k hk => by
      obtain ⟨e, he, hb, rfl⟩ := waitsFor_spec hk
      exact getD_mono (hd e he hb)
    have hspl : ∀ s, m ≤ s → s < n → i < s → listed.getD s true = false := fun s h1 h3 h4 => by
      by_cases h : listed.getD s true = true
      · have := hcl s _ (Array.getElem?_eq_getElem (by omega : s < ops.size)) h i (hsp s _ (Array.getElem?_eq_getElem (by omega)) h1 i h4)
        rw [h2] at this
        cases this
      · simpa using h
    have next : ∀ v w', S w' → (∀ j, j < n → j ≠ i → listed.getD j true = true → (∀ s, m ≤ s → j < s → s < n → (listed.setIfInBounds i true).getD s true = false) → R j (upV vs i v) w') → R i (upV vs i v) w' → wpAny P .any ops Q fuel (listed.setIfInBounds i true) ((A vs).put o.dst v) w' := fun v w' hS' hR' hv => by
      rw [hput i o ho vs v]
      refine ih _ _ _ (by simpa using hsz) (fun j hj hl => ?_) (fun j o' ho' hl k hk => ?_) hS' (fun j hj hl hs => ?_) ?_
      · by_cases e : j = i
        · subst e
          rw [getD_setS] at hl
          cases hl
        · rw [getD_setT e] at hl
          rw [upV_ne _ _ e]
          exact hv0 j hj hl
      · by_cases ek : k = i
        · rw [ek]
          exact getD_setS
        · rw [getD_setT ek]
          by_cases e : j = i
          · subst e
            rw [ho] at ho'
            obtain rfl := Option.some.inj ho'
            exact hw k hk
          · rw [getD_setT e] at hl
            exact hcl j o' ho' hl k hk
      · by_cases e : j = i
        · subst e
          exact hv
        · rw [getD_setT e] at hl
          exact hR' j hj e hl hs
      · have : openN (listed.setIfInBounds i true) n < openN listed n := by
          unfold openN
          refine countP_lt (i := i) (by rw [h2]; rfl) (by rw [getD_setS]; rfl) _ (fun j _ hj => ?_) (List.mem_range.2 hin)
          by_cases e : j = i
          · subst e
            rw [h2]
            rfl
          · rw [getD_setT e] at hj
            exact hj
        omega
    by_cases him : i < m
    · refine wpOp_step ho fun K' hK => hstepN i o him ho (fun j => listed.getD j true) vs w h2 (fun j hj hl => hv0 j (by omega) hl) hw hS (fun j hj hl => hR j (by omega) hl fun s h1 _ h3 => hspl s h1 h3 (by omega)) K' (fun v w' hS' hR' hv => hK _ _ (next v w' hS' (fun j hj hji hl hs => ?_) hv))
      by_cases hjm : j < m
      · exact hR' j hjm hji hl
      · have := hspl j (by omega) hj (by omega)
        rw [this] at hl
        cases hl
    · have hlow : ∀ j, j < i → listed.getD j true = true := fun j hj => hw j (hsp i o ho (by omega) j hj)
      refine wpOp_step ho fun K' hK => hstepT i o (by omega) ho vs w hS (fun e j hj => hR j (by omega) (hlow j (by omega)) fun s h1 h3 h4 => ?_) (fun h => hR (i - 1) (by omega) (hlow _ (by omega)) fun s h1 h3 h4 => ?_) K' (fun v w' hS' hv => hK _ _ (next v w' hS' (fun j hj hji hl hs => ?_) hv))
      · by_cases e2 : s = i
        · rw [e2]; exact h2
        · exact hspl s h1 h4 (by omega)
      · by_cases e2 : s = i
        · rw [e2]; exact h2
        · exact hspl s h1 h4 (by omega)
      · by_cases hji2 : j < i
        · have := hs i (by omega) hji2 hin
          rw [getD_setS] at this
          cases this
        · have := hspl j (by omega) hj (by omega)
          rw [this] at hl
          cases hl
theorem wp_region_T {id : Nat} {w : World} (A : (Nat → Value) → Act) (vs : Nat → Value) (R : Nat → (Nat → Value) → World → Prop) (S : World → Prop) (n m : Nat) (hm : P.follows .mixedOrders = true) (hn : ops.size = n) (hmn : m < n) (hac : (ops.toList.zipIdx.all fun p => p.1.after.toList.all fun e => !Region.binds .any e || decide (e.on < p.2)) = true)
    (hsp : (ops.toList.zipIdx.all fun p => decide (p.2 < m) || (List.range p.2).all fun j => waitsFor p.1 j) = true)
    (hput : ∀ i, i < n → ∀ o, (ops.toList.drop i).head? = some o → ∀ vs v, (A vs).put o.dst v = A (upV vs i v))
    (hS : S w.drew) (hstepN : ∀ i, i < m → ∀ o, (ops.toList.drop i).head? = some o → StepN P ops Q S R A m vs i o)
    (hstepT : ∀ i, m ≤ i → i < n → ∀ o, (ops.toList.drop i).head? = some o → StepT P ops Q S R A m i o)
    (hend : ∀ vs w, S w → R (n - 1) vs w → Q .normal (A vs) w) {a : Act} (ha : a = A vs) : (Code.region id ops true).wp P Q a w := by
  have hsp' : ∀ (i : Nat) (o : Oper), ops[i]? = some o → m ≤ i → ∀ j, j < i → waitsFor o j = true := fun i o ho hi j hj => by
    rw [List.all_eq_true] at hsp
    have hmm : (o, i) ∈ ops.toList.zipIdx := by
      rw [List.mem_zipIdx_iff_getElem?]
      simpa using ho
    have h1 := hsp _ hmm
    simp only [Bool.or_eq_true, decide_eq_true_eq, List.all_eq_true, List.mem_range] at h1
    rcases h1 with h1 | h1
    · omega
    · exact h1 j hj
  have hlt : ∀ (i : Nat) (o : Oper), ops[i]? = some o → i < n ∧ (ops.toList.drop i).head? = some o := fun i o ho => by
    refine ⟨by rw [← hn]; exact (Array.getElem?_eq_some_iff.1 ho).1, ?_⟩
    rw [List.head?_drop]
    simpa using ho
  subst ha
  refine wp_region_any hm (wpAny_T hn hmn hac hsp' (fun i o ho => hput i (hlt i o ho).1 o (hlt i o ho).2) (fun i o hi ho => hstepN i hi o (hlt i o ho).2) (fun i o hi ho => hstepT i hi (hlt i o ho).1 o (hlt i o ho).2) hend _ _ _ _ (by simp [hn]) (fun j _ _ => rfl) (fun j o' ho' h => ?_) hS (fun j hj h => ?_) ?_)
  · have hj : j < n := by rw [← hn]; exact (Array.getElem?_eq_some_iff.1 ho').1
    have : (Array.replicate ops.size false).getD j true = false := by simp [hn, hj]
    rw [this] at h
    cases h
  · have : (Array.replicate ops.size false).getD j true = false := by simp [hn, hj]
    rw [this] at h
    cases h
  · unfold openN
    rw [hn]
    exact Nat.le_trans List.countP_le_length (by simp)
end
end Go.Proofs.Ytjbjnndmpheedaa
