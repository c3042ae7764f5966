/-
  Moves that are to be done all at once, one by one: plain. Places, what moves do one by one, a chain, rings; what is left, what is done (OrI), and that each step keeps it.
-/
import Derived.Test.YtdlglinbjkaokabRep
namespace Go.Proofs.Ytdlglinbjkaokab
set_option linter.unusedVariables false

structure Pl where
  kind : Int
  cls : Int
  n : Int
structure Mv where
  src : Pl
  dst : Pl
instance : DecidableEq Pl := fun a b =>
  decidable_of_iff (a.kind = b.kind ∧ a.cls = b.cls ∧ a.n = b.n) ⟨fun h => by cases a; cases b; obtain ⟨h1, h2, h3⟩ := h; subst h1; subst h2; subst h3; rfl, fun h => by subst h; exact ⟨rfl, rfl, rfl⟩⟩
def updP {α : Type} (f : Pl → α) (p : Pl) (v : α) : Pl → α := fun q => if q = p then v else f q
theorem updP_same {α : Type} (f : Pl → α) (p : Pl) (v : α) : updP f p v p = v := if_pos rfl
theorem updP_other {α : Type} {f : Pl → α} {p q : Pl} {v : α} (h : q ≠ p) : updP f p v q = f q := if_neg h
/-- One move; moves one by one: whose content each place has at last. -/
def doMv (s : Pl → Pl) (m : Mv) : Pl → Pl := updP s m.dst (s m.src)
def runMvs (s : Pl → Pl) (l : List Mv) : Pl → Pl := l.foldl doMv s
theorem runMvs_append (s : Pl → Pl) (a b : List Mv) : runMvs s (a ++ b) = runMvs (runMvs s a) b := by simp [runMvs]
def hopB (m : Mv) : Bool := decide (m.src.kind = 2) && decide (m.dst.kind = 2)
def scrP (r : Int → Int) (c : Int) : Pl := ⟨1, c, r c⟩
/-- One move, or two by way of the scratch. -/
def stepsOf (r : Int → Int) (c : Int) (m : Mv) : List Mv := if hopB m = true then [⟨m.src, scrP r c⟩, ⟨scrP r c, m.dst⟩] else [m]
theorem stepsOf_len (r : Int → Int) (c : Int) (m : Mv) : (stepsOf r c m).length ≤ 2 := by unfold stepsOf; split <;> simp
theorem stepsOf_run (r : Int → Int) (c : Int) (m : Mv) (s : Pl → Pl) {q : Pl} (hq : q ≠ scrP r c ∨ hopB m = false) : runMvs s (stepsOf r c m) q = doMv s m q := by
  unfold stepsOf
  split
  · rename_i h
    have hq : q ≠ scrP r c := hq.resolve_right (by rw [h]; simp)
    simp only [runMvs, List.foldl_cons, List.foldl_nil, doMv, updP_same]
    unfold updP
    split
    · rfl
    · first | rfl | exact if_neg hq
  · rfl

/-! ### a chain of moves, each to where the one ahead is from -/
def LinC : Pl → List Mv → Pl → Prop
  | d, [], e => d = e
  | d, x :: l, e => x.dst = d ∧ LinC x.src l e
theorem LinC.append {e : Pl} {l2 : List Mv} : ∀ {d : Pl} (l1 : List Mv), LinC d (l1 ++ l2) e ↔ ∃ m, LinC d l1 m ∧ LinC m l2 e
  | d, [] => ⟨fun h => ⟨d, rfl, h⟩, fun ⟨m, h1, h2⟩ => by cases h1; exact h2⟩
  | d, x :: l => by
    show x.dst = d ∧ LinC x.src (l ++ l2) e ↔ ∃ m, (x.dst = d ∧ LinC x.src l m) ∧ LinC m l2 e
    rw [LinC.append l]
    exact ⟨fun ⟨a, m, b, c⟩ => ⟨m, ⟨a, b⟩, c⟩, fun ⟨m, ⟨a, b⟩, c⟩ => ⟨a, m, b, c⟩⟩
theorem LinC.snoc {d e : Pl} {l : List Mv} {x : Mv} : LinC d (l ++ [x]) e ↔ LinC d l x.dst ∧ x.src = e := by
  rw [LinC.append]
  exact ⟨fun ⟨m, a, b, c⟩ => ⟨b ▸ a, c⟩, fun ⟨a, b⟩ => ⟨x.dst, a, rfl, b⟩⟩
theorem LinC.src_is {e : Pl} : ∀ {d : Pl} {l : List Mv}, LinC d l e → ∀ y ∈ l, y.src = e ∨ ∃ z ∈ l, z.dst = y.src
  | d, x :: l, h, y, hy => by
    rcases List.mem_cons.1 hy with rfl | hy
    · cases l with
      | nil => exact Or.inl h.2
      | cons z l => exact Or.inr ⟨z, by simp, h.2.1⟩
    · rcases LinC.src_is h.2 y hy with a | ⟨z, hz, a⟩
      · exact Or.inl a
      · exact Or.inr ⟨z, List.mem_cons_of_mem _ hz, a⟩
def dsts (l : List Mv) : List Pl := l.map Mv.dst
/-- A chain that is done in its order does what it does all at once. -/
theorem chain_run (r : Int → Int) (cl : Pl → Int) (G : Pl → Prop) : ∀ (l : List Mv) (d e : Pl) (s : Pl → Pl), LinC d l e → (dsts l).Nodup → e ∉ dsts l → G e → (∀ y ∈ l, G y.dst) → (∀ y ∈ l, hopB y = true → ∀ q, G q → q ≠ scrP r (cl y.dst)) →
    ∀ q, G q → runMvs s (l.flatMap fun y => stepsOf r (cl y.dst) y) q = match l.find? (fun y => decide (y.dst = q)) with | some y => s y.src | none => s q
  | [], d, e, s, _, _, _, _, _, _, q, _ => rfl
  | x :: l, d, e, s, h, hn, he, hGe, hG, hh, q, hq => by
    rw [List.flatMap_cons, runMvs_append]
    have hx : ∀ q, G q → runMvs s (stepsOf r (cl x.dst) x) q = doMv s x q := fun q hq => stepsOf_run r _ x s (by
      cases hb : hopB x
      · exact Or.inr rfl
      · exact Or.inl (hh x (by simp) hb q hq))
    have hn' := List.nodup_cons.1 (show (x.dst :: dsts l).Nodup from hn)
    have he' : e ≠ x.dst ∧ e ∉ dsts l := by
      have : e ∉ x.dst :: dsts l := he
      simpa using this
    rw [chain_run r cl G l x.src e _ h.2 hn'.2 he'.2 hGe (fun y hy => hG y (List.mem_cons_of_mem _ hy)) (fun y hy => hh y (List.mem_cons_of_mem _ hy)) q hq, List.find?_cons]
    by_cases hqx : x.dst = q
    · have hnone : l.find? (fun y => decide (y.dst = q)) = none := by
        rw [List.find?_eq_none]
        intro y hy hy'
        exact hn'.1 (List.mem_map.2 ⟨y, hy, by rw [of_decide_eq_true hy', hqx]⟩)
      rw [hnone]
      simp only [decide_eq_true hqx]
      have hx2 := hx q hq
      unfold doMv at hx2
      rw [← hqx, updP_same] at hx2
      rw [← hqx]
      exact hx2
    · simp only [hqx, decide_false]
      cases hf : l.find? (fun y => decide (y.dst = q)) with
      | none =>
        simp only
        rw [hx q hq]
        exact updP_other (Ne.symm hqx)
      | some y =>
        simp only
        have hy := List.mem_of_find?_eq_some hf
        have hs : y.src ≠ x.dst ∧ G y.src := by
          rcases LinC.src_is h.2 y hy with a | ⟨z, hz, a⟩
          · exact ⟨a ▸ he'.1, a ▸ hGe⟩
          · exact ⟨fun c => hn'.1 (List.mem_map.2 ⟨z, hz, a.trans c⟩), a ▸ hG z (List.mem_cons_of_mem _ hz)⟩
        rw [hx _ hs.2]
        exact updP_other hs.1
theorem LinC.rotate {d : Pl} {l1 l2 : List Mv} (h : LinC d (l1 ++ l2) d) : ∃ m, LinC m (l2 ++ l1) m := by
  obtain ⟨m, a, b⟩ := (LinC.append l1).1 h
  exact ⟨m, (LinC.append l2).2 ⟨d, b, a⟩⟩

/-! ### so many to so many -/
theorem pigeon {α : Type} [DecidableEq α] : ∀ (G S : List α), G.Nodup → (∀ g ∈ G, g ∈ S) → S.length ≤ G.length → S.Nodup ∧ ∀ s ∈ S, s ∈ G
  | [], S, _, _, h => by
    have : S = [] := List.length_eq_zero_iff.1 (by simpa using h)
    subst this
    exact ⟨List.nodup_nil, fun s hs => hs⟩
  | g :: G, S, hn, hs, hl => by
    obtain ⟨h1, h2⟩ := List.nodup_cons.1 hn
    have hg : g ∈ S := hs g (by simp)
    have hp : S.Perm (g :: S.erase g) := List.perm_cons_erase hg
    have hlen := hp.length_eq
    obtain ⟨i1, i2⟩ := pigeon G (S.erase g) h2 (fun x hx => by
      have := hp.mem_iff.1 (hs x (List.mem_cons_of_mem _ hx))
      rcases List.mem_cons.1 this with rfl | h
      · exact absurd hx h1
      · exact h) (by simp at hlen hl; omega)
    refine ⟨hp.nodup_iff.2 (List.nodup_cons.2 ⟨fun h => h1 (i2 g h), i1⟩), fun s h => ?_⟩
    rcases List.mem_cons.1 (hp.mem_iff.1 h) with rfl | h
    · simp
    · exact List.mem_cons_of_mem _ (i2 s h)

/-! ### what is to be done -/
def regsR (r0 r1 : Int) : Int → Int := fun c => if c = 0 then r0 else r1
/-- A place that a value may have: a register that may be given away, a slot. -/
def RealP (r0 r1 fr : Int) (p : Pl) : Prop := (p.kind = 1 ∧ (p.cls = 0 ∨ p.cls = 1) ∧ 0 ≤ p.n ∧ p.n < regsR r0 r1 p.cls) ∨ (p.kind = 2 ∧ p.cls = 0 ∧ 0 ≤ p.n ∧ p.n < fr)
/-- A place of a move of an edit, where the frame is by one greater. -/
def MayP (r0 r1 fr : Int) (p : Pl) : Prop := (p.kind = 1 ∧ (p.cls = 0 ∨ p.cls = 1) ∧ 0 ≤ p.n ∧ p.n ≤ regsR r0 r1 p.cls) ∨ (p.kind = 2 ∧ p.cls = 0 ∧ 0 ≤ p.n ∧ p.n ≤ fr)
def SuitP (c : Int) (p : Pl) : Prop := p.kind = 1 → p.cls = c
structure LegalM (r0 r1 fr : Int) (x : Mv) : Prop where
  a : MayP r0 r1 fr x.src
  b : MayP r0 r1 fr x.dst
  c : hopB x = false
  d : x.src.kind = 1 → x.dst.kind = 1 → x.src.cls = x.dst.cls
theorem RealP.may {r0 r1 fr : Int} {p : Pl} (h : RealP r0 r1 fr p) : MayP r0 r1 fr p := by
  rcases h with ⟨a, b, c, d⟩ | ⟨a, b, c, d⟩
  · exact Or.inl ⟨a, b, c, by omega⟩
  · exact Or.inr ⟨a, b, c, by omega⟩
theorem RealP.scr {r0 r1 fr : Int} {p : Pl} (h : RealP r0 r1 fr p) (c : Int) : p ≠ scrP (regsR r0 r1) c := by
  intro e
  subst e
  rcases h with ⟨_, _, _, d⟩ | ⟨a, _⟩
  · exact absurd d (Int.lt_irrefl _)
  · cases a
theorem RealP.slot {r0 r1 fr : Int} {p : Pl} (h : RealP r0 r1 fr p) : p ≠ ⟨2, 0, fr⟩ := by
  intro e
  subst e
  rcases h with ⟨a, _⟩ | ⟨_, _, _, d⟩
  · cases a
  · exact absurd d (Int.lt_irrefl _)
theorem scr_may {r0 r1 fr c : Int} (h0 : 0 ≤ r0) (h1 : 0 ≤ r1) (hc : c = 0 ∨ c = 1) : MayP r0 r1 fr (scrP (regsR r0 r1) c) := by
  refine Or.inl ⟨rfl, hc, ?_, Int.le_refl _⟩
  show 0 ≤ regsR r0 r1 c
  unfold regsR
  split <;> assumption
theorem steps_legal {r0 r1 fr c : Int} (h0 : 0 ≤ r0) (h1 : 0 ≤ r1) (hc : c = 0 ∨ c = 1) {m : Mv} (ha : MayP r0 r1 fr m.src) (hb : MayP r0 r1 fr m.dst) (sa : SuitP c m.src) (sb : SuitP c m.dst) : ∀ x ∈ stepsOf (regsR r0 r1) c m, LegalM r0 r1 fr x := by
  unfold stepsOf
  split
  · rename_i h
    have hk : m.src.kind = 2 ∧ m.dst.kind = 2 := by simpa [hopB] using h
    intro x hx
    rcases List.mem_cons.1 hx with rfl | hx
    · refine ⟨ha, scr_may h0 h1 hc, by simp [hopB, scrP], fun e => ?_⟩
      have e : m.src.kind = 1 := e
      omega
    · have hx := List.mem_singleton.1 hx
      subst hx
      refine ⟨scr_may h0 h1 hc, hb, by simp [hopB, scrP], fun _ e => ?_⟩
      have e : m.dst.kind = 1 := e
      omega
  · rename_i h
    intro x hx
    have hx := List.mem_singleton.1 hx
    subst hx
    refine ⟨ha, hb, by simpa using h, fun e1 e2 => (sa e1).trans (sb e2).symm⟩

def srcOf (l : List Mv) (q : Pl) : Pl := match l.find? (fun m => decide (m.dst = q)) with | some m => m.src | none => q
theorem srcOf_mem {l : List Mv} (hn : (dsts l).Nodup) {m : Mv} (hm : m ∈ l) : srcOf l m.dst = m.src := by
  unfold srcOf
  have : l.find? (fun x => decide (x.dst = m.dst)) = some m := by
    induction l with
    | nil => cases hm
    | cons x l ih =>
      have hn' := List.nodup_cons.1 (show (x.dst :: dsts l).Nodup from hn)
      rw [List.find?_cons]
      rcases List.mem_cons.1 hm with rfl | hm
      · simp
      · have : x.dst ≠ m.dst := fun e => hn'.1 (List.mem_map.2 ⟨m, hm, e.symm⟩)
        simp only [this, decide_false]
        exact ih hn'.2 hm
  rw [this]
theorem srcOf_not {l : List Mv} {q : Pl} (h : ∀ m ∈ l, m.dst ≠ q) : srcOf l q = q := by
  unfold srcOf
  have : l.find? (fun x => decide (x.dst = q)) = none := by
    rw [List.find?_eq_none]
    intro m hm e
    exact h m hm (of_decide_eq_true e)
  rw [this]

/-- What is handed in. -/
structure FitO (r0 r1 fr : Int) (l : List Mv) (cl : Pl → Int) : Prop where
  h0 : 0 ≤ r0
  h1 : 0 ≤ r1
  hf : 0 ≤ fr
  nd : (dsts l).Nodup
  cls : ∀ m ∈ l, cl m.dst = 0 ∨ cl m.dst = 1
  src : ∀ m ∈ l, RealP r0 r1 fr m.src ∧ SuitP (cl m.dst) m.src
  dst : ∀ m ∈ l, RealP r0 r1 fr m.dst ∧ SuitP (cl m.dst) m.dst

def cntL (l : List Mv) (left : Pl → Option Pl) : Nat := (l.filter fun m => (left m.dst).isSome).length
def cntR (l : List Mv) (left : Pl → Option Pl) (p : Pl) : Nat := (l.filter fun m => decide (left m.dst = some p)).length
/-- Moves that are not done yet, and what those that are done have done. -/
structure OrI (r0 r1 fr : Int) (l : List Mv) (cl : Pl → Int) (left : Pl → Option Pl) (done : List Mv) : Prop where
  src : ∀ g p, left g = some p → (∃ m ∈ l, m.dst = g ∧ m.src = p) ∧ p ≠ g
  keep : ∀ g p, left g = some p → srcOf l p ≠ p → left p ≠ none
  val : ∀ q, RealP r0 r1 fr q → runMvs id done q = if (left q).isSome = true then q else srcOf l q
  legal : ∀ x ∈ done, LegalM r0 r1 fr x
  len : done.length + 4 * cntL l left ≤ 4 * l.length
theorem filter_one {l : List Mv} (hn : (dsts l).Nodup) {m0 : Mv} (hm : m0 ∈ l) (f g : Pl → Bool) (hf : f m0.dst = true) (hg : g m0.dst = false) (h : ∀ q, q ≠ m0.dst → f q = g q) : (l.filter fun m => f m.dst).length = (l.filter fun m => g m.dst).length + 1 := by
  induction l with
  | nil => cases hm
  | cons x l ih =>
    have hn' := List.nodup_cons.1 (show (x.dst :: dsts l).Nodup from hn)
    rcases List.mem_cons.1 hm with rfl | hm
    · rw [List.filter_cons, if_pos hf, List.filter_cons, if_neg (by rw [hg]; simp), List.length_cons]
      congr 1
      congr 1
      refine List.filter_congr fun y hy => h _ fun e => hn'.1 (List.mem_map.2 ⟨y, hy, e⟩)
    · have e : f x.dst = g x.dst := h _ fun e => hn'.1 (List.mem_map.2 ⟨m0, hm, e.symm⟩)
      rw [List.filter_cons, List.filter_cons, e]
      split
      · simp only [List.length_cons]
        rw [ih hn'.2 hm]
      · exact ih hn'.2 hm
section
variable {r0 r1 fr : Int} {l : List Mv} {cl : Pl → Int} {left : Pl → Option Pl} {done : List Mv}
theorem cntL_drop (F : FitO r0 r1 fr l cl) (I : OrI r0 r1 fr l cl left done) {g p : Pl} (h : left g = some p) : cntL l left = cntL l (updP left g none) + 1 := by
  obtain ⟨⟨m, hm, rfl, _⟩, _⟩ := I.src g p h
  exact filter_one F.nd hm (fun q => (left q).isSome) (fun q => (updP left m.dst none q).isSome) (by simp only [h]; rfl) (by simp only [updP_same]; rfl) fun q hq => by simp only [updP_other hq]
theorem cntR_drop (F : FitO r0 r1 fr l cl) (I : OrI r0 r1 fr l cl left done) {g p : Pl} (h : left g = some p) (q : Pl) : cntR l left q = cntR l (updP left g none) q + if q = p then 1 else 0 := by
  obtain ⟨⟨m, hm, rfl, _⟩, _⟩ := I.src g p h
  by_cases e : q = p
  · rw [if_pos e, e]
    exact filter_one F.nd hm (fun q => decide (left q = some p)) (fun q => decide (updP left m.dst none q = some p)) (by simp only [h]; simp) (by simp only [updP_same]; simp) fun q hq => by simp only [updP_other hq]
  · rw [if_neg e, Nat.add_zero]
    unfold cntR
    congr 1
    refine List.filter_congr fun y _ => ?_
    by_cases e2 : y.dst = m.dst
    · rw [e2, updP_same, h]
      have : p ≠ q := Ne.symm e
      simp [this]
    · rw [updP_other e2]
theorem cntR_zero {p : Pl} (I : OrI r0 r1 fr l cl left done) (h : cntR l left p = 0) : ∀ g, left g ≠ some p := by
  intro g e
  obtain ⟨⟨m, hm, rfl, _⟩, _⟩ := I.src g p e
  have := List.length_eq_zero_iff.1 h
  have hmem : m ∈ l.filter fun m => decide (left m.dst = some p) := List.mem_filter.2 ⟨hm, by simpa using e⟩
  rw [this] at hmem
  cases hmem
theorem cntR_pos {p : Pl} (h : cntR l left p ≠ 0) : ∃ m ∈ l, left m.dst = some p := by
  unfold cntR at h
  cases hf : l.filter fun m => decide (left m.dst = some p) with
  | nil => rw [hf] at h; exact absurd rfl h
  | cons m t =>
    have : m ∈ l.filter fun m => decide (left m.dst = some p) := by rw [hf]; simp
    obtain ⟨a, b⟩ := List.mem_filter.1 this
    exact ⟨m, a, of_decide_eq_true b⟩
/-- At the beginning. -/
def leftOf (l : List Mv) (q : Pl) : Option Pl := if srcOf l q = q then none else some (srcOf l q)
theorem OrI.start (F : FitO r0 r1 fr l cl) : OrI r0 r1 fr l cl (leftOf l) [] := by
  refine ⟨fun g p h => ?_, fun g p h h2 => ?_, fun q _ => ?_, fun x hx => (by cases hx), ?_⟩
  · unfold leftOf at h
    split at h
    · cases h
    · rename_i hne
      have hp : srcOf l g = p := by simpa using h
      refine ⟨?_, fun e => hne (hp.trans e)⟩
      by_cases hm : ∃ m ∈ l, m.dst = g
      · obtain ⟨m, hm, rfl⟩ := hm
        exact ⟨m, hm, rfl, (srcOf_mem F.nd hm).symm.trans hp⟩
      · exact absurd (srcOf_not fun m h e => hm ⟨m, h, e⟩) hne
  · unfold leftOf
    rw [if_neg h2]
    simp
  · show q = _
    unfold leftOf
    by_cases e : srcOf l q = q
    · rw [if_pos e]
      simp [e]
    · rw [if_neg e]
      simp
  · have : cntL l (leftOf l) ≤ l.length := List.length_filter_le _ _
    simp
    omega
/-- A move is done to where nothing is that is still to be moved. -/
theorem OrI.move (F : FitO r0 r1 fr l cl) (I : OrI r0 r1 fr l cl left done) {g p : Pl} (h : left g = some p) (hz : ∀ q, left q ≠ some g) : OrI r0 r1 fr l cl (updP left g none) (done ++ stepsOf (regsR r0 r1) (cl g) ⟨p, g⟩) := by
  obtain ⟨⟨m, hm, hg, hp⟩, hpg⟩ := I.src g p h
  have hsm := F.src m hm
  have hdm := F.dst m hm
  rw [hg, hp] at hsm
  rw [hg] at hdm
  have hsg : srcOf l g = p := by rw [← hg, srcOf_mem F.nd hm, hp]
  refine ⟨fun g' p' h' => ?_, fun g' p' h' h2 => ?_, fun q hq => ?_, fun x hx => ?_, ?_⟩
  · by_cases e : g' = g
    · rw [e, updP_same] at h'
      cases h'
    · rw [updP_other e] at h'
      exact I.src g' p' h'
  · by_cases e : g' = g
    · rw [e, updP_same] at h'
      cases h'
    · rw [updP_other e] at h'
      have : p' ≠ g := fun e2 => hz g' (e2 ▸ h')
      rw [updP_other this]
      exact I.keep g' p' h' h2
  · rw [runMvs_append, stepsOf_run _ _ _ _ (Or.inl (hq.scr _))]
    unfold doMv
    by_cases e : q = g
    · rw [e, updP_same, updP_same]
      have hv := I.val p hsm.1
      show runMvs id done p = _
      rw [hv, hsg]
      simp only [Option.isSome_none, Bool.false_eq_true, if_false]
      split
      · rfl
      · rename_i hn
        by_cases e2 : srcOf l p = p
        · exact e2
        · have := I.keep g p h e2
          exact absurd (Option.isSome_iff_ne_none.2 this) hn
    · show updP _ g _ q = _
      rw [updP_other e, updP_other e]
      exact I.val q hq
  · rcases List.mem_append.1 hx with hx | hx
    · exact I.legal x hx
    · exact steps_legal F.h0 F.h1 (by rw [← hg]; exact F.cls m hm) hsm.1.may hdm.1.may hsm.2 hdm.2 x hx
  · have := I.len
    rw [cntL_drop F I h] at this
    have h2 := stepsOf_len (regsR r0 r1) (cl g) ⟨p, g⟩
    rw [List.length_append]
    omega

/-- What is left goes round in rings. -/
structure PermL (left : Pl → Option Pl) : Prop where
  go : ∀ g p, left g = some p → left p ≠ none
  inj : ∀ g g' p, left g = some p → left g' = some p → g = g'
theorem nodup_dsts_filter {l : List Mv} (f : Mv → Bool) (h : (dsts l).Nodup) : (dsts (l.filter f)).Nodup := by
  unfold dsts at *
  exact h.sublist (List.filter_sublist.map _)
theorem nodup_get {α β : Type} (f : α → Option β) : ∀ (l : List α), (l.map f).Nodup → ∀ a ∈ l, ∀ b ∈ l, f a = f b → a = b
  | [], _, a, ha, _, _, _ => by cases ha
  | x :: l, hn, a, ha, b, hb, e => by
    have hn' := List.nodup_cons.1 (show (f x :: l.map f).Nodup from hn)
    rcases List.mem_cons.1 ha with ea | ha
    · rcases List.mem_cons.1 hb with eb | hb
      · exact ea.trans eb.symm
      · exact (hn'.1 (List.mem_map.2 ⟨b, hb, ea ▸ e.symm⟩)).elim
    · rcases List.mem_cons.1 hb with eb | hb
      · exact (hn'.1 (List.mem_map.2 ⟨a, ha, eb ▸ e⟩)).elim
      · exact nodup_get f l hn'.2 a ha b hb e
theorem PermL.of_stuck (F : FitO r0 r1 fr l cl) (I : OrI r0 r1 fr l cl left done) (h : ∀ m ∈ l, left m.dst ≠ none → cntR l left m.dst ≠ 0) : PermL left := by
  let G : List Pl := dsts (l.filter fun m => (left m.dst).isSome)
  have hG : G.Nodup := nodup_dsts_filter _ F.nd
  have hin : ∀ g p, left g = some p → g ∈ G := fun g p e => by
    obtain ⟨⟨m, hm, rfl, _⟩, _⟩ := I.src g p e
    exact List.mem_map.2 ⟨m, List.mem_filter.2 ⟨hm, by rw [e]; rfl⟩, rfl⟩
  have hout : ∀ g ∈ G, ∃ m ∈ l, m.dst = g ∧ left g ≠ none := fun g hg => by
    obtain ⟨m, hm, rfl⟩ := List.mem_map.1 hg
    obtain ⟨a, b⟩ := List.mem_filter.1 hm
    exact ⟨m, a, rfl, Option.isSome_iff_ne_none.1 b⟩
  obtain ⟨n1, n2⟩ := pigeon (G.map some) (G.map left) (hG.map some fun _ _ h e => h (Option.some.inj e)) (fun o ho => by
    obtain ⟨g, hg, rfl⟩ := List.mem_map.1 ho
    obtain ⟨m, hm, rfl, hne⟩ := hout g hg
    obtain ⟨m', hm', e⟩ := cntR_pos (h m hm hne)
    exact List.mem_map.2 ⟨m'.dst, hin _ _ e, e⟩) (by simp)
  refine ⟨fun g p e => ?_, fun g g' p e e' => nodup_get left G n1 g (hin g p e) g' (hin g' p e') (e.trans e'.symm)⟩
  obtain ⟨q, hq, e2⟩ := List.mem_map.1 (n2 _ (List.mem_map.2 ⟨g, hin g p e, e⟩))
  obtain ⟨m, hm, e3, hne⟩ := hout q hq
  rw [Option.some.inj e2] at hne
  exact hne
end

/-! ### rings -/
/-- A ring that is being walked. -/
structure RingG (left : Pl → Option Pl) (first : Pl) (ring : List Mv) (cur : Pl) : Prop where
  lin : LinC first ring cur
  nd : (dsts ring).Nodup
  is : ∀ x ∈ ring, left x.dst = some x.src
def without (left : Pl → Option Pl) (ring : List Mv) : Pl → Option Pl := fun q => if q ∈ dsts ring then none else left q
theorem without_snoc (left : Pl → Option Pl) (ring : List Mv) (x : Mv) : without left (ring ++ [x]) = updP (without left ring) x.dst none := by
  funext q
  unfold without updP dsts
  by_cases h : q = x.dst
  · rw [if_pos h, if_pos (by rw [h]; simp)]
  · rw [if_neg h]
    by_cases h2 : q ∈ ring.map Mv.dst
    · rw [if_pos (by simp at h2 ⊢; exact Or.inl h2)]
      exact (if_pos h2).symm
    · rw [if_neg (by simp at h2 ⊢; exact ⟨h2, h⟩)]
      exact (if_neg h2).symm
theorem without_nil (left : Pl → Option Pl) : without left [] = left := by funext q; simp [without, dsts]
theorem RingG.nil (left : Pl → Option Pl) (first : Pl) : RingG left first [] first := ⟨rfl, List.nodup_nil, fun x hx => by cases hx⟩
theorem RingG.push {left : Pl → Option Pl} {first cur p : Pl} {ring : List Mv} (h : RingG left first ring cur) (hl : without left ring cur = some p) : RingG left first (ring ++ [⟨p, cur⟩]) p := by
  unfold without at hl
  split at hl
  · cases hl
  · rename_i hn
    refine ⟨LinC.snoc.2 ⟨h.lin, rfl⟩, ?_, fun x hx => ?_⟩
    · show (List.map Mv.dst _).Nodup
      rw [List.map_append, List.nodup_append]
      refine ⟨h.nd, by simp, fun a ha b hb => ?_⟩
      have : b = cur := by simpa using hb
      rw [this]
      exact fun e => hn (e ▸ ha)
    · rcases List.mem_append.1 hx with hx | hx
      · exact h.is x hx
      · have := List.mem_singleton.1 hx
        rw [this]
        exact hl
theorem last_of {α : Type} (x : α) (l : List α) : ∃ t y, x :: l = t ++ [y] := ⟨(x :: l).dropLast, (x :: l).getLast (by simp), (List.dropLast_concat_getLast _).symm⟩
theorem RingG.shut {left : Pl → Option Pl} {first cur : Pl} {ring : List Mv} (h : RingG left first ring cur) (hp : PermL left) (hf : left first ≠ none) (hl : without left ring cur = none) : cur = first ∧ ring ≠ [] := by
  cases ring with
  | nil =>
    have e : first = cur := h.lin
    subst e
    rw [without_nil] at hl
    exact absurd hl hf
  | cons x l =>
    refine ⟨?_, by simp⟩
    obtain ⟨t, y, ht⟩ := last_of x l
    have hy : left y.dst = some y.src := h.is y (by rw [ht]; simp)
    have hc : y.src = cur := (LinC.snoc.1 (ht ▸ h.lin)).2
    have hin : cur ∈ dsts (x :: l) := by
      refine Classical.byContradiction fun hn => ?_
      unfold without at hl
      rw [if_neg hn] at hl
      exact hp.go _ _ (hc ▸ hy) hl
    obtain ⟨z, hz, hzc⟩ := List.mem_map.1 hin
    obtain ⟨l1, l2, e⟩ := List.append_of_mem hz
    have hlin := h.lin
    have hnd := h.nd
    have hat := h.is
    rw [e] at hlin hnd hat
    obtain ⟨m, h1, h2⟩ := (LinC.append l1).1 hlin
    have hm : m = cur := h2.1.symm.trans hzc
    subst hm
    cases l1 with
    | nil => exact h1.symm
    | cons a l1 =>
      obtain ⟨t1, y1, e1⟩ := last_of a l1
      obtain ⟨t2, y2, e2⟩ := last_of z l2
      rw [e1] at h1
      rw [e2] at h2
      have s1 := (LinC.snoc.1 h1).2
      have s2 := (LinC.snoc.1 h2).2
      have a1 := hat y1 (by rw [e1]; simp)
      have a2 := hat y2 (by rw [e2]; simp)
      rw [s1] at a1
      rw [s2] at a2
      have := hp.inj _ _ _ a1 a2
      unfold dsts at hnd
      rw [List.map_append, List.nodup_append] at hnd
      exact absurd this (hnd.2.2 _ (List.mem_map.2 ⟨y1, by rw [e1]; simp, rfl⟩) _ (List.mem_map.2 ⟨y2, by rw [e2]; simp, rfl⟩))
section
variable {r0 r1 fr : Int} {l : List Mv} {cl : Pl → Int} {left : Pl → Option Pl} {done : List Mv}
theorem RingG.perm {first : Pl} {ring : List Mv} (h : RingG left first ring first) (hp : PermL left) : PermL (without left ring) := by
  have hs : ∀ g p, without left ring g = some p → g ∉ dsts ring ∧ left g = some p := fun g p e => by
    unfold without at e
    split at e
    · cases e
    · rename_i hn
      exact ⟨hn, e⟩
  refine ⟨fun g p e => ?_, fun g g' p e e' => hp.inj g g' p (hs _ _ e).2 (hs _ _ e').2⟩
  obtain ⟨hn, e1⟩ := hs g p e
  unfold without
  split
  · rename_i hin
    exfalso
    obtain ⟨z, hz, hzc⟩ := List.mem_map.1 hin
    obtain ⟨l1, l2, er⟩ := List.append_of_mem hz
    have hlin := h.lin
    rw [er] at hlin
    obtain ⟨m, h1, h2⟩ := (LinC.append l1).1 hlin
    have hm : m = p := h2.1.symm.trans hzc
    subst hm
    have key : ∀ (la : List Mv) (y : Mv), (∀ x, x ∈ la ++ [y] → x ∈ ring) → y.src = m → False := fun la y hin hy => by
      have hyr := hin y (by simp)
      have ha := h.is y hyr
      rw [hy] at ha
      exact hn (hp.inj g y.dst m e1 ha ▸ List.mem_map.2 ⟨y, hyr, rfl⟩)
    cases l1 with
    | nil =>
      have hf : first = m := h1
      obtain ⟨t2, y2, e2⟩ := last_of z l2
      rw [e2] at h2
      exact key t2 y2 (fun x hx => by rw [er, List.nil_append, e2]; exact hx) ((LinC.snoc.1 h2).2.trans hf)
    | cons a l1 =>
      obtain ⟨t1, y1, e1'⟩ := last_of a l1
      rw [e1'] at h1
      exact key t1 y1 (fun x hx => by rw [er, e1']; exact List.mem_append_left _ hx) (LinC.snoc.1 h1).2
  · exact hp.go g p e1
theorem cntL_without (F : FitO r0 r1 fr l cl) (ring : List Mv) (hn : (dsts ring).Nodup) (hs : ∀ x ∈ ring, left x.dst ≠ none) (hm : ∀ x ∈ ring, ∃ m ∈ l, m.dst = x.dst) : cntL l left = cntL l (without left ring) + ring.length := by
  induction ring generalizing left with
  | nil => rw [without_nil]; rfl
  | cons x ring ih =>
    have hn' := List.nodup_cons.1 (show (x.dst :: dsts ring).Nodup from hn)
    have e : without left (x :: ring) = without (updP left x.dst none) ring := by
      funext q
      unfold without updP dsts
      by_cases h : q = x.dst
      · rw [if_pos (by rw [h]; simp), if_pos h]
        split <;> rfl
      · by_cases h2 : q ∈ ring.map Mv.dst
        · rw [if_pos h2, if_pos (by simp at h2 ⊢; exact Or.inr h2)]
        · rw [if_neg h2, if_neg h, if_neg (by simp at h2 ⊢; exact ⟨h, h2⟩)]
    obtain ⟨m, hml, hmx⟩ := hm x (by simp)
    have e1 : cntL l left = cntL l (updP left x.dst none) + 1 := by
      rw [← hmx]
      exact filter_one F.nd hml (fun q => (left q).isSome) (fun q => (updP left m.dst none q).isSome) (by rw [hmx]; exact Option.isSome_iff_ne_none.2 (hs x (by simp))) (by simp only [updP_same]; rfl) fun q hq => by simp only [updP_other hq]
    rw [e, e1, ih hn'.2 (fun y hy => by
      rw [updP_other (fun e2 => hn'.1 (List.mem_map.2 ⟨y, hy, e2⟩))]
      exact hs y (List.mem_cons_of_mem _ hy)) (fun y hy => hm y (List.mem_cons_of_mem _ hy))]
    simp only [List.length_cons]
    omega
/-- Where what is laid aside may lie. -/
def AsideP (r0 r1 fr : Int) (cl : Pl → Int) (x0 : Mv) (rest : List Mv) (aside : Pl) : Prop :=
  aside = ⟨2, 0, fr⟩ ∨ aside = scrP (regsR r0 r1) (cl x0.dst) ∧ ∀ y ∈ rest, hopB y = true → cl y.dst ≠ cl x0.dst
theorem flat_len (r : Int → Int) (cl : Pl → Int) : ∀ l : List Mv, (l.flatMap fun y => stepsOf r (cl y.dst) y).length ≤ 2 * l.length
  | [] => by simp
  | x :: l => by
    have h1 := flat_len r cl l
    have h2 := stepsOf_len r (cl x.dst) x
    simp only [List.flatMap_cons, List.length_append, List.length_cons]
    omega
theorem OrI.turn (F : FitO r0 r1 fr l cl) (I : OrI r0 r1 fr l cl left done) (hp : PermL left) {first : Pl} {l1 l2 : List Mv} {x0 : Mv} {aside : Pl} (h : RingG left first (l1 ++ x0 :: l2) first) (ha : AsideP r0 r1 fr cl x0 (l2 ++ l1) aside) :
    OrI r0 r1 fr l cl (without left (l1 ++ x0 :: l2)) (done ++ stepsOf (regsR r0 r1) (cl x0.dst) ⟨x0.src, aside⟩ ++ ((l2 ++ l1).flatMap fun y => stepsOf (regsR r0 r1) (cl y.dst) y) ++ stepsOf (regsR r0 r1) (cl x0.dst) ⟨aside, x0.dst⟩) := by
  have hring : ∀ y, y ∈ l1 ++ x0 :: l2 → (∃ m ∈ l, m.dst = y.dst ∧ m.src = y.src) ∧ y.src ≠ y.dst := fun y hy => I.src _ _ (h.is y hy)
  have hreal : ∀ y, y ∈ l1 ++ x0 :: l2 → RealP r0 r1 fr y.src ∧ RealP r0 r1 fr y.dst ∧ SuitP (cl y.dst) y.src ∧ SuitP (cl y.dst) y.dst ∧ (cl y.dst = 0 ∨ cl y.dst = 1) ∧ srcOf l y.dst = y.src := fun y hy => by
    obtain ⟨⟨m, hm, hd, hs⟩, _⟩ := hring y hy
    have a := F.src m hm
    have b := F.dst m hm
    have c := F.cls m hm
    rw [hd, hs] at a
    rw [hd] at b c
    exact ⟨a.1, b.1, a.2, b.2, c, by rw [← hd, srcOf_mem F.nd hm, hs]⟩
  have hx0 : x0 ∈ l1 ++ x0 :: l2 := by simp
  have hrest : ∀ y, y ∈ l2 ++ l1 → y ∈ l1 ++ x0 :: l2 := fun y hy => by
    rcases List.mem_append.1 hy with hy | hy
    · exact List.mem_append_right _ (List.mem_cons_of_mem _ hy)
    · exact List.mem_append_left _ hy
  -- the ring, opened at x0
  have hrot : LinC x0.src (l2 ++ l1) x0.dst := by
    have e : l1 ++ x0 :: l2 = (l1 ++ [x0]) ++ l2 := by simp
    have hlin := h.lin
    rw [e] at hlin
    obtain ⟨m, a, b⟩ := (LinC.append (l1 ++ [x0])).1 hlin
    obtain ⟨c, d⟩ := LinC.snoc.1 a
    subst d
    exact (LinC.append l2).2 ⟨first, b, c⟩
  have hnd := h.nd
  unfold dsts at hnd
  rw [List.map_append, List.nodup_append, List.map_cons] at hnd
  obtain ⟨n1, n2, n3⟩ := hnd
  have n2' := List.nodup_cons.1 n2
  have ndr : (dsts (l2 ++ l1)).Nodup := by
    unfold dsts
    rw [List.map_append, List.nodup_append]
    exact ⟨n2'.2, n1, fun a ha b hb e => n3 b hb a (List.mem_cons_of_mem _ ha) e.symm⟩
  have hx0n : x0.dst ∉ dsts (l2 ++ l1) := by
    unfold dsts
    rw [List.map_append, List.mem_append]
    rintro (hh | hh)
    · exact n2'.1 hh
    · exact n3 _ hh _ (by simp) rfl
  have hmem : ∀ q, q ∈ dsts (l1 ++ x0 :: l2) ↔ q = x0.dst ∨ q ∈ dsts (l2 ++ l1) := fun q => by
    unfold dsts
    simp only [List.map_append, List.map_cons, List.mem_append, List.mem_cons]
    exact ⟨fun hh => by rcases hh with a | a | a; exact Or.inr (Or.inr a); exact Or.inl a; exact Or.inr (Or.inl a), fun hh => by rcases hh with a | a | a; exact Or.inr (Or.inl a); exact Or.inr (Or.inr a); exact Or.inl a⟩
  obtain ⟨fx0s, fx0d, sx0s, sx0d, cx0, ex0⟩ := hreal x0 hx0
  have haside : ∀ q, RealP r0 r1 fr q → q ≠ aside := fun q hq => by
    rcases ha with rfl | ⟨rfl, _⟩
    · exact hq.slot
    · exact hq.scr _
  have hmay : MayP r0 r1 fr aside := by
    rcases ha with rfl | ⟨rfl, _⟩
    · exact Or.inr ⟨rfl, rfl, F.hf, Int.le_refl _⟩
    · exact scr_may F.h0 F.h1 cx0
  have hsuit : SuitP (cl x0.dst) aside := by
    rcases ha with rfl | ⟨rfl, _⟩
    · intro e
      cases e
    · intro _
      rfl
  -- what there is behind each part
  let sa := runMvs (runMvs id done) (stepsOf (regsR r0 r1) (cl x0.dst) ⟨x0.src, aside⟩)
  have hsa : ∀ q, RealP r0 r1 fr q → sa q = runMvs id done q := fun q hq => by
    show runMvs _ (stepsOf _ _ _) q = _
    rw [stepsOf_run _ _ _ _ (Or.inl (hq.scr _))]
    exact updP_other (haside q hq)
  have hsa2 : sa aside = runMvs id done x0.src := by
    show runMvs _ (stepsOf _ _ _) aside = _
    rw [stepsOf_run]
    · exact updP_same _ _ _
    · rcases ha with rfl | ⟨rfl, _⟩
      · left
        intro e
        have := congrArg Pl.kind e
        cases this
      · right
        simp [hopB, scrP]
  let sb := runMvs sa ((l2 ++ l1).flatMap fun y => stepsOf (regsR r0 r1) (cl y.dst) y)
  have hsb : ∀ q, (RealP r0 r1 fr q ∨ q = aside) → sb q = match (l2 ++ l1).find? (fun y => decide (y.dst = q)) with | some y => sa y.src | none => sa q :=
    chain_run (regsR r0 r1) cl (fun q => RealP r0 r1 fr q ∨ q = aside) (l2 ++ l1) x0.src x0.dst sa hrot ndr hx0n (Or.inl fx0d) (fun y hy => Or.inl (hreal y (hrest y hy)).2.1) (fun y hy hb q hq => by
      rcases hq with hq | rfl
      · exact hq.scr _
      · rcases ha with rfl | ⟨rfl, hc⟩
        · intro e
          have := congrArg Pl.kind e
          cases this
        · intro e
          exact hc y hy hb (congrArg Pl.cls e).symm)
  have hval : ∀ y, y ∈ l1 ++ x0 :: l2 → runMvs id done y.src = y.src := fun y hy => by
    rw [I.val _ (hreal y hy).1, if_pos]
    exact Option.isSome_iff_ne_none.2 (hp.go _ _ (h.is y hy))
  refine ⟨fun g p e => ?_, fun g p e h2 => ?_, fun q hq => ?_, fun x hx => ?_, ?_⟩
  · unfold without at e
    split at e
    · cases e
    · exact I.src g p e
  · exact (h.perm hp).go g p e
  · rw [runMvs_append, runMvs_append, runMvs_append, stepsOf_run _ _ _ _ (Or.inl (hq.scr _))]
    show doMv sb _ q = _
    unfold doMv
    show updP sb x0.dst (sb aside) q = _
    by_cases e : q = x0.dst
    · rw [e, updP_same]
      have hw : without left (l1 ++ x0 :: l2) x0.dst = none := if_pos ((hmem _).2 (Or.inl rfl))
      rw [hw, ex0]
      have hnf : (l2 ++ l1).find? (fun y => decide (y.dst = aside)) = none := by
        rw [List.find?_eq_none]
        intro y hy e2
        exact haside _ (hreal y (hrest y hy)).2.1 (of_decide_eq_true e2)
      have h1 := hsb aside (Or.inr rfl)
      rw [hnf] at h1
      simp only at h1
      rw [h1, hsa2, hval x0 hx0]
      simp
    · rw [updP_other e, hsb q (Or.inl hq)]
      cases hf : (l2 ++ l1).find? (fun y => decide (y.dst = q)) with
      | some y =>
        simp only
        have hy := List.mem_of_find?_eq_some hf
        have hyq : y.dst = q := by simpa using List.find?_some hf
        have hy' := hrest y hy
        have hw : without left (l1 ++ x0 :: l2) q = none := if_pos ((hmem _).2 (Or.inr (List.mem_map.2 ⟨y, hy, hyq⟩)))
        rw [hw, hsa _ (hreal y hy').1, hval y hy', ← hyq, (hreal y hy').2.2.2.2.2]
        simp
      | none =>
        simp only
        rw [hsa q hq]
        have hw : without left (l1 ++ x0 :: l2) q = left q := by
          refine if_neg fun hin => ?_
          rcases (hmem q).1 hin with e2 | e2
          · exact e e2
          · obtain ⟨y, hy, hyq⟩ := List.mem_map.1 e2
            have := List.find?_eq_none.1 hf y hy
            simp [hyq] at this
        rw [hw]
        exact I.val q hq
  · rcases List.mem_append.1 hx with hx | hx
    · rcases List.mem_append.1 hx with hx | hx
      · rcases List.mem_append.1 hx with hx | hx
        · exact I.legal x hx
        · exact steps_legal (m := ⟨x0.src, aside⟩) F.h0 F.h1 cx0 fx0s.may hmay sx0s hsuit x hx
      · obtain ⟨y, hy, hx⟩ := List.mem_flatMap.1 hx
        obtain ⟨a, b, c, d, e, _⟩ := hreal y (hrest y hy)
        exact steps_legal F.h0 F.h1 e a.may b.may c d x hx
    · exact steps_legal (m := ⟨aside, x0.dst⟩) F.h0 F.h1 cx0 hmay fx0d.may hsuit sx0d x hx
  · have hc := cntL_without (left := left) F (l1 ++ x0 :: l2) h.nd (fun y hy e => by rw [h.is y hy] at e; cases e) (fun y hy => by
      obtain ⟨⟨m, hm, hd, _⟩, _⟩ := hring y hy
      exact ⟨m, hm, hd⟩)
    have hI := I.len
    have f1 := stepsOf_len (regsR r0 r1) (cl x0.dst) ⟨x0.src, aside⟩
    have f2 := flat_len (regsR r0 r1) cl (l2 ++ l1)
    have f3 := stepsOf_len (regsR r0 r1) (cl x0.dst) ⟨aside, x0.dst⟩
    -- a ring has two moves at least
    have hk : l2 ++ l1 ≠ [] := fun e => by
      rw [e] at hrot
      exact (hring x0 hx0).2 hrot
    have hk2 : 1 ≤ (l2 ++ l1).length := List.length_pos_iff.2 hk
    simp only [List.length_append, List.length_cons] at hc hI f2 hk2 ⊢
    omega
/-- All is done. -/
structure RightO (r0 r1 fr : Int) (l : List Mv) (done : List Mv) : Prop where
  val : ∀ q, RealP r0 r1 fr q → runMvs id done q = srcOf l q
  legal : ∀ x ∈ done, LegalM r0 r1 fr x
  len : done.length ≤ 4 * l.length
theorem OrI.right (I : OrI r0 r1 fr l cl left done) (h : ∀ m ∈ l, left m.dst = none) : RightO r0 r1 fr l done := by
  refine ⟨fun q hq => ?_, I.legal, by have := I.len; omega⟩
  rw [I.val q hq]
  cases e : left q with
  | none => simp
  | some p =>
    obtain ⟨⟨m, hm, rfl, _⟩, _⟩ := I.src q p e
    rw [h m hm] at e
    cases e
end
end Go.Proofs.Ytdlglinbjkaokab
