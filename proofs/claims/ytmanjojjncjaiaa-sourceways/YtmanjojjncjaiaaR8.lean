/-
  Events follow the edges (plain).
-/
import Derived.Test.YtmanjojjncjaiaaR6
namespace Go.Proofs.Ytmanjojjncjaiaa
open Go.RowKit
set_option linter.unusedVariables false

def usesN (os : List Opr) : Nat := (os.filter fun o => o.kind == 1).length
theorem reads_uses (now : List Int) (os : List Opr) : (readsM now os).length = usesN os := List.length_map _
/-- Through so many blocks without instructions. -/
def Hop (bs : List Blk) : Nat → Nat → Nat → Nat → Prop
  | 0, b, _, b' => b' = b
  | j + 1, b, k, b' => k = 0 ∧ ∃ e : Edg, (bs.getD b emptyB).instrs = [] ∧ (bs.getD b emptyB).edges = [e] ∧ 0 ≤ e.block ∧ e.block < (bs.length : Int) ∧ Hop bs j e.block.toNat 0 b'
/-- Events that follow the edges, from a place on. -/
def WalkP (bs : List Blk) : List Evt → Nat → Nat → Prop
  | [], _, _ => True
  | v :: r, b, k => ∃ j b', Hop bs j b k b' ∧ b' < bs.length ∧ v.block = (b' : Int) ∧ v.place = (k : Int) ∧ ∃ x, (bs.getD b' emptyB).instrs[k]? = some x ∧ v.read.length = usesN x.operands ∧
      (k + 1 < (bs.getD b' emptyB).instrs.length → v.edge = -1 ∧ WalkP bs r b' (k + 1)) ∧
      (k + 1 = (bs.getD b' emptyB).instrs.length → (bs.getD b' emptyB).edges = [] → v.edge = -1 ∧ r = []) ∧
      (k + 1 = (bs.getD b' emptyB).instrs.length → (bs.getD b' emptyB).edges ≠ [] → ∃ e : Edg, 0 ≤ v.edge ∧ (bs.getD b' emptyB).edges[v.edge.toNat]? = some e ∧ 0 ≤ e.block ∧ e.block < (bs.length : Int) ∧ WalkP bs r e.block.toNat 0)
theorem walk_hop {bs : List Blk} {l : List Evt} {b : Nat} {e : Edg} (h0 : (bs.getD b emptyB).instrs = []) (h1 : (bs.getD b emptyB).edges = [e]) (h2 : 0 ≤ e.block) (h3 : e.block < (bs.length : Int)) (h : WalkP bs l e.block.toNat 0) : WalkP bs l b 0 := by
  cases l with
  | nil => trivial
  | cons v r =>
    obtain ⟨j, b', hh, rest⟩ := h
    exact ⟨j + 1, b', ⟨rfl, e, h0, h1, h2, h3, hh⟩, rest⟩
def evOf (bs : List Blk) (seed : Int) (s : Rs) : List Evt := match s.wh with
  | .ins b k => [⟨b, k, readsM s.now ((bs.getD b emptyB).instrs.getD k emptyX).operands, takesM seed (bs.getD b emptyB).instrs (bs.getD b emptyB).edges.length k (readsM s.now ((bs.getD b emptyB).instrs.getD k emptyX).operands)⟩]
  | _ => []
theorem step_ev (bs : List Blk) (seed : Int) (s : Rs) : (srStep bs seed s).evs = s.evs ++ evOf bs seed s := by
  unfold srStep evOf
  split
  · rename_i h; rw [h]; simp
  · rename_i b h; rw [h, settle_evs]; simp
  · rename_i b k h; rw [settle_evs, h]
def gen (bs : List Blk) (seed : Int) : Nat → Rs → List Evt
  | 0, _ => []
  | m + 1, s => evOf bs seed s ++ gen bs seed m (srStep bs seed s)
def itr (bs : List Blk) (seed : Int) : Nat → Rs → Rs
  | 0, s => s
  | m + 1, s => srStep bs seed (itr bs seed m s)
theorem itr_succ (bs : List Blk) (seed : Int) : ∀ (m : Nat) (s : Rs), itr bs seed (m + 1) s = itr bs seed m (srStep bs seed s)
  | 0, _ => rfl
  | m + 1, s => by
    show srStep bs seed (itr bs seed (m + 1) s) = _
    rw [itr_succ bs seed m s]
    rfl
theorem itr_evs (bs : List Blk) (seed : Int) : ∀ (m : Nat) (s : Rs), (itr bs seed m s).evs = s.evs ++ gen bs seed m s
  | 0, s => by simp [itr, gen]
  | m + 1, s => by
    rw [itr_succ, itr_evs bs seed m, step_ev, List.append_assoc]
    rfl
theorem run_itr (bs : List Blk) (nv : Nat) (seed : Int) : ∀ n, runM bs nv seed n = itr bs seed n (runM bs nv seed 0)
  | 0 => rfl
  | n + 1 => by show srStep bs seed (runM bs nv seed n) = _; rw [run_itr bs nv seed n]; rfl
theorem run_gen (bs : List Blk) (nv : Nat) (seed : Int) (n : Nat) : (runM bs nv seed n).evs = gen bs seed n (runM bs nv seed 0) := by
  rw [run_itr, itr_evs]
  rfl
theorem gen_stop (bs : List Blk) (seed : Int) : ∀ (m : Nat) (s : Rs), s.wh = .stop → gen bs seed m s = []
  | 0, _, _ => rfl
  | m + 1, s, h => by
    have e : srStep bs seed s = s := by unfold srStep; rw [h]
    show evOf bs seed s ++ gen bs seed m (srStep bs seed s) = []
    rw [e, gen_stop bs seed m s h]
    unfold evOf
    rw [h]
    rfl
/-- Where one is, and what comes. -/
def Good0 (bs : List Blk) (s : Rs) (l : List Evt) : Prop := match s.wh with
  | .come b => b < bs.length → WalkP bs l b 0
  | .ins b k => b < bs.length → k < (bs.getD b emptyB).instrs.length → WalkP bs l b k
  | .stop => l = []
theorem getD_mem {bs : List Blk} {b : Nat} (h : b < bs.length) : bs.getD b emptyB ∈ bs := by
  rw [List.getD_eq_getElem?_getD, List.getElem?_eq_getElem h]
  exact List.getElem_mem h
/-- Where a block's instructions end, all goes on by the edge that is taken. -/
theorem good_settle {nv : Nat} {bs : List Blk} (hf : FitsR nv bs) {b k : Nat} {t : Int} {now : List Int} {evs l : List Evt} (hb : b < bs.length) (hk : k = (bs.getD b emptyB).instrs.length) (ht : (bs.getD b emptyB).edges = [] ∨ 0 ≤ t ∧ t < ((bs.getD b emptyB).edges.length : Int)) (h : Good0 bs (settle bs b k t now evs) l) :
    ((bs.getD b emptyB).edges = [] → l = []) ∧ ((bs.getD b emptyB).edges ≠ [] → ∃ e : Edg, 0 ≤ t ∧ (bs.getD b emptyB).edges[t.toNat]? = some e ∧ 0 ≤ e.block ∧ e.block < (bs.length : Int) ∧ WalkP bs l e.block.toNat 0) := by
  unfold settle at h
  rw [if_neg (by omega)] at h
  refine ⟨fun he => ?_, fun he => ?_⟩
  · rw [if_pos he] at h
    exact h
  · rw [if_neg he] at h
    obtain ⟨t0, t1⟩ := ht.resolve_left he
    have hl : t.toNat < (bs.getD b emptyB).edges.length := by omega
    have eg : (bs.getD b emptyB).edges.getD t.toNat emptyE = (bs.getD b emptyB).edges[t.toNat] := by rw [List.getD_eq_getElem?_getD, List.getElem?_eq_getElem hl]; rfl
    simp only [eg] at h
    have fe := ((hf.edg _ (getD_mem hb)).2 _ (List.getElem_mem hl)).1
    refine ⟨_, t0, List.getElem?_eq_getElem hl, fe.1, fe.2, ?_⟩
    exact h (by omega)
theorem gen_good {nv : Nat} {bs : List Blk} (hf : FitsR nv bs) (h2 : ∀ b ∈ bs, 1 < b.edges.length → 0 < b.instrs.length) (seed : Int) : ∀ (m : Nat) (s : Rs), Good0 bs s (gen bs seed m s)
  | 0, s => by
    unfold Good0
    split
    · exact fun _ => trivial
    · exact fun _ _ => trivial
    · rfl
  | m + 1, s => by
    have ih := gen_good hf h2 seed m (srStep bs seed s)
    obtain ⟨wh, now, evs⟩ := s
    cases wh with
    | stop => exact gen_stop bs seed _ _ rfl
    | come b =>
      intro hb
      show WalkP bs (evOf bs seed ⟨.come b, now, evs⟩ ++ gen bs seed m (srStep bs seed ⟨.come b, now, evs⟩)) b 0
      show WalkP bs (gen bs seed m (settle bs b 0 0 now evs)) b 0
      have ih' : Good0 bs (settle bs b 0 0 now evs) (gen bs seed m (settle bs b 0 0 now evs)) := ih
      generalize gen bs seed m (settle bs b 0 0 now evs) = l at *
      by_cases hi : 0 < (bs.getD b emptyB).instrs.length
      · unfold settle at ih'
        rw [if_pos hi] at ih'
        exact ih' hb hi
      · have hi0 : (bs.getD b emptyB).instrs = [] := List.length_eq_zero_iff.1 (by omega)
        have hone : (bs.getD b emptyB).edges.length ≤ 1 := by
          have := h2 _ (getD_mem hb)
          omega
        have hs := good_settle hf hb (by omega) (by cases h : (bs.getD b emptyB).edges with | nil => exact Or.inl rfl | cons a r => exact Or.inr ⟨by omega, by simp⟩) ih'
        cases he : (bs.getD b emptyB).edges with
        | nil => rw [hs.1 he]; trivial
        | cons e r =>
          have hr : r = [] := by rw [he] at hone; simp at hone; exact hone
          obtain ⟨e', _, h4, h5, h6, h7⟩ := hs.2 (by rw [he]; simp)
          rw [he] at h4
          simp at h4
          subst h4
          exact walk_hop hi0 (by rw [he, hr]) h5 h6 h7
    | ins b k =>
      intro hb hk
      obtain ⟨x, hx⟩ : ∃ x, (bs.getD b emptyB).instrs[k]? = some x := ⟨_, List.getElem?_eq_getElem hk⟩
      have ex : (bs.getD b emptyB).instrs.getD k emptyX = x := by rw [List.getD_eq_getElem?_getD, hx]; rfl
      show WalkP bs (evOf bs seed ⟨.ins b k, now, evs⟩ ++ gen bs seed m (srStep bs seed ⟨.ins b k, now, evs⟩)) b k
      unfold evOf
      simp only [ex]
      unfold srStep at ih ⊢
      simp only [ex] at ih ⊢
      generalize hrd : readsM now x.operands = rd at *
      obtain ⟨tk, htk⟩ : ∃ tk, takesM seed (bs.getD b emptyB).instrs (bs.getD b emptyB).edges.length (k : Int) rd = tk := ⟨_, rfl⟩
      rw [htk] at ih ⊢
      generalize makesM seed x.op rd 0 x.operands now = nw at *
      generalize evs ++ [(⟨(b : Int), (k : Int), rd, tk⟩ : Evt)] = ev2 at *
      generalize gen bs seed m (settle bs b (k + 1) tk nw ev2) = l at *
      refine ⟨0, b, rfl, hb, rfl, rfl, x, hx, by show rd.length = _; rw [← hrd]; exact reads_uses _ _, fun hlt => ?_, fun hl he => ?_, fun hl he => ?_⟩
      · refine ⟨?_, ?_⟩
        · show tk = -1
          rw [← htk]
          unfold takesM
          rw [if_pos (by omega)]
        · unfold settle at ih
          rw [if_pos hlt] at ih
          exact ih hb hlt
      · have hs := good_settle hf hb hl (Or.inl he) ih
        refine ⟨?_, hs.1 he⟩
        show tk = -1
        rw [← htk]
        unfold takesM
        rw [if_pos (by rw [he]; simp)]
      · have hbd := takes_bd seed (bs.getD b emptyB).instrs (bs.getD b emptyB).edges.length k rd hl
        rw [htk] at hbd
        have hne : (bs.getD b emptyB).edges.length ≠ 0 := fun h => he (List.length_eq_zero_iff.1 h)
        exact (good_settle hf hb hl (Or.inr (hbd.resolve_left hne)) ih).2 he
theorem run_walk {nv : Nat} {bs : List Blk} (hf : FitsR nv bs) (h2 : ∀ b ∈ bs, 1 < b.edges.length → 0 < b.instrs.length) (hp : 0 < bs.length) (seed : Int) (n : Nat) : WalkP bs (runM bs nv seed n).evs 0 0 := by
  rw [run_gen]
  exact gen_good hf h2 seed n (runM bs nv seed 0) hp
end Go.Proofs.Ytmanjojjncjaiaa
