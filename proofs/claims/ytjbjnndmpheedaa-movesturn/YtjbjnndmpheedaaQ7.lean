/-
  What an output does, step by step, by its places (plain).
-/
import Derived.Test.YtjbjnndmpheedaaQ6
namespace Go.Proofs.Ytjbjnndmpheedaa
open Go.RowKit
set_option linter.unusedVariables false

structure MEvt where
  block : Int
  place : Int
  read : List Int
  edge : Int
/-- Where one is: about to come to a block, about to do an instruction, or at the end. -/
inductive MWh where
  | come (b : Nat)
  | ins (b k : Nat)
  | stop
structure Ms where
  wh : MWh
  pm : Pm
  evs : List MEvt
def emptyBm : Blk := ⟨[], [], []⟩
def emptyEm : Edg := ⟨0, []⟩
def emptyXm : Ins := ⟨0, [], []⟩
/-- The moves that stand at a spot: of edits at one spot the last. -/
def mvAt (eds : List Ed) (b k : Nat) : List Mv := eds.foldl (fun acc e => if e.block = (b : Int) ∧ e.pos = (k : Int) then e.moves else acc) []
/-- About to do number k of block b; behind the last one its moves are made and the edge is taken. -/
def msettle (bs : List Blk) (eds : List Ed) (b k : Nat) (taken : Int) (s : Pm) (evs : List MEvt) : Ms :=
  if k < (bs.getD b emptyBm).instrs.length then ⟨.ins b k, s, evs⟩
  else if (bs.getD b emptyBm).edges = [] then ⟨.stop, (mvAt eds b (bs.getD b emptyBm).instrs.length).foldl mvM s, evs⟩
  else ⟨.come ((bs.getD b emptyBm).edges.getD taken.toNat emptyEm).block.toNat, (mvAt eds b (bs.getD b emptyBm).instrs.length).foldl mvM s, evs⟩
def plsAt (pl : List (List (List Pl))) (b k : Nat) : List Pl := (pl.getD b []).getD k []
def mrStep (bs : List Blk) (pl : List (List (List Pl))) (eds : List Ed) (seed : Int) (jl : List Int) (s : Ms) : Ms :=
  match s.wh with
  | .stop => s
  | .come b => msettle bs eds b 0 0 s.pm s.evs
  | .ins b k =>
    let x := (bs.getD b emptyBm).instrs.getD k emptyXm
    let s1 := (mvAt eds b k).foldl mvM s.pm
    let read := doesR jl s1 x.operands (plsAt pl b k) x.spoils
    let taken := takesM seed (bs.getD b emptyBm).instrs (bs.getD b emptyBm).edges.length k read
    msettle bs eds b (k + 1) taken (doesS seed x.op jl s1 x.operands (plsAt pl b k) x.spoils) (s.evs ++ [⟨b, k, read, taken⟩])
def mrunM (bs : List Blk) (pl : List (List (List Pl))) (eds : List Ed) (seed : Int) (jl : List Int) (s0 : Pm) : Nat → Ms
  | 0 => ⟨.come 0, s0, []⟩
  | n + 1 => mrStep bs pl eds seed jl (mrunM bs pl eds seed jl s0 n)
section
variable {bs : List Blk} {pl : List (List (List Pl))} {eds : List Ed} {seed : Int} {jl : List Int} {s0 : Pm}
theorem msettle_evs (b k : Nat) (t : Int) (s : Pm) (evs : List MEvt) : (msettle bs eds b k t s evs).evs = evs := by
  unfold msettle
  split
  · rfl
  · split <;> rfl
theorem mstep_evs (s : Ms) : ∃ l, (mrStep bs pl eds seed jl s).evs = s.evs ++ l ∧ l.length ≤ 1 := by
  unfold mrStep
  split
  · exact ⟨[], by simp, by simp⟩
  · exact ⟨[], by rw [msettle_evs]; simp, by simp⟩
  · exact ⟨_, msettle_evs _ _ _ _ _, by simp⟩
theorem mrun_one : (mrunM bs pl eds seed jl s0 1).evs = [] := msettle_evs _ _ _ _ _
theorem mrun_few : ∀ n, (mrunM bs pl eds seed jl s0 (n + 1)).evs.length ≤ n
  | 0 => by rw [mrun_one]; simp
  | n + 1 => by
    obtain ⟨l, h, hl⟩ := mstep_evs (bs := bs) (pl := pl) (eds := eds) (seed := seed) (jl := jl) (mrunM bs pl eds seed jl s0 (n + 1))
    have := mrun_few n
    show (mrStep bs pl eds seed jl (mrunM bs pl eds seed jl s0 (n + 1))).evs.length ≤ n + 1
    rw [h, List.length_append]
    omega
/-- More steps do the same, and more. -/
theorem mrun_more (n : Nat) : ∀ m, ∃ l, (mrunM bs pl eds seed jl s0 (n + m)).evs = (mrunM bs pl eds seed jl s0 n).evs ++ l
  | 0 => ⟨[], by simp⟩
  | m + 1 => by
    obtain ⟨l, h⟩ := mrun_more n m
    obtain ⟨l', h', _⟩ := mstep_evs (bs := bs) (pl := pl) (eds := eds) (seed := seed) (jl := jl) (mrunM bs pl eds seed jl s0 (n + m))
    exact ⟨l ++ l', by show (mrStep bs pl eds seed jl (mrunM bs pl eds seed jl s0 (n + m))).evs = _; rw [h', h, List.append_assoc]⟩
/-- Whoever has stopped stays. -/
theorem mrun_stop (n : Nat) (h : (mrunM bs pl eds seed jl s0 n).wh = .stop) : ∀ m, mrunM bs pl eds seed jl s0 (n + m) = mrunM bs pl eds seed jl s0 n
  | 0 => rfl
  | m + 1 => by
    show mrStep bs pl eds seed jl (mrunM bs pl eds seed jl s0 (n + m)) = _
    rw [mrun_stop n h m]
    unfold mrStep
    rw [h]
theorem mevs_at {steps t : Nat} (h : t ≤ steps) (hs : (mrunM bs pl eds seed jl s0 t).wh = .stop) : (mrunM bs pl eds seed jl s0 steps).evs = (mrunM bs pl eds seed jl s0 t).evs := by
  have := mrun_stop t hs (steps - t)
  rw [show t + (steps - t) = steps by omega] at this
  rw [this]
theorem mstep_come (b : Nat) (s : Pm) (evs : List MEvt) : mrStep bs pl eds seed jl ⟨.come b, s, evs⟩ = msettle bs eds b 0 0 s evs := rfl
theorem mstep_ins (b k : Nat) (t : Int) (s : Pm) (evs : List MEvt) (blk : Blk) (x : Ins) (hb : bs[b]? = some blk) (hx : blk.instrs[k]? = some x) :
    mrStep bs pl eds seed jl (msettle bs eds b k t s evs) = msettle bs eds b (k + 1) (takesM seed blk.instrs blk.edges.length k (doesR jl ((mvAt eds b k).foldl mvM s) x.operands (plsAt pl b k) x.spoils)) (doesS seed x.op jl ((mvAt eds b k).foldl mvM s) x.operands (plsAt pl b k) x.spoils) (evs ++ [⟨b, k, doesR jl ((mvAt eds b k).foldl mvM s) x.operands (plsAt pl b k) x.spoils, takesM seed blk.instrs blk.edges.length k (doesR jl ((mvAt eds b k).foldl mvM s) x.operands (plsAt pl b k) x.spoils)⟩]) := by
  have e1 : bs.getD b emptyBm = blk := by rw [List.getD_eq_getElem?_getD, hb]; rfl
  have e2 : blk.instrs.getD k emptyXm = x := by rw [List.getD_eq_getElem?_getD, hx]; rfl
  have hk : k < blk.instrs.length := (List.getElem?_eq_some_iff.1 hx).1
  have e3 : msettle bs eds b k t s evs = ⟨.ins b k, s, evs⟩ := by unfold msettle; rw [e1, if_pos hk]
  rw [e3]
  unfold mrStep
  simp only [e1, e2]
theorem msettle_end (b k : Nat) (t : Int) (s : Pm) (evs : List MEvt) (blk : Blk) (hb : bs[b]? = some blk) (hk : blk.instrs.length ≤ k) (he : blk.edges = []) : msettle bs eds b k t s evs = ⟨.stop, (mvAt eds b blk.instrs.length).foldl mvM s, evs⟩ := by
  have e1 : bs.getD b emptyBm = blk := by rw [List.getD_eq_getElem?_getD, hb]; rfl
  unfold msettle
  rw [e1, if_neg (by omega), if_pos he]
theorem msettle_on (b k : Nat) (t : Int) (s : Pm) (evs : List MEvt) (blk : Blk) (e : Edg) (b2 : Nat) (hb : bs[b]? = some blk) (hk : blk.instrs.length ≤ k) (he : blk.edges[t.toNat]? = some e) (hb2 : e.block.toNat = b2) : msettle bs eds b k t s evs = ⟨.come b2, (mvAt eds b blk.instrs.length).foldl mvM s, evs⟩ := by
  have e1 : bs.getD b emptyBm = blk := by rw [List.getD_eq_getElem?_getD, hb]; rfl
  have e2 : blk.edges.getD t.toNat emptyEm = e := by rw [List.getD_eq_getElem?_getD, he]; rfl
  unfold msettle
  rw [e1, if_neg (by omega), if_neg (fun h => by rw [h] at he; simp at he), e2, hb2]
end
/-- What is next of the junk stays one of it. -/
theorem mvs_nx (jl : List Int) : ∀ (l : List Mv) (s : Pm), NxOk jl s → NxOk jl (l.foldl mvM s)
  | [], _, h => h
  | m :: r, s, h => mvs_nx jl r _ (by unfold NxOk mvM at *; rw [putP_nx]; exact h)
end Go.Proofs.Ytjbjnndmpheedaa
