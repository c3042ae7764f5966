/-
  What a function does, step by step, by its values (plain).
  The walk's own memory, and the contracts of 'step' and 'reads'.
-/
import Derived.Test.YtmkloakahefjiaaR1
import Derived.Test.YtmkloakahefjiaaA1
import Derived.Deep.OwnRows
import Derived.Laws.MakeOwn
import Derived.Deep.DeepCutAuto
import Derived.Deep.CutBlock
namespace Go.Proofs.Ytmkloakahefjiaa
open Go.RowKit
set_option linter.unusedVariables false

structure Evt where
  block : Int
  place : Int
  read : List Int
  edge : Int

def readsM (now : List Int) (os : List Opr) : List Int := (os.filter fun o => o.kind == 1).map fun o => now.getD o.value.toNat 0
def makesM (seed op : Int) (read : List Int) : Nat → List Opr → List Int → List Int
  | _, [], now => now
  | k, o :: r, now => makesM seed op read (k + 1) r (if o.kind = 2 then now.set o.value.toNat (mixL 7 ([seed, op, (k : Int)] ++ read)) else now)
def setsM : List Int → List Int → List Int → List Int
  | p :: ps, g :: gs, now => setsM ps gs (now.set p.toNat g)
  | _, _, now => now
def handM (now params args : List Int) : List Int := setsM params (args.map fun v => now.getD v.toNat 0) now

/-- Where one is: about to come to a block, about to do an instruction, or at the end. -/
inductive Wh where
  | come (b : Nat)
  | ins (b k : Nat)
  | stop
structure Rs where
  wh : Wh
  now : List Int
  evs : List Evt

def emptyB : Blk := ⟨[], [], []⟩
def emptyE : Edg := ⟨0, []⟩
def emptyX : Ins := ⟨0, [], []⟩
/-- About to do number k of block b; behind the last one the edge is taken. -/
def settle (bs : List Blk) (b k : Nat) (taken : Int) (now : List Int) (evs : List Evt) : Rs :=
  if k < (bs.getD b emptyB).instrs.length then ⟨.ins b k, now, evs⟩
  else if (bs.getD b emptyB).edges = [] then ⟨.stop, now, evs⟩
  else
    let e := (bs.getD b emptyB).edges.getD taken.toNat emptyE
    ⟨.come e.block.toNat, handM now (bs.getD e.block.toNat emptyB).params e.args, evs⟩
def srStep (bs : List Blk) (seed : Int) (s : Rs) : Rs :=
  match s.wh with
  | .stop => s
  | .come b => settle bs b 0 0 s.now s.evs
  | .ins b k =>
    let x := (bs.getD b emptyB).instrs.getD k emptyX
    let read := readsM s.now x.operands
    let taken := takesM seed (bs.getD b emptyB).instrs (bs.getD b emptyB).edges.length k read
    settle bs b (k + 1) taken (makesM seed x.op read 0 x.operands s.now) (s.evs ++ [⟨b, k, read, taken⟩])
def runM (bs : List Blk) (nv : Nat) (seed : Int) : Nat → Rs
  | 0 => ⟨.come 0, List.replicate nv 0, []⟩
  | n + 1 => srStep bs seed (runM bs nv seed n)

theorem setsM_length : ∀ (ps gs now : List Int), (setsM ps gs now).length = now.length
  | [], _, _ => by simp [setsM]
  | _ :: _, [], _ => by simp [setsM]
  | p :: ps, g :: gs, now => by simp [setsM, setsM_length ps gs]
theorem makesM_length (seed op : Int) (read : List Int) : ∀ (os : List Opr) (k : Nat) (now : List Int), (makesM seed op read k os now).length = now.length
  | [], _, _ => rfl
  | o :: r, k, now => by
    unfold makesM
    rw [makesM_length seed op read r]
    split <;> simp
theorem settle_evs (bs : List Blk) (b k : Nat) (t : Int) (now : List Int) (evs : List Evt) : (settle bs b k t now evs).evs = evs := by
  unfold settle
  split
  · rfl
  · split <;> rfl
theorem step_evs (bs : List Blk) (seed : Int) (s : Rs) : ∃ l, (srStep bs seed s).evs = s.evs ++ l ∧ l.length ≤ 1 := by
  unfold srStep
  split
  · exact ⟨[], by simp, by simp⟩
  · exact ⟨[], by rw [settle_evs]; simp, by simp⟩
  · exact ⟨_, settle_evs _ _ _ _ _ _, by simp⟩
/-- More steps do the same, and more. -/
theorem run_more (bs : List Blk) (nv : Nat) (seed : Int) (n : Nat) : ∀ m, ∃ l, (runM bs nv seed (n + m)).evs = (runM bs nv seed n).evs ++ l
  | 0 => ⟨[], by simp⟩
  | m + 1 => by
    obtain ⟨l, h⟩ := run_more bs nv seed n m
    obtain ⟨l', h', _⟩ := step_evs bs seed (runM bs nv seed (n + m))
    exact ⟨l ++ l', by show (srStep bs seed (runM bs nv seed (n + m))).evs = _; rw [h', h, List.append_assoc]⟩
theorem run_one (bs : List Blk) (nv : Nat) (seed : Int) : (runM bs nv seed 1).evs = [] := settle_evs _ _ _ _ _ _
theorem run_few (bs : List Blk) (nv : Nat) (seed : Int) : ∀ n, (runM bs nv seed (n + 1)).evs.length ≤ n
  | 0 => by rw [run_one]; simp
  | n + 1 => by
    obtain ⟨l, h, hl⟩ := step_evs bs seed (runM bs nv seed (n + 1))
    have := run_few bs nv seed n
    show (srStep bs seed (runM bs nv seed (n + 1))).evs.length ≤ n + 1
    rw [h, List.length_append]
    omega
/-- Whoever has stopped stays. -/
theorem run_stop (bs : List Blk) (nv : Nat) (seed : Int) (n : Nat) (h : (runM bs nv seed n).wh = .stop) : ∀ m, runM bs nv seed (n + m) = runM bs nv seed n
  | 0 => rfl
  | m + 1 => by
    show srStep bs seed (runM bs nv seed (n + m)) = _
    rw [run_stop bs nv seed n h m]
    unfold srStep
    rw [h]
theorem settle_now (bs : List Blk) (b k : Nat) (t : Int) (now : List Int) (evs : List Evt) : (settle bs b k t now evs).now.length = now.length := by
  unfold settle
  split
  · rfl
  · split
    · rfl
    · exact setsM_length _ _ _
theorem run_now (bs : List Blk) (nv : Nat) (seed : Int) : ∀ n, (runM bs nv seed n).now.length = nv
  | 0 => by simp [runM]
  | n + 1 => by
    show (srStep bs seed (runM bs nv seed n)).now.length = nv
    unfold srStep
    split
    · exact run_now bs nv seed n
    · rw [settle_now]; exact run_now bs nv seed n
    · rw [settle_now, makesM_length]; exact run_now bs nv seed n
/-- What there is of a step, from a place in a block. -/
theorem step_come (bs : List Blk) (seed : Int) (b : Nat) (now : List Int) (evs : List Evt) : srStep bs seed ⟨.come b, now, evs⟩ = settle bs b 0 0 now evs := rfl
theorem step_ins (bs : List Blk) (seed : Int) (b k : Nat) (t : Int) (now : List Int) (evs : List Evt) (blk : Blk) (x : Ins) (hb : bs[b]? = some blk) (hx : blk.instrs[k]? = some x) :
    srStep bs seed (settle bs b k t now evs) = settle bs b (k + 1) (takesM seed blk.instrs blk.edges.length k (readsM now x.operands)) (makesM seed x.op (readsM now x.operands) 0 x.operands now) (evs ++ [⟨b, k, readsM now x.operands, takesM seed blk.instrs blk.edges.length k (readsM now x.operands)⟩]) := by
  have e1 : bs.getD b emptyB = blk := by rw [List.getD_eq_getElem?_getD, hb]; rfl
  have e2 : blk.instrs.getD k emptyX = x := by rw [List.getD_eq_getElem?_getD, hx]; rfl
  have hk : k < blk.instrs.length := (List.getElem?_eq_some_iff.1 hx).1
  have e3 : settle bs b k t now evs = ⟨.ins b k, now, evs⟩ := by unfold settle; rw [e1, if_pos hk]
  rw [e3]
  unfold srStep
  simp only [e1, e2]
theorem settle_end (bs : List Blk) (b k : Nat) (t : Int) (now : List Int) (evs : List Evt) (blk : Blk) (hb : bs[b]? = some blk) (hk : blk.instrs.length ≤ k) (he : blk.edges = []) : settle bs b k t now evs = ⟨.stop, now, evs⟩ := by
  have e1 : bs.getD b emptyB = blk := by rw [List.getD_eq_getElem?_getD, hb]; rfl
  unfold settle
  rw [e1, if_neg (by omega), if_pos he]
theorem settle_on (bs : List Blk) (b k : Nat) (t : Int) (now : List Int) (evs : List Evt) (blk blk2 : Blk) (e : Edg) (b2 : Nat) (hb : bs[b]? = some blk) (hk : blk.instrs.length ≤ k) (he : blk.edges[t.toNat]? = some e) (hb2 : e.block.toNat = b2) (hb3 : bs[b2]? = some blk2) : settle bs b k t now evs = ⟨.come b2, handM now blk2.params e.args, evs⟩ := by
  have e1 : bs.getD b emptyB = blk := by rw [List.getD_eq_getElem?_getD, hb]; rfl
  have e2 : blk.edges.getD t.toNat emptyE = e := by rw [List.getD_eq_getElem?_getD, he]; rfl
  have e3 : bs.getD b2 emptyB = blk2 := by rw [List.getD_eq_getElem?_getD, hb3]; rfl
  unfold settle
  rw [e1, if_neg (by omega), if_neg (fun h => by rw [h] at he; simp at he)]
  simp only [e2, hb2, e3]
end Go.Proofs.Ytmkloakahefjiaa
namespace Go.Proofs.Ytmkloakahefjiaa
open Go.RowKit
set_option linter.unusedVariables false

/-- The walk's box: the function, the seed, what is left, the values, the events. -/
def wkRow (vv vb : Value) (seed left : Int) (vn ve : Value) : Nat → Value := fun q => if q = 0 then vv else if q = 1 then vb else if q = 2 then .int .i64 seed else if q = 3 then .int .i64 left else if q = 4 then vn else ve
def nowF (now : List Int) : Nat → Value := fun i => .int .i64 (now.getD i 0)
theorem gr_below {w w' : World} {r : Option Nat} (h : Below w.heap.size w w') : w.grownBy w' r := ⟨h.os, h.tape, h.output, h.size, fun b hb _ => h.block b hb⟩
theorem gr_trans {w w1 w2 : World} {r : Option Nat} (h : w.grownBy w1 r) (h2 : w1.grownBy w2 r) : w.grownBy w2 r := ⟨h2.os.trans h.os, h2.tape.trans h.tape, h2.output.trans h.output, Nat.le_trans h.size h2.size, fun k hk hn => (h2.block k (Nat.lt_of_lt_of_le hk h.size) hn).trans (h.block k hk hn)⟩
theorem gr_set {w : World} {Y i : Nat} {v : Value} : w.grownBy (w.setCell ⟨Y, i, none⟩ v) (some Y) :=
  ⟨rfl, rfl, rfl, by simp [World.setCell], fun k _ hn => Below.heap_setCell _ _ _ _ (fun e => hn (by rw [e]))⟩
theorem gr_low {w w' : World} {B Y : Nat} (h : w.grownBy w' (some Y)) (hB : B ≤ w.heap.size) (hY : B ≤ Y) : Below B w w' := ⟨h.os, h.tape, h.output, h.size, fun b hb => h.block b (by omega) (fun e => by simp at e; omega)⟩
theorem gr_cell {w w' : World} {Y b o : Nat} {v : Value} (h : w.grownBy w' (some Y)) (hb : b ≠ Y) (hc : w.cell? ⟨b, o, none⟩ = some v) : w'.cell? ⟨b, o, none⟩ = some v :=
  (World.cell?_of_block (a := ⟨b, o, none⟩) (h.block b (block_lt hc) (fun e => hb (by simpa using e)))).trans hc
/-- A list whose cells do not lie in block Y reads as it did. -/
theorem sl_far {w w' : World} {Y : Nat} {a : Option Addr} {n c : Nat} {l : List Int} (h : SlOf w 1 RInt (.slice a n c) l) (hg : w.grownBy w' (some Y)) (hn : l = [] ∨ ∀ g, (Value.slice a n c).ownBlock = some g → g ≠ Y) : SlOf w' 1 RInt (.slice a n c) l := by
  obtain ⟨a', c', hv, hl, h1⟩ := h
  refine ⟨a', c', hv, hl, ?_⟩
  rcases hn with e | hn
  · exact Or.inl e
  · refine h1.imp id ?_
    rintro ⟨b, off, ha, h2⟩
    refine ⟨b, off, ha, fun i hi => ?_⟩
    obtain ⟨cs, h3, h4, h5⟩ := h2 i hi
    have hb : b ≠ Y := hn b (by rw [hv, ha]; rfl)
    exact ⟨cs, h3, h4, fun j hj => gr_cell hg hb (h5 j hj)⟩

theorem wstep_any (X : Nat) (vv vb vn ve : Value) (seed left : Int) (r : Bool) (w : World) (h : w.rowIs X 37 6 (wkRow vv vb seed left vn ve)) (h0 : -1000000 ≤ left) (h1 : left ≤ 1000000) (hr : decide (1 ≤ left) = r) :
    Calls Try.prog 15 #[.pointer (some ⟨X, 0, none⟩)] w fun e w' => e = .returned (.bool r) ∧ w' = w.setCell ⟨X, 3, none⟩ (.int .i64 (left - 1)) := by
  have c3 : w.cell? ⟨X, 3, none⟩ = some (.int .i64 left) := h.cell (i := 3) (by omega)
  have z3 := h.frozen 3
  have d3 : (w.setCell ⟨X, 3, none⟩ (.int .i64 (left - 1))).cell? ⟨X, 3, none⟩ = some (.int .i64 (left - 1)) := (h.set 3 (.int .i64 (left - 1))).cell (i := 3) (by omega)
  have HR : Hid (decide (1 ≤ left) = r) := hr
  have lX := h.lt
  clear h hr
  go_enter Try.func15, Try.ntmps15
  go_upto_region 2 with fail
  obtain ⟨W, hW⟩ : ∃ W, W = w.setCell ⟨X, 3, none⟩ (.int .i64 (left - 1)) := ⟨_, rfl⟩
  rw [← hW] at d3 ⊢
  have HW : Hid (W = w.setCell ⟨X, 3, none⟩ (.int .i64 (left - 1))) := hW
  clear c3 z3 hW
  go_wp2
  go_ret
  exact ⟨ret_bool HR.out, HW.out⟩

theorem reads_take (now : List Int) (os : List Opr) (j : Nat) (h : j < os.length) : readsM now (os.take (j + 1)) = if os[j].kind = 1 then readsM now (os.take j) ++ [now.getD os[j].value.toNat 0] else readsM now (os.take j) := by
  unfold readsM
  rw [List.take_succ_eq_append_getElem h, List.filter_append, List.map_append]
  by_cases hk : os[j].kind = 1 <;> simp [hk]
theorem reads_few (now : List Int) (os : List Opr) : (readsM now os).length ≤ os.length := by
  unfold readsM
  rw [List.length_map]
  exact List.length_filter_le _ _

set_option maxHeartbeats 4000000 in
theorem wreads_any (X Y nv no co : Nat) (vv vb ve vs : Value) (seed left op : Int) (now : List Int) (os : List Opr) (ao : Option Addr) (w : World) (hx : w.rowIs X 37 6 (wkRow vv vb seed left (.slice (some ⟨Y, 0, none⟩) nv nv) ve)) (hy : w.rowIs Y 3 nv (nowF now)) (hos : SlOf w 5 ROpr (.slice ao no co) os) (hl : os.length = no) (hd : ∀ o ∈ os, 0 ≤ o.value ∧ o.value < (nv : Int)) (hno : no ≤ 1000) (hnv : nv ≤ 1000) :
    Calls Try.prog 16 #[.pointer (some ⟨X, 0, none⟩), .agg #[.int .i64 op, .slice ao no co, vs]] w fun e w' => ∃ a n c, n = (readsM now os).length ∧ e = .returned (.slice a n c) ∧ GrS w w.heap.size (.slice a n c) (readsM now os) w' := by
  obtain ⟨i3, hi3, hz3, hz31, hz32⟩ := ru_parts ruInfo
  obtain ⟨N, hN⟩ : ∃ N, w.heap.size = N := ⟨_, rfl⟩
  obtain ⟨W, hW⟩ : ∃ W, W = w.alloc (.cells #[.int .i64 op, .slice ao no co, vs] 47) := ⟨_, rfl⟩
  have c1 : W.cell? ⟨N, 1, none⟩ = some (.slice ao no co) := by rw [hW, ← hN]; simp
  have HS0 : Hid (GrS w N (.slice none 0 0) [] W) := by
    show GrS _ _ _ _ _
    rw [hW, ← hN]
    exact (GrS.nil w).below ((Below.refl _ _).alloc (Nat.le_refl _) _)
  have lX : X < N := by rw [← hN]; exact hx.lt
  have lY : Y < N := by rw [← hN]; exact hy.lt
  have HX : Hid (w.rowIs X 37 6 (wkRow vv vb seed left (.slice (some ⟨Y, 0, none⟩) nv nv) ve)) := hx
  have HY : Hid (w.rowIs Y 3 nv (nowF now)) := hy
  have HOS : Hid (SlOf w 5 ROpr (.slice ao no co) os ∧ os.length = no) := ⟨hos, hl⟩
  have HD : Hid (∀ o ∈ os, 0 ≤ o.value ∧ o.value < (nv : Int)) := hd
  have HW : Hid (W = w.alloc (.cells #[.int .i64 op, .slice ao no co, vs] 47)) := hW
  have HN : Hid (w.heap.size = N) := hN
  clear hx hy hos hl hd hW hN
  go_enter Try.func16, Try.ntmps16
  go_upto_region 1 with fail
  rw [← HW.out, HN.out]
  clear HW
  go_wp2_with fail
  clear c1
  go_loopw [11, 5] (fun i s wr => ∃ (j n : Nat) (as' : Option Addr) (cs' : Nat), j ≤ no ∧ n ≤ j ∧ i = .int .i64 j ∧ s = .slice as' n cs' ∧ Hid (GrS w N (.slice as' n cs') (readsM now (os.take j)) wr) ∧ n = (readsM now (os.take j)).length) (fun i _ _ => no - (intOf i).toNat)
  case atStart => exact ⟨0, 0, none, 0, Nat.zero_le _, Nat.le_refl _, rfl, rfl, by simpa [readsM] using HS0, by simp [readsM]⟩
  case round =>
    clear HS0
    obtain ⟨j, n, as', cs', hj, hnj, rfl, rfl, HI, hln⟩ := hrel
    have HLN : Hid ((readsM now (os.take j)).length = n) := hln.symm
    clear hln
    by_cases hlt : j < no
    · have hjl : j < os.length := by rw [HOS.out.2]; exact hlt
      obtain ⟨b8, off8, rfl, hb8, o0, o1, o2, o3, o4⟩ := opr_cells HOS.out.1 j hjl
      have hb0 := HI.out.low
      rw [HN.out] at hb8
      have e0 := (hb0.cell (p := ⟨b8, _, none⟩) hb8).trans o0
      have e1 := (hb0.cell (p := ⟨b8, _, none⟩) hb8).trans o1
      have e2 := (hb0.cell (p := ⟨b8, _, none⟩) hb8).trans o2
      have e3 := (hb0.cell (p := ⟨b8, _, none⟩) hb8).trans o3
      have e4 := (hb0.cell (p := ⟨b8, _, none⟩) hb8).trans o4
      have hdo := HD.out os[j] (List.getElem_mem hjl)
      have HT : Hid (readsM now (os.take (j + 1)) = if os[j].kind = 1 then readsM now (os.take j) ++ [now.getD os[j].value.toNat 0] else readsM now (os.take j)) := reads_take now os j hjl
      clear o0 o1 o2 o3 o4 hb0 hb8
      generalize os[j] = o at *
      by_cases hk1 : o.kind = 1
      · have q : (o.kind == 1) = true := by simp [hk1]
        have hE := HT.out
        rw [if_pos hk1] at hE
        obtain ⟨V, hV⟩ : ∃ V : Nat, o.value = V := ⟨o.value.toNat, by omega⟩
        have v1 : V < nv := by omega
        rw [hV, Int.toNat_natCast] at hE
        rw [hV] at e1
        obtain ⟨okd, ovl, olt, olm, onn⟩ := o
        simp only at hk1 q e0 e1 e2 e3 e4
        have HE : Hid (readsM now (os.take (j + 1)) = readsM now (os.take j) ++ [now.getD V 0]) := hE
        clear hE hV HT hdo hk1
        go_upto_region 6 with fail
        obtain ⟨W5, hW5⟩ : ∃ W5, W5 = wr.alloc (.cells #[.int .i64 okd, .int .i64 V, .bool olt, .int .i64 olm, .int .i64 onn] 49) := ⟨_, rfl⟩
        obtain ⟨Q, hQ⟩ : ∃ Q, wr.heap.size = Q := ⟨_, rfl⟩
        have b5 : Below wr.heap.size wr W5 := by rw [hW5]; exact (Below.refl _ _).alloc (Nat.le_refl _) _
        have g5 := HI.out.below b5
        have q1 : W5.cell? ⟨Q, 1, none⟩ = some (.int .i64 V) := by rw [hW5, ← hQ]; simp
        have lQ : Q < W5.heap.size := by rw [hW5, ← hQ]; simp
        have hNQ : N ≤ Q := by rw [← hQ]; exact HI.out.le
        have lX5 : X < W5.heap.size := by omega
        have lY5 : Y < W5.heap.size := by omega
        rw [← hW5, hQ]
        have d4 : W5.cell? ⟨X, 4, none⟩ = some (.slice (some ⟨Y, 0, none⟩) nv nv) := (g5.low.cell lX).trans (HX.out.cell (i := 4) (by omega))
        have y1 : W5.cell? ⟨Y, V, none⟩ = some (.int .i64 (now.getD V 0)) := (g5.low.cell lY).trans (HY.out.cell v1)
        have nX : some X ≠ (Value.slice as' n cs').ownBlock := fun e => by have := own_base HI.out.own e.symm; omega
        have nY : some Y ≠ (Value.slice as' n cs').ownBlock := fun e => by have := own_base HI.out.own e.symm; omega
        have nQ : some Q ≠ (Value.slice as' n cs').ownBlock := fun e => by have := own_base HI.out.own e.symm; omega
        generalize now.getD V 0 = x at *
        have hbA : Below W5.heap.size W5 (W5.alloc (.cells #[.int .i64 x] 3)).drew := ((Below.refl _ _).alloc (Nat.le_refl _) _).drew
        have HG6 : Hid (GrS w N (.slice as' n cs') (readsM now (os.take j)) (W5.alloc (.cells #[.int .i64 x] 3)).drew) := g5.below hbA
        have own := HG6.out.own
        rw [HLN.out] at own
        have oA := own
        have dX6 := (hbA.cell (p := ⟨X, 4, none⟩) lX5).trans d4
        have dQ6 := (hbA.cell (p := ⟨Q, 1, none⟩) lQ).trans q1
        have dY6 := (hbA.cell (p := ⟨Y, V, none⟩) lY5).trans y1
        have lX6 : X < ((W5.alloc (.cells #[.int .i64 x] 3)).drew).heap.size := by simp; omega
        have lQ6 : Q < ((W5.alloc (.cells #[.int .i64 x] 3)).drew).heap.size := by simp; omega
        have lY6 : Y < ((W5.alloc (.cells #[.int .i64 x] 3)).drew).heap.size := by simp; omega
        have HNW : Hid (∀ j u, ([.int .i64 x] : List Value)[j]? = some u → ((W5.alloc (.cells #[.int .i64 x] 3)).drew).cell? ((⟨W5.heap.size, 0, none⟩ : Addr).add j) = some u) := World.news_of_block (cs := #[.int .i64 x]) (t := 3) (fr := (0, 0)) (heap_alloc_new W5 _)
        have h1c : ∀ u ∈ ([.int .i64 x] : List Value), u.oneCell' = true := by intro u hu; simp at hu; subst hu; rfl
        have HDA : Hid (∀ ob, Below W5.heap.size W5 (W5.drew.alloc ob)) := fun ob => (Below.refl _ _).drew.alloc (Nat.le_refl _) _
        have HSF : Hid (∀ w', Below W5.heap.size W5 w' → (fun w' => w'.cell? ⟨X, 4, none⟩ = some (.slice (some ⟨Y, 0, none⟩) nv nv) ∧ w'.cell? ⟨Q, 1, none⟩ = some (.int .i64 V) ∧ w'.cell? ⟨Y, V, none⟩ = some (.int .i64 x)) w') := fun w' hh => ⟨(hh.cell lX5).trans d4, (hh.cell lQ).trans q1, (hh.cell lY5).trans y1⟩
        clear hW5 hQ b5 g5 hbA e0 e1 e2 e3 e4
        refine wp_region_X (fun w' => w'.cell? ⟨X, 4, none⟩ = some (.slice (some ⟨Y, 0, none⟩) nv nv) ∧ w'.cell? ⟨Q, 1, none⟩ = some (.int .i64 V) ∧ w'.cell? ⟨Y, V, none⟩ = some (.int .i64 x)) 99 (by kernel_rfl) ⟨d4, q1, y1⟩ (fun hHeld => ?_)
        refine wpXt (v := ?_) 0 rfl (by kernel_rfl) (fun _ _ _ h => h) (by rfl) ?_ hHeld ?_
        rotate_left
        · intro w' hSw
          go_simp <;> with_reducible rfl
        try simp only [Act.put, List.setIfInBounds_toArray, List.set_cons_zero, List.set_cons_succ]
        refine wpXt (v := ?_) 1 rfl (by kernel_rfl) (fun _ _ _ h => h) (by rfl) ?_ hHeld ?_
        rotate_left
        · intro w' hSw
          go_simp <;> with_reducible rfl
        try simp only [Act.put, List.setIfInBounds_toArray, List.set_cons_zero, List.set_cons_succ]
        refine wpXt (v := ?_) 2 rfl (by kernel_rfl) (fun _ _ _ h => h) (by rfl) ?_ hHeld ?_
        rotate_left
        · intro w' hSw
          go_simp <;> with_reducible rfl
        try simp only [Act.put, List.setIfInBounds_toArray, List.set_cons_zero, List.set_cons_succ]
        refine wpXt (v := ?_) 3 rfl (by kernel_rfl) (fun _ _ _ h => h) (by rfl) ?_ hHeld ?_
        rotate_left
        · intro w' hSw
          go_simp <;> with_reducible rfl
        try simp only [Act.put, List.setIfInBounds_toArray, List.set_cons_zero, List.set_cons_succ]
        refine wpXt (v := ?_) 4 rfl (by kernel_rfl) (fun _ _ _ h => h) (by rfl) ?_ hHeld ?_
        rotate_left
        · intro w' hSw
          go_simp <;> with_reducible rfl
        try simp only [Act.put, List.setIfInBounds_toArray, List.set_cons_zero, List.set_cons_succ]
        refine wpXt (v := ?_) 5 rfl (by kernel_rfl) (fun _ _ _ h => h) (by rfl) ?_ hHeld ?_
        rotate_left
        · intro w' hSw
          go_simp <;> with_reducible rfl
        try simp only [Act.put, List.setIfInBounds_toArray, List.set_cons_zero, List.set_cons_succ]
        refine wpXt (v := ?_) 6 rfl (by kernel_rfl) (fun _ _ _ h => h) (by rfl) ?_ hHeld ?_
        rotate_left
        · intro w' hSw
          go_simp <;> with_reducible rfl
        try simp only [Act.put, List.setIfInBounds_toArray, List.set_cons_zero, List.set_cons_succ]
        refine wpXt (v := ?_) 7 rfl (by kernel_rfl) (fun _ _ _ h => h) (by rfl) ?_ hHeld ?_
        rotate_left
        · intro w' hSw
          go_simp <;> with_reducible rfl
        try simp only [Act.put, List.setIfInBounds_toArray, List.set_cons_zero, List.set_cons_succ]
        refine wpXt (v := ?_) 8 rfl (by kernel_rfl) (fun _ _ _ h => h) (by rfl) ?_ hHeld ?_
        rotate_left
        · intro w' hSw
          go_simp <;> with_reducible rfl
        try simp only [Act.put, List.setIfInBounds_toArray, List.set_cons_zero, List.set_cons_succ]
        refine wpXs 9 rfl (by kernel_rfl) (fun K hK => ?_)
        go_simp
        refine hK.out _ _ (HSF.out _ (HDA.out _)) (fun hHeld => ?_)
        clear hK K
        try simp only [Act.put, List.setIfInBounds_toArray, List.set_cons_zero, List.set_cons_succ]
        refine wpXs 10 rfl (by kernel_rfl) (fun K hK => ?_)
        refine step_append_lies _ (by rfl) _ _ _ (by rfl) N 3 i3 _ 1 8 Try.underlying22 hi3 hz3 hz31 hz32 rfl (by omega) (.slice as' n cs') n _ (by rfl) oA ⟨W5.heap.size, 0, none⟩ 1 1 [.int .i64 x] (by rfl) (by rfl) HNW.out h1c (by omega) (by unfold maxLen; omega) (by omega) (by simp; omega) (W5.heap.size + 1) (by simp) ?_
        intro gg cap2 wb2 hown hgrow hat hlt2
        have HP : Hid (GrS w N (.slice (some ⟨gg, 0, none⟩) (n + 1) cap2) (readsM now (os.take (j + 1))) wb2) := by
          show GrS _ _ _ _ _
          rw [HE.out]
          exact HG6.out.push (by rw [HLN.out]; rfl) hgrow hown
        have e1 := (hgrow.cell_far _ lX6 nX).trans dX6
        have e2 := (hgrow.cell_far _ lQ6 nQ).trans dQ6
        have e3 := (hgrow.cell_far _ lY6 nY).trans dY6
        refine hK.out _ _ ⟨e1, e2, e3⟩ (fun hHeld => ?_)
        clear hK K hown hgrow hat hlt2
        try simp only [Act.put, List.setIfInBounds_toArray, List.set_cons_zero, List.set_cons_succ]
        refine wpXs 11 rfl (by kernel_rfl) (fun K hK => ?_)
        go_simp
        refine hK.out _ _ ⟨e1, e2, e3⟩ (fun hHeld => ?_)
        clear hK K
        try simp only [Act.put, List.setIfInBounds_toArray, List.set_cons_zero, List.set_cons_succ]
        refine wpAnyX_done (by kernel_rfl) ?_ _
        clear e1 e2 e3 oA own
        go_wp2
        go_roundw
        case rel => exact ⟨j + 1, n + 1, _, _, by omega, by omega, by go_num, rfl, HP, by rw [HE.out, List.length_append, HLN.out]; rfl⟩
        case measure => simp [intOf]; omega

      · have q : (o.kind == 1) = false := by simp [hk1]
        have hE := HT.out
        rw [if_neg hk1] at hE
        have HX2 : Hid (GrS w N (.slice as' n cs') (readsM now (os.take (j + 1))) (wr.alloc (.cells #[.int .i64 o.kind, .int .i64 o.value, .bool o.late, .int .i64 o.limit, .int .i64 o.n] 49))) := by
          show GrS _ _ _ _ _
          rw [hE]
          exact HI.out.below ((Below.refl _ _).alloc (Nat.le_refl _) _)
        have HL2 : Hid (n = (readsM now (os.take (j + 1))).length) := by show _ = _; rw [hE, HLN.out]
        clear hE HT hdo hk1 HI HLN
        go_wp2
        go_roundw
        case rel => exact ⟨j + 1, n, _, _, by omega, by omega, by go_num, rfl, HX2, HL2.out⟩
        case measure => simp [intOf]; omega
    · have HE : Hid (n = (readsM now os).length ∧ GrS w w.heap.size (.slice as' n cs') (readsM now os) wr) := by
        have h1 := HI.out
        have h2 := HLN.out
        rw [List.take_of_length_le (by have := HOS.out.2; omega)] at h1 h2
        rw [HN.out]
        exact ⟨h2.symm, h1⟩
      clear HI HLN
      go_wp2
      go_ret
      exact ⟨as', n, cs', HE.out.1, rfl, HE.out.2⟩
end Go.Proofs.Ytmkloakahefjiaa
