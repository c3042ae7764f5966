/-
  The walk of SpansDead: what nobody uses is needed just where it is made.
-/
import Derived.Test.YtjpmkamacbenhaaV15
import Derived.Test.YtjpmkamacbenhaaN1
import Derived.Test.YtjpmkamacbenhaaA1
import Derived.Deep.QuietTactic
import Derived.BigQuiet
import Derived.OpenShut
namespace Go.Proofs.Ytjpmkamacbenhaa
open Go.RowKit
set_option linter.unusedVariables false

section
variable {P : Program} {Q : Exit → Act → World → Prop} {md : Region.Mode} {S : World → Prop} {L : Nat}
theorem wpX_takeg23 {o0 o1 o2 o3 o4 o5 o6 o7 o8 o9 o10 o11 o12 o13 o14 o15 o16 o17 o18 o19 o20 o21 o22 : Oper} {o : Oper} {rest : List Oper} {v : Value} {fuel : Nat} {listed : Array Bool} {a : Act} {w : World} (hB : (waitsB md (o0 :: o1 :: o2 :: o3 :: o4 :: o5 :: o6 :: o7 :: o8 :: o9 :: o10 :: o11 :: o12 :: o13 :: o14 :: o15 :: o16 :: o17 :: o18 :: o19 :: o20 :: o21 :: o22 :: o :: rest).toArray L 23 && Region.noSelect (o0 :: o1 :: o2 :: o3 :: o4 :: o5 :: o6 :: o7 :: o8 :: o9 :: o10 :: o11 :: o12 :: o13 :: o14 :: o15 :: o16 :: o17 :: o18 :: o19 :: o20 :: o21 :: o22 :: o :: rest).toArray && Region.free md (o0 :: o1 :: o2 :: o3 :: o4 :: o5 :: o6 :: o7 :: o8 :: o9 :: o10 :: o11 :: o12 :: o13 :: o14 :: o15 :: o16 :: o17 :: o18 :: o19 :: o20 :: o21 :: o22 :: o :: rest).toArray listed 23 && (Region.ready md (o0 :: o1 :: o2 :: o3 :: o4 :: o5 :: o6 :: o7 :: o8 :: o9 :: o10 :: o11 :: o12 :: o13 :: o14 :: o15 :: o16 :: o17 :: o18 :: o19 :: o20 :: o21 :: o22 :: o :: rest).toArray listed).contains 23) = true) (hQ : ∀ c a w, Q (.panic c) (a.put o.dst v) w → Q (.panic c) a w) (hg : Region.wanted o (yielded (o0 :: o1 :: o2 :: o3 :: o4 :: o5 :: o6 :: o7 :: o8 :: o9 :: o10 :: o11 :: o12 :: o13 :: o14 :: o15 :: o16 :: o17 :: o18 :: o19 :: o20 :: o21 :: o22 :: o :: rest).toArray a.tmps) = true) (hy : ∀ w, S w → (execOp a.eval o).run P w = .ok (.value v) w) (hS : S w) (h : wpAnyX P md (o0 :: o1 :: o2 :: o3 :: o4 :: o5 :: o6 :: o7 :: o8 :: o9 :: o10 :: o11 :: o12 :: o13 :: o14 :: o15 :: o16 :: o17 :: o18 :: o19 :: o20 :: o21 :: o22 :: o :: rest).toArray Q S L fuel (listed.setIfInBounds 23 true) (a.put o.dst v) w) : wpAnyX P md (o0 :: o1 :: o2 :: o3 :: o4 :: o5 :: o6 :: o7 :: o8 :: o9 :: o10 :: o11 :: o12 :: o13 :: o14 :: o15 :: o16 :: o17 :: o18 :: o19 :: o20 :: o21 :: o22 :: o :: rest).toArray Q S L (fuel + 1) listed a w :=
  wpAnyX_take (i := 23) (oi := o) rfl hB hQ (Or.inl ⟨hg, hy⟩) hS h
theorem wpX_last24 {o0 o1 o2 o3 o4 o5 o6 o7 o8 o9 o10 o11 o12 o13 o14 o15 o16 o17 o18 o19 o20 o21 o22 o23 : Oper} {o : Oper} {rest : List Oper} {fuel : Nat} {listed : Array Bool} {a : Act} {w : World} (hr : Region.ready md (o0 :: o1 :: o2 :: o3 :: o4 :: o5 :: o6 :: o7 :: o8 :: o9 :: o10 :: o11 :: o12 :: o13 :: o14 :: o15 :: o16 :: o17 :: o18 :: o19 :: o20 :: o21 :: o22 :: o23 :: o :: rest).toArray listed = [24]) (hL : 24 = L) (hr' : Region.ready md (o0 :: o1 :: o2 :: o3 :: o4 :: o5 :: o6 :: o7 :: o8 :: o9 :: o10 :: o11 :: o12 :: o13 :: o14 :: o15 :: o16 :: o17 :: o18 :: o19 :: o20 :: o21 :: o22 :: o23 :: o :: rest).toArray (listed.setIfInBounds 24 true) = []) (h : ∀ K' : Act → World → Prop, Shut (∀ a w, Q .normal a w → K' a w) → if Region.wanted o (yielded (o0 :: o1 :: o2 :: o3 :: o4 :: o5 :: o6 :: o7 :: o8 :: o9 :: o10 :: o11 :: o12 :: o13 :: o14 :: o15 :: o16 :: o17 :: o18 :: o19 :: o20 :: o21 :: o22 :: o23 :: o :: rest).toArray a.tmps) = true then Oper.wp P o a w K' Q else K' (a.put o.dst undef) w) : wpAnyX P md (o0 :: o1 :: o2 :: o3 :: o4 :: o5 :: o6 :: o7 :: o8 :: o9 :: o10 :: o11 :: o12 :: o13 :: o14 :: o15 :: o16 :: o17 :: o18 :: o19 :: o20 :: o21 :: o22 :: o23 :: o :: rest).toArray Q S L (fuel + 1) listed a w :=
  wpAnyX_last (i := 24) (o := o) rfl hr hL hr' h
end
theorem cO_len (l : List Opr) : (l.flatMap cO).length = l.length * 5 := flat_length cO 5 (fun _ => rfl) l
def deadO (k : Nat) (late : Bool) : List Opr := if k = 0 then [⟨2, 0, late, 1, 0⟩] else [⟨1, (k : Int) - 1, false, 1, 0⟩, ⟨2, k, late, 1, 0⟩]
def deadI (k : Nat) (late : Bool) (j : Nat) : Ins := if j = k then ⟨((j % 256 : Nat) : Int), deadO k late, []⟩ else lnI j
def deadB (k : Nat) (late : Bool) : Blk := ⟨[], (List.range (k + 1)).map (deadI k late), []⟩
def deadF (k : Nat) (late : Bool) : Fn := ⟨List.replicate (k + 1) 0, [deadB k late]⟩
set_option maxRecDepth 100000 in
theorem dead_flow : ∀ k : Nat, k < 20 → ∀ late : Bool, flowE (deadF k late) 10 10 (1 * 1 + 1) = 0 := by decide +kernel
set_option maxRecDepth 100000 in
theorem dead_made : ∀ k : Nat, k < 20 → ∀ late : Bool, ∀ v : Nat, v < k + 1 → (v : Int) ∈ makersOf (deadB k late) := by decide +kernel
set_option maxRecDepth 100000 in
theorem dead_span : ∀ k : Nat, k < 20 → ∀ late : Bool, stepL [] (stayM (deadB k late) noT noT 0 (k + 1) 0 k) = [(if late = true then 2 + 2 * (k : Int) else 1 + 2 * (k : Int), 3 + 2 * (k : Int))] := by decide +kernel
theorem one_block {x : Blk} (hx : x.edges = []) {nv : Nat} {I O : Tb} (h : (∀ b v, v < nv → (I b v = true ↔ NeedIn [x] b v)) ∧ ∀ b v, v < nv → (O b v = true ↔ NeedOut [x] b v)) (hm : ∀ v : Nat, v < nv → (v : Int) ∈ makersOf x) (i : Nat) : spansM [x] nv I O 1 i = stepL [] (stayM x noT noT 0 nv 0 i) := by
  have hI : ∀ v, v < nv → I 0 v = false := fun v hv => by
    cases e : I 0 v
    · rfl
    · have := NeedIn.iff.1 ((h.1 0 v hv).1 e)
      exact absurd (hm v hv) this.2.1
  have hO : ∀ v, v < nv → O 0 v = false := fun v hv => by
    cases e : O 0 v
    · rfl
    · obtain ⟨_, h1 | ⟨t, h1, _⟩⟩ := (h.2 0 v hv).1 e
      · have : blkA [x] 0 = x := rfl
        rw [this, hx] at h1
        cases h1
      · have : succM [x] 0 = x.edges.map fun e => e.block.toNat := rfl
        rw [this, hx] at h1
        cases h1
  have e1 : stIn I 0 0 nv = stIn noT 0 0 nv := by
    funext v
    unfold stIn noT
    by_cases hv : v < nv
    · simp [hI v hv]
    · simp [hv]
  have e2 : ∀ fin s, stOut O 0 fin s nv = stOut noT 0 fin s nv := fun fin s => by
    funext v
    unfold stOut noT
    by_cases hv : v < nv
    · simp [hO v hv]
    · simp [hv]
  show stepL [] (stayM x I O 0 nv (startM [x] 0) i) = _
  have e3 : startM [x] 0 = 0 := rfl
  rw [e3]
  unfold stayM stMid
  rw [e1, e2]
theorem eqSpan (c1 n1 c2 n2 : Int) (w : World) : (binOp .eql 63 (.agg #[.int .i64 c1, .int .i64 n1]) (.agg #[.int .i64 c2, .int .i64 n2])).run Try.prog w = .ok (.bool (c1 == c2 && n1 == n2)) w := by
  have hS : Try.prog.underlying 63 = some (.struct (Try.prog.fieldsOf 63)) := by kernel_rfl
  have hp : Try.prog.stoodInHeld 63 = false := by kernel_rfl
  rw [run_eql_struct, show (10000 : Nat) = 9999 + 1 from rfl, run_equalIn_agg w 9999 63 _ _ hS hp]
  simp only [Program.fieldsOf, Try.underlying63]
  go_simp
  by_cases h1 : c1 = c2 <;> by_cases h2 : n1 = n2 <;> simp [h1, h2]
theorem eqSpanG : Try.prog.eqGuardType Try.prog.depth 63 = false := by kernel_rfl
/-- A line whose last value's Def is late, or not. -/
theorem LineSt.dead {M k : Nat} {vv vi : Value} {ob : Nat → Nat} {w : World} (h : LineSt M (k + 1) (k + 1) vv vi ob w) (hn : k < 100000) (late : Bool) (m : Nat) (hm : (lnO k).length = m + 1) :
    SlOf (w.setCell ⟨ob k, m * 5 + 2, none⟩ (.bool late)) 1 RInt vv (deadF k late).values ∧ SlOf (w.setCell ⟨ob k, m * 5 + 2, none⟩ (.bool late)) 3 (RBlk (w.setCell ⟨ob k, m * 5 + 2, none⟩ (.bool late))) (.slice (some ⟨M + 1, 0, none⟩) 1 1) (deadF k late).blocks := by
  obtain ⟨w', hw'⟩ : ∃ w', w' = w.setCell ⟨ob k, m * 5 + 2, none⟩ (.bool late) := ⟨_, rfl⟩
  have K := h.obs k (by omega)
  have kept : ∀ b, b ≠ ob k → w'.heap[b]? = w.heap[b]? := fun b hb => by rw [hw']; exact Below.heap_setCell _ _ _ _ hb
  have hblk : w'.heap[ob k]? = some (.cells ((deadO k late).flatMap cO).toArray 54) := by
    rw [hw', heap_setCell_same w (ob k) (m * 5 + 2) _ 54 (.bool late) K.blk]
    by_cases hk : k = 0
    · subst hk
      have : m = 0 := by simp [lnO] at hm; exact hm
      subst this
      rfl
    · have : m = 1 := by simp [lnO, hk] at hm; omega
      subst this
      simp [lnO, deadO, hk, cO]
  rw [← hw']
  have hv : SlOf w' 1 RInt vv (deadF k late).values := own_ints _ (own_keep h.ov fun g hg _ _ => kept g fun e => K.nv (by rw [← e]; exact hg)) (by unfold longest; omega)
  have hi0 : SlOf w' 3 (fun cs (j : Nat) => cs = lnX (ob j) j) vi (List.range (k + 1)) := own_sl (k := 3) (fun j => lnX (ob j) j) (fun _ => rfl) (by decide) (fun _ => rfl) _ (own_keep h.oi fun g hg _ _ => kept g fun e => K.ni (by rw [← e]; exact hg)) (by unfold longest; omega)
  have hi : SlOf w' 3 (RIns w') vi ((List.range (k + 1)).map (deadI k late)) := hi0.mapR (deadI k late) fun cs j hj e => by
    subst e
    have hjl := List.mem_range.1 hj
    have O := h.obs j hjl
    have hlen : (lnO j).length ≤ 2 := by unfold lnO; split <;> simp
    unfold deadI
    split
    · rename_i e
      subst e
      have el : (deadO j late).length = (lnO j).length := by unfold deadO lnO; split <;> rfl
      refine ⟨_, _, rfl, ?_, SlOf_nil _ _ _ _ _⟩
      exact SlOf_blk cO (fun _ => rfl) (fun _ => rfl) (deadO j late) hblk el (by unfold longest; omega)
    · rename_i e
      exact ⟨_, _, rfl, SlOf_blk cO (fun _ => rfl) (fun _ => rfl) (lnO j) ((kept _ fun e2 => e (h.inj j k hjl (by omega) e2)).trans O.blk) rfl (by unfold longest; omega), SlOf_nil _ _ _ _ _⟩
  have hb1 := K.base
  have r1 : w'.rowIs (M + 1) 44 3 (fun q => if q = 1 then vi else .slice none 0 0) := h.r1.of_block (kept _ (by omega))
  refine ⟨hv, SlOf_one [.slice none 0 0, vi, .slice none 0 0] rfl ⟨_, _, _, rfl, SlOf_nil _ _ _ _ _, hi, SlOf_nil _ _ _ _ _⟩ (cells3 ?_ ?_ ?_)⟩
  · exact r1.cell (i := 0) (by omega)
  · exact r1.cell (i := 1) (by omega)
  · exact r1.cell (i := 2) (by omega)
set_option maxRecDepth 8000 in
set_option maxHeartbeats 8000000 in
theorem spansDead_walk (c : Int) (wc : (Lit.int .i64 c).wf = true) (early : Bool) (w : World) :
    Calls Try.prog 8 #[.int .i64 c, .bool early] w fun e w' => e = .returned (.bool true) ∧ Below w.heap.size w w' := by
  obtain ⟨p0, p1⟩ := pickedOf_bd c 20 (by omega)
  obtain ⟨c0, c1⟩ := bounds_i64 wc
  go_enter Try.func8, Try.ntmps8
  go_wp2_with fail
  refine (picked_any _ _ _ c0 c1 (by omega) (by omega)).mono ?_
  rintro e w ⟨rfl, rfl⟩
  generalize pickedOf c 20 = kk at *
  obtain ⟨k, rfl⟩ : ∃ k : Nat, kk = k := ⟨kk.toNat, by omega⟩
  have hk : k < 20 := by omega
  have wk : IntKind.i64.wrap ((k : Int) + 1) = (k : Int) + 1 := by rw [IntKind.wrap_i64]; omega
  have ek : ((k + 1 : Nat) : Int) = (k : Int) + 1 := by omega
  obtain ⟨N, hN⟩ : ∃ N, w.heap.size = N := ⟨_, rfl⟩
  have HCL := line_any (k + 1) w (by omega) (by omega)
  rw [ek, hN] at HCL
  have HN : Hid (w.heap.size = N) := hN
  clear p0 p1 ek hN
  go_wp2_with fail
  refine HCL.mono ?_
  clear HCL wk
  rintro e w1 ⟨vv, vi, ob, rfl, hL, hb1⟩
  obtain ⟨m, hm⟩ : ∃ m, (lnO k).length = m + 1 := by
    unfold lnO
    split
    · exact ⟨0, rfl⟩
    · exact ⟨1, rfl⟩
  have hm1 : m ≤ 1 := by
    have : (lnO k).length ≤ 2 := by unfold lnO; split <;> simp
    omega
  obtain ⟨gv, cv, rfl, gv1, gv2, _, _⟩ := own_rowL hL.ov (by omega)
  obtain ⟨gi, ci, rfl, gi1, gi2, gi3, _⟩ := own_rowL hL.oi (by omega)
  have K := hL.obs k (by omega)
  have i1' : w1.cell? ⟨gi, k * 3 + 1, none⟩ = some (.slice (some ⟨ob k, 0, none⟩) (m + 1) (m + 1)) := by
    have hl : (lnXs ob (k + 1)).length = (k + 1) * 3 := by
      unfold lnXs
      rw [flat_length (fun j => lnX (ob j) j) 3 (fun _ => rfl), List.length_range]
    have h1 := gi3 (k * 3 + 1) (by omega)
    have h2 := flat_at (fun j => lnX (ob j) j) 3 (fun _ => rfl) (List.range (k + 1)) k 1 (by simp) (by omega)
    rw [h1, ← List.getElem?_eq_getElem]
    show (lnXs ob (k + 1))[k * 3 + 1]? = _
    unfold lnXs
    rw [h2]
    simp [lnX, hm]
  go_upto_region 3 with fail
  obtain ⟨W, hW⟩ : ∃ W, W = w1.alloc (.cells #[.slice (some ⟨gv, 0, none⟩) (k + 1) cv, .slice (some ⟨N + 1, 0, none⟩) 1 1] 25) := ⟨_, rfl⟩
  obtain ⟨Y, hY⟩ : ∃ Y, w1.heap.size = Y := ⟨_, rfl⟩
  have hbW : Below w1.heap.size w1 W := by rw [hW]; exact (Below.refl _ _).alloc (Nat.le_refl _) _
  have rY : W.rowIs Y 25 2 (fun q => if q = 0 then .slice (some ⟨gv, 0, none⟩) (k + 1) cv else .slice (some ⟨N + 1, 0, none⟩) 1 1) := by
    rw [hW, ← hY]
    exact World.rowIs_alloc _ _ _ _ fun i hi => by
      simp at hi
      match i, hi with | 0, _ => rfl | 1, _ => rfl
  have hLW := hL.below hbW
  have KW := hLW.obs k (by omega)
  have y1 : W.cell? ⟨Y, 1, none⟩ = some (.slice (some ⟨N + 1, 0, none⟩) 1 1) := rY.cell (i := 1) (by omega)
  have n1 : W.cell? ⟨N + 1, 1, none⟩ = some (.slice (some ⟨gi, 0, none⟩) (k + 1) ci) := hLW.r1.cell (i := 1) (by omega)
  have i1 : W.cell? ⟨gi, k * 3 + 1, none⟩ = some (.slice (some ⟨ob k, 0, none⟩) (m + 1) (m + 1)) := (hbW.cell (p := ⟨gi, k * 3 + 1, none⟩) gi2).trans i1'
  have lY := rY.lt
  have lN := hLW.r1.lt
  have lg : gi < W.heap.size := Nat.lt_of_lt_of_le gi2 hbW.size
  obtain ⟨B, hB⟩ : ∃ B, ob k = B := ⟨_, rfl⟩
  have o1 : ∃ x, W.cell? ⟨B, m * 5 + 2, none⟩ = some x := by
    rw [← hB]
    refine ⟨_, blk_cellL KW.blk (m * 5 + 2) ?_⟩
    have := cO_len (lnO k)
    simp only [List.size_toArray]
    omega
  obtain ⟨xo, o1⟩ := o1
  have oz : W.frozen? ⟨B, m * 5 + 2, none⟩ = false := by rw [← hB]; exact blk_frozenL KW.blk _
  have HBY : Hid (B < Y ∧ N + 1 < B) := by
    have h1 := K.base
    have h2 := K.lt
    exact ⟨by rw [← hB, ← hY]; exact h2, by rw [← hB]; omega⟩
  have HD := hLW.dead (by omega) (!early) m hm
  rw [hB] at i1 HD
  have HBW : Hid (Below w.heap.size w W) := by
    show Below _ _ _
    have hs1 := hb1.size
    rw [HN.out] at hs1 ⊢
    exact hb1.trans (hbW.mono hs1)
  have HLN : Hid (w.heap.size ≤ N) := by rw [← HN.out]; exact Nat.le_refl _
  rw [← hW, hY]
  have wm : IntKind.i64.wrap (m : Int) = (m : Int) := by rw [IntKind.wrap_i64]; omega
  have mb : (m : Int) < (m : Int) + 1 := by omega
  have kb : (k : Int) < (k : Int) + 1 := by omega
  have HRY : Hid (W.rowIs Y 25 2 (fun q => if q = 0 then .slice (some ⟨gv, 0, none⟩) (k + 1) cv else .slice (some ⟨N + 1, 0, none⟩) 1 1)) := rY
  have HDD : Hid (SlOf (W.setCell ⟨B, m * 5 + 2, none⟩ (.bool (!early))) 1 RInt (.slice (some ⟨gv, 0, none⟩) (k + 1) cv) (deadF k (!early)).values ∧ SlOf (W.setCell ⟨B, m * 5 + 2, none⟩ (.bool (!early))) 3 (RBlk (W.setCell ⟨B, m * 5 + 2, none⟩ (.bool (!early)))) (.slice (some ⟨N + 1, 0, none⟩) 1 1) (deadF k (!early)).blocks) := HD
  clear hW hY hbW rY hLW KW K hB HD hL hb1 i1' gi3 gv1 gv2 gi1 gi2 hm
  have HSF : Hid (∀ w', Below W.heap.size W w' → (fun w' => w'.cell? ⟨Y, 1, none⟩ = some (.slice (some ⟨N + 1, 0, none⟩) 1 1) ∧ w'.cell? ⟨N + 1, 1, none⟩ = some (.slice (some ⟨gi, 0, none⟩) (k + 1) ci) ∧ w'.cell? ⟨gi, k * 3 + 1, none⟩ = some (.slice (some ⟨B, 0, none⟩) (m + 1) (m + 1))) w') := fun w' hh => ⟨(hh.cell lY).trans y1, (hh.cell lN).trans n1, (hh.cell lg).trans i1⟩
  have hbd : Below W.heap.size W W.drew := (Below.refl _ _).drew
  refine wp_region_X (fun w' => w'.cell? ⟨Y, 1, none⟩ = some (.slice (some ⟨N + 1, 0, none⟩) 1 1) ∧ w'.cell? ⟨N + 1, 1, none⟩ = some (.slice (some ⟨gi, 0, none⟩) (k + 1) ci) ∧ w'.cell? ⟨gi, k * 3 + 1, none⟩ = some (.slice (some ⟨B, 0, none⟩) (m + 1) (m + 1))) 24 (by kernel_rfl) (HSF.out _ hbd) (fun hHeld => ?_)
  refine wpX_takeg0 (v := ?_) (by kernel_rfl) (fun _ _ _ h => h) (by rfl) ?_ hHeld ?_
  rotate_left
  · intro w' hSw
    go_simp <;> with_reducible rfl
  try simp only [Act.put, List.setIfInBounds_toArray, List.set_cons_zero, List.set_cons_succ]
  refine wpX_takeg1 (v := ?_) (by kernel_rfl) (fun _ _ _ h => h) (by rfl) ?_ hHeld ?_
  rotate_left
  · intro w' hSw
    go_simp <;> with_reducible rfl
  try simp only [Act.put, List.setIfInBounds_toArray, List.set_cons_zero, List.set_cons_succ]
  refine wpX_takeg2 (v := ?_) (by kernel_rfl) (fun _ _ _ h => h) (by rfl) ?_ hHeld ?_
  rotate_left
  · intro w' hSw
    go_simp <;> with_reducible rfl
  try simp only [Act.put, List.setIfInBounds_toArray, List.set_cons_zero, List.set_cons_succ]
  refine wpX_takeg3 (v := ?_) (by kernel_rfl) (fun _ _ _ h => h) (by rfl) ?_ hHeld ?_
  rotate_left
  · intro w' hSw
    go_simp <;> with_reducible rfl
  try simp only [Act.put, List.setIfInBounds_toArray, List.set_cons_zero, List.set_cons_succ]
  refine wpX_takeg4 (v := ?_) (by kernel_rfl) (fun _ _ _ h => h) (by rfl) ?_ hHeld ?_
  rotate_left
  · intro w' hSw
    go_simp <;> with_reducible rfl
  try simp only [Act.put, List.setIfInBounds_toArray, List.set_cons_zero, List.set_cons_succ]
  refine wpX_takeg5 (v := ?_) (by kernel_rfl) (fun _ _ _ h => h) (by rfl) ?_ hHeld ?_
  rotate_left
  · intro w' hSw
    go_simp <;> with_reducible rfl
  try simp only [Act.put, List.setIfInBounds_toArray, List.set_cons_zero, List.set_cons_succ]
  refine wpX_takeg6 (v := ?_) (by kernel_rfl) (fun _ _ _ h => h) (by rfl) ?_ hHeld ?_
  rotate_left
  · intro w' hSw
    go_simp <;> with_reducible rfl
  try simp only [Act.put, List.setIfInBounds_toArray, List.set_cons_zero, List.set_cons_succ]
  refine wpX_takeg7 (v := ?_) (by kernel_rfl) (fun _ _ _ h => h) (by rfl) ?_ hHeld ?_
  rotate_left
  · intro w' hSw
    go_simp <;> with_reducible rfl
  try simp only [Act.put, List.setIfInBounds_toArray, List.set_cons_zero, List.set_cons_succ]
  refine wpX_takeg8 (v := ?_) (by kernel_rfl) (fun _ _ _ h => h) (by rfl) ?_ hHeld ?_
  rotate_left
  · intro w' hSw
    go_simp <;> with_reducible rfl
  try simp only [Act.put, List.setIfInBounds_toArray, List.set_cons_zero, List.set_cons_succ]
  refine wpX_takeg9 (v := ?_) (by kernel_rfl) (fun _ _ _ h => h) (by rfl) ?_ hHeld ?_
  rotate_left
  · intro w' hSw
    go_simp <;> with_reducible rfl
  try simp only [Act.put, List.setIfInBounds_toArray, List.set_cons_zero, List.set_cons_succ]
  refine wpX_takeg10 (v := ?_) (by kernel_rfl) (fun _ _ _ h => h) (by rfl) ?_ hHeld ?_
  rotate_left
  · intro w' hSw
    go_simp <;> with_reducible rfl
  try simp only [Act.put, List.setIfInBounds_toArray, List.set_cons_zero, List.set_cons_succ]
  refine wpX_takeg11 (v := ?_) (by kernel_rfl) (fun _ _ _ h => h) (by rfl) ?_ hHeld ?_
  rotate_left
  · intro w' hSw
    go_simp <;> with_reducible rfl
  try simp only [Act.put, List.setIfInBounds_toArray, List.set_cons_zero, List.set_cons_succ]
  refine wpX_takeg12 (v := ?_) (by kernel_rfl) (fun _ _ _ h => h) (by rfl) ?_ hHeld ?_
  rotate_left
  · intro w' hSw
    go_simp <;> with_reducible rfl
  try simp only [Act.put, List.setIfInBounds_toArray, List.set_cons_zero, List.set_cons_succ]
  refine wpX_takeg13 (v := ?_) (by kernel_rfl) (fun _ _ _ h => h) (by rfl) ?_ hHeld ?_
  rotate_left
  · intro w' hSw
    go_simp <;> with_reducible rfl
  try simp only [Act.put, List.setIfInBounds_toArray, List.set_cons_zero, List.set_cons_succ]
  refine wpX_takeg14 (v := ?_) (by kernel_rfl) (fun _ _ _ h => h) (by rfl) ?_ hHeld ?_
  rotate_left
  · intro w' hSw
    go_simp <;> with_reducible rfl
  try simp only [Act.put, List.setIfInBounds_toArray, List.set_cons_zero, List.set_cons_succ]
  refine wpX_takeg15 (v := ?_) (by kernel_rfl) (fun _ _ _ h => h) (by rfl) ?_ hHeld ?_
  rotate_left
  · intro w' hSw
    go_simp <;> with_reducible rfl
  try simp only [Act.put, List.setIfInBounds_toArray, List.set_cons_zero, List.set_cons_succ]
  refine wpX_takeg16 (v := ?_) (by kernel_rfl) (fun _ _ _ h => h) (by rfl) ?_ hHeld ?_
  rotate_left
  · intro w' hSw
    go_simp <;> with_reducible rfl
  try simp only [Act.put, List.setIfInBounds_toArray, List.set_cons_zero, List.set_cons_succ]
  refine wpX_takeg17 (v := ?_) (by kernel_rfl) (fun _ _ _ h => h) (by rfl) ?_ hHeld ?_
  rotate_left
  · intro w' hSw
    go_simp <;> with_reducible rfl
  try simp only [Act.put, List.setIfInBounds_toArray, List.set_cons_zero, List.set_cons_succ]
  refine wpX_takeg18 (v := ?_) (by kernel_rfl) (fun _ _ _ h => h) (by rfl) ?_ hHeld ?_
  rotate_left
  · intro w' hSw
    go_simp <;> with_reducible rfl
  try simp only [Act.put, List.setIfInBounds_toArray, List.set_cons_zero, List.set_cons_succ]
  refine wpX_takeg19 (v := ?_) (by kernel_rfl) (fun _ _ _ h => h) (by rfl) ?_ hHeld ?_
  rotate_left
  · intro w' hSw
    go_simp <;> with_reducible rfl
  try simp only [Act.put, List.setIfInBounds_toArray, List.set_cons_zero, List.set_cons_succ]
  refine wpX_takeg20 (v := ?_) (by kernel_rfl) (fun _ _ _ h => h) (by rfl) ?_ hHeld ?_
  rotate_left
  · intro w' hSw
    go_simp <;> with_reducible rfl
  try simp only [Act.put, List.setIfInBounds_toArray, List.set_cons_zero, List.set_cons_succ]
  refine wpX_takeg21 (v := ?_) (by kernel_rfl) (fun _ _ _ h => h) (by rfl) ?_ hHeld ?_
  rotate_left
  · intro w' hSw
    go_simp <;> with_reducible rfl
  try simp only [Act.put, List.setIfInBounds_toArray, List.set_cons_zero, List.set_cons_succ]
  refine wpX_step22 (by kernel_rfl) (fun K hK => ?_)
  go_simp
  refine hK.out _ _ (HSF.out _ hbd) (fun hHeld => ?_)
  clear hK K
  try simp only [Act.put, List.setIfInBounds_toArray, List.set_cons_zero, List.set_cons_succ]
  refine wpX_takeg23 (v := ?_) (by kernel_rfl) (fun _ _ _ h => h) (by rfl) ?_ hHeld ?_
  rotate_left
  · intro w' hSw
    go_simp <;> with_reducible rfl
  try simp only [Act.put, List.setIfInBounds_toArray, List.set_cons_zero, List.set_cons_succ]
  refine wpX_last24 (by kernel_rfl) rfl (by kernel_rfl) (fun K hK => ?_)
  go_simp
  refine hK.out _ _ ?_
  clear hK K
  go_upto_region 4 with fail
  obtain ⟨W3, hW3⟩ : ∃ W3, W3 = (W.setCell ⟨B, m * 5 + 2, none⟩ (.bool (!early))).drew := ⟨_, rfl⟩
  rw [← hW3]
  have rY3 := HRY.out.setOther (a := ⟨B, m * 5 + 2, none⟩) (by have := HBY.out; simp; omega) (.bool (!early))
  have z0 : W3.cell? ⟨Y, 0, none⟩ = some (.slice (some ⟨gv, 0, none⟩) (k + 1) cv) := by rw [hW3]; exact rY3.drew.cell (i := 0) (by omega)
  have z1 : W3.cell? ⟨Y, 1, none⟩ = some (.slice (some ⟨N + 1, 0, none⟩) 1 1) := by rw [hW3]; exact rY3.drew.cell (i := 1) (by omega)
  have lY3 : Y < W3.heap.size := by rw [hW3]; exact rY3.lt
  have HBW3 : Hid (Below w.heap.size w W3) := by
    show Below _ _ _
    rw [hW3]
    exact (HBW.out.setCell (p := ⟨B, m * 5 + 2, none⟩) (by have := HBY.out; have := HLN.out; simp; omega) _).drew
  have hdr : Below (W.setCell ⟨B, m * 5 + 2, none⟩ (.bool (!early))).heap.size (W.setCell ⟨B, m * 5 + 2, none⟩ (.bool (!early))) W3 := by rw [hW3]; exact (Below.refl _ _).drew
  have HDV : Hid (SlOf W3 1 RInt (.slice (some ⟨gv, 0, none⟩) (k + 1) cv) (deadF k (!early)).values ∧ SlOf W3 3 (RBlk W3) (.slice (some ⟨N + 1, 0, none⟩) 1 1) (deadF k (!early)).blocks) := ⟨HDD.out.1.below hdr fun _ _ h => h, HDD.out.2.below hdr (RBlk.below hdr)⟩
  have HCS : Hid (∀ w', Below W3.heap.size W3 w' → Calls Try.prog 18 #[.agg #[.slice (some ⟨gv, 0, none⟩) (k + 1) cv, .slice (some ⟨N + 1, 0, none⟩) 1 1], .agg #[.int .i64 10, .int .i64 10]] w' fun e w'' => ∃ R vs I O, e = .returned (.tuple #[.slice (some ⟨R, 0, none⟩) (k + 1) (k + 1), .int .i64 0]) ∧ PSp w'' R (k + 1) vs (spansM (deadF k (!early)).blocks (k + 1) I O 1) ∧ ((∀ b v, v < k + 1 → (I b v = true ↔ NeedIn (deadF k (!early)).blocks b v)) ∧ ∀ b v, v < k + 1 → (O b v = true ↔ NeedOut (deadF k (!early)).blocks b v)) ∧ w'.heap.size ≤ R ∧ Below w'.heap.size w' w'') := fun w' hh => spans_any (deadF k (!early)) (k + 1) 1 10 10 _ _ _ _ (dead_flow k hk (!early)) (by simp [deadF]) (by simp [deadF]) w' (HDV.out.1.below hh fun _ _ h => h) (HDV.out.2.below hh (RBlk.below hh))
  clear hW3 rY3 hdr HDD HRY HBW HBY o1 oz y1 n1 i1 lY lN lg wm mb HSF hbd hHeld
  have HSF : Hid (∀ w', Below W3.heap.size W3 w' → (fun w' => w'.cell? ⟨Y, 0, none⟩ = some (.slice (some ⟨gv, 0, none⟩) (k + 1) cv) ∧ w'.cell? ⟨Y, 1, none⟩ = some (.slice (some ⟨N + 1, 0, none⟩) 1 1)) w') := fun w' hh => ⟨(hh.cell lY3).trans z0, (hh.cell lY3).trans z1⟩
  have hbd : Below W3.heap.size W3 W3.drew := (Below.refl _ _).drew
  refine wp_region_X (fun w' => w'.cell? ⟨Y, 0, none⟩ = some (.slice (some ⟨gv, 0, none⟩) (k + 1) cv) ∧ w'.cell? ⟨Y, 1, none⟩ = some (.slice (some ⟨N + 1, 0, none⟩) 1 1)) 99 (by kernel_rfl) (HSF.out _ hbd) (fun hHeld => ?_)
  refine wpX_takeg0 (v := ?_) (by kernel_rfl) (fun _ _ _ h => h) (by rfl) ?_ hHeld ?_
  rotate_left
  · intro w' hSw
    go_simp <;> with_reducible rfl
  try simp only [Act.put, List.setIfInBounds_toArray, List.set_cons_zero, List.set_cons_succ]
  refine wpX_step1 (by kernel_rfl) (fun K hK => ?_)
  go_simp
  refine (big_any _).mono ?_
  rintro e w4 ⟨rfl, hb4⟩
  have hc4 : Below W3.heap.size W3 w4 := hbd.trans (hb4.mono hbd.size)
  refine hK.out _ _ (HSF.out _ hc4) (fun hHeld => ?_)
  clear hK K
  try simp only [Act.put, List.setIfInBounds_toArray, List.set_cons_zero, List.set_cons_succ]
  refine wpX_step2 (by kernel_rfl) (fun K hK => ?_)
  go_simp
  refine (HCS.out _ hc4).mono ?_
  rintro e w5 ⟨R, vs, I, O, rfl, hps, htold, hRl, hb5⟩
  have hc5 : Below W3.heap.size W3 w5 := hc4.trans (hb5.mono hc4.size)
  refine hK.out _ _ (HSF.out _ hc5) (fun hHeld => ?_)
  clear hK K
  try simp only [Act.put, List.setIfInBounds_toArray, List.set_cons_zero, List.set_cons_succ]
  refine wpX_takeg3 (v := ?_) (by kernel_rfl) (fun _ _ _ h => h) (by rfl) ?_ hHeld ?_
  rotate_left
  · intro w' hSw
    go_simp <;> with_reducible rfl
  try simp only [Act.put, List.setIfInBounds_toArray, List.set_cons_zero, List.set_cons_succ]
  refine wpX_takeg4 (v := ?_) (by kernel_rfl) (fun _ _ _ h => h) (by rfl) ?_ hHeld ?_
  rotate_left
  · intro w' hSw
    go_simp <;> with_reducible rfl
  try simp only [Act.put, List.setIfInBounds_toArray, List.set_cons_zero, List.set_cons_succ]
  refine wpX_takeg5 (v := ?_) (by kernel_rfl) (fun _ _ _ h => h) (by rfl) ?_ hHeld ?_
  rotate_left
  · intro w' hSw
    go_simp <;> with_reducible rfl
  try simp only [Act.put, List.setIfInBounds_toArray, List.set_cons_zero, List.set_cons_succ]
  refine wpX_takeg6 (v := ?_) (by kernel_rfl) (fun _ _ _ h => h) (by rfl) ?_ hHeld ?_
  rotate_left
  · intro w' hSw
    go_simp <;> with_reducible rfl
  try simp only [Act.put, List.setIfInBounds_toArray, List.set_cons_zero, List.set_cons_succ]
  refine wpX_takeg7 (v := ?_) (by kernel_rfl) (fun _ _ _ h => h) (by rfl) ?_ hHeld ?_
  rotate_left
  · intro w' hSw
    go_simp <;> with_reducible rfl
  try simp only [Act.put, List.setIfInBounds_toArray, List.set_cons_zero, List.set_cons_succ]
  refine wpAnyX_done (by kernel_rfl) ?_ _
  have HSP : Hid (spansM (deadF k (!early)).blocks (k + 1) I O 1 k = [(if (!early) = true then 2 + 2 * (k : Int) else 1 + 2 * (k : Int), 3 + 2 * (k : Int))]) := by
    show _ = _
    have := one_block (x := deadB k (!early)) rfl htold (dead_made k hk (!early)) k
    exact this.trans (dead_span k hk (!early))
  have hrow := hps.row.cell (i := k) (by omega)
  have own := hps.own k (by omega)
  rw [HSP.out] at own
  obtain ⟨g, cg, hvk, _, lgg, gc, _⟩ := own_rowL own (by simp)
  rw [hvk] at hrow
  have lR := hps.row.lt
  have gc0 := gc 0 (by simp [cS])
  have gc1 := gc 1 (by simp [cS])
  have HB5 : Hid (Below w.heap.size w w5) := HBW3.out.trans (hc5.mono HBW3.out.size)
  simp only [List.flatMap_cons, List.flatMap_nil, cS, List.append_nil, List.getElem_cons_zero, List.getElem_cons_succ, List.length_singleton] at gc0 gc1 hrow
  have u1 : IntKind.i64.wrap (2 * (k : Int)) = 2 * (k : Int) := by rw [IntKind.wrap_i64]; omega
  have u2 : IntKind.i64.wrap (2 + 2 * (k : Int)) = 2 + 2 * (k : Int) := by rw [IntKind.wrap_i64]; omega
  have u3 : IntKind.i64.wrap (3 + 2 * (k : Int)) = 3 + 2 * (k : Int) := by rw [IntKind.wrap_i64]; omega
  have u4 : IntKind.i64.wrap (2 + 2 * (k : Int) - 1) = 1 + 2 * (k : Int) := by rw [IntKind.wrap_i64]; omega
  have u5 : IntKind.i64.wrap ((k : Int) + 1) = (k : Int) + 1 := by rw [IntKind.wrap_i64]; omega
  have eqr := eqSpan
  have eqg := eqSpanG
  clear hps htold hb5 hc5 hc4 hb4 hbd own gc hvk HSF HCS HDV HSP z0 z1 lY3 hHeld HBW3 hRl
  cases early
  · simp only [Bool.not_false, if_true] at gc0
    go_upto_region 8 with fail
    obtain ⟨W6, hW6⟩ : ∃ W6, W6 = w5.alloc (.cells #[.int .i64 (2 + 2 * (k : Int)), .int .i64 (3 + 2 * (k : Int))] 63) := ⟨_, rfl⟩
    obtain ⟨Q, hQ⟩ : ∃ Q, w5.heap.size = Q := ⟨_, rfl⟩
    have b0 : W6.cell? ⟨Q, 0, none⟩ = some (.int .i64 (2 + 2 * (k : Int))) := by rw [hW6, ← hQ]; simp
    have b1 : W6.cell? ⟨Q, 1, none⟩ = some (.int .i64 (3 + 2 * (k : Int))) := by rw [hW6, ← hQ]; simp
    have hb6 : Below w5.heap.size w5 W6 := by rw [hW6]; exact (Below.refl _ _).alloc (Nat.le_refl _) _
    have v0 := (hb6.cell (p := ⟨R, k, none⟩) lR).trans hrow
    have v1 := (hb6.cell (p := ⟨g, 0, none⟩) lgg).trans gc0
    have v2 := (hb6.cell (p := ⟨g, 1, none⟩) lgg).trans gc1
    have HB6 : Hid (Below w.heap.size w W6) := HB5.out.trans (hb6.mono HB5.out.size)
    rw [← hW6, hQ]
    clear hW6 hQ hb6 hrow gc0 gc1
    go_quiet (fail)
    go_wp2
    go_ret
    exact ⟨rfl, below_drewN HB6.out _⟩
  · simp only [Bool.not_true, Bool.false_eq_true, if_false] at gc0
    go_upto_region 8 with fail
    obtain ⟨W6, hW6⟩ : ∃ W6, W6 = w5.alloc (.cells #[.int .i64 (1 + 2 * (k : Int)), .int .i64 (3 + 2 * (k : Int))] 63) := ⟨_, rfl⟩
    obtain ⟨Q, hQ⟩ : ∃ Q, w5.heap.size = Q := ⟨_, rfl⟩
    have b0 : W6.cell? ⟨Q, 0, none⟩ = some (.int .i64 (1 + 2 * (k : Int))) := by rw [hW6, ← hQ]; simp
    have b1 : W6.cell? ⟨Q, 1, none⟩ = some (.int .i64 (3 + 2 * (k : Int))) := by rw [hW6, ← hQ]; simp
    have hb6 : Below w5.heap.size w5 W6 := by rw [hW6]; exact (Below.refl _ _).alloc (Nat.le_refl _) _
    have v0 := (hb6.cell (p := ⟨R, k, none⟩) lR).trans hrow
    have v1 := (hb6.cell (p := ⟨g, 0, none⟩) lgg).trans gc0
    have v2 := (hb6.cell (p := ⟨g, 1, none⟩) lgg).trans gc1
    have HB6 : Hid (Below w.heap.size w W6) := HB5.out.trans (hb6.mono HB5.out.size)
    rw [← hW6, hQ]
    clear hW6 hQ hb6 hrow gc0 gc1
    go_quiet (fail)
    go_wp2
    go_ret
    exact ⟨rfl, below_drewN HB6.out _⟩

end Go.Proofs.Ytjpmkamacbenhaa
