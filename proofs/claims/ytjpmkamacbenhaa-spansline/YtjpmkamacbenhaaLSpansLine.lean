/-
  The walk of SpansLine: a value is needed from where it is made up to its last use.
-/
import Derived.Test.YtjpmkamacbenhaaV15
import Derived.Test.YtjpmkamacbenhaaN1
import Derived.Test.YtjpmkamacbenhaaA1
import Derived.Deep.QuietTactic
import Derived.BigQuiet
import Derived.OpenShut
namespace Go.Proofs.Ytjpmkamacbenhaa
open Go.RowKit
set_option linter.unusedVariables false

theorem cO_len (l : List Opr) : (l.flatMap cO).length = l.length * 5 := flat_length cO 5 (fun _ => rfl) l
def linO (j : Nat) (late : Bool) : List Opr := [⟨1, (j : Int), late, 1, 0⟩, ⟨2, ((j + 1 : Nat) : Int), true, 1, 0⟩]
def linI (j : Nat) (late : Bool) (i : Nat) : Ins := if i = j + 1 then ⟨((i % 256 : Nat) : Int), linO j late, []⟩ else lnI i
def linB (j : Nat) (late : Bool) : Blk := ⟨[], (List.range (j + 2)).map (linI j late), []⟩
def linF (j : Nat) (late : Bool) : Fn := ⟨List.replicate (j + 2) 0, [linB j late]⟩
def linTo (j : Nat) (late : Bool) (v : Nat) : Int := if v = j + 1 then 3 + 2 * (v : Int) else if v = j ∧ late = true then 5 + 2 * (v : Int) else 4 + 2 * (v : Int)
set_option maxRecDepth 100000 in
theorem lin_flow : ∀ j : Nat, j < 20 → ∀ late : Bool, flowE (linF j late) 10 10 (1 * 1 + 1) = 0 := by decide +kernel
set_option maxRecDepth 100000 in
theorem lin_made : ∀ j : Nat, j < 20 → ∀ late : Bool, ∀ v : Nat, v < j + 2 → (v : Int) ∈ makersOf (linB j late) := by decide +kernel
set_option maxRecDepth 100000 in
theorem lin_span : ∀ j : Nat, j < 20 → ∀ late : Bool, ∀ v : Nat, v < j + 2 → stepL [] (stayM (linB j late) noT noT 0 (j + 2) 0 v) = [(2 + 2 * (v : Int), linTo j late v)] := by decide +kernel
theorem one_block {x : Blk} (hx : x.edges = []) {nv : Nat} {I O : Tb} (h : (∀ b v, v < nv → (I b v = true ↔ NeedIn [x] b v)) ∧ ∀ b v, v < nv → (O b v = true ↔ NeedOut [x] b v)) (hm : ∀ v : Nat, v < nv → (v : Int) ∈ makersOf x) (i : Nat) : spansM [x] nv I O 1 i = stepL [] (stayM x noT noT 0 nv 0 i) := by
  have hI : ∀ v, v < nv → I 0 v = false := fun v hv => by
    cases e : I 0 v
    · rfl
    · have := NeedIn.iff.1 ((h.1 0 v hv).1 e)
      exact absurd (hm v hv) this.2.1
  have hO : ∀ v, v < nv → O 0 v = false := fun v hv => by
    cases e : O 0 v
    · rfl
    · obtain ⟨_, h1 | ⟨t, h1, _⟩⟩ := (h.2 0 v hv).1 e
      · have : blkA [x] 0 = x := rfl
        rw [this, hx] at h1
        cases h1
      · have : succM [x] 0 = x.edges.map fun e => e.block.toNat := rfl
        rw [this, hx] at h1
        cases h1
  have e1 : stIn I 0 0 nv = stIn noT 0 0 nv := by
    funext v
    unfold stIn noT
    by_cases hv : v < nv
    · simp [hI v hv]
    · simp [hv]
  have e2 : ∀ fin s, stOut O 0 fin s nv = stOut noT 0 fin s nv := fun fin s => by
    funext v
    unfold stOut noT
    by_cases hv : v < nv
    · simp [hO v hv]
    · simp [hv]
  show stepL [] (stayM x I O 0 nv (startM [x] 0) i) = _
  have e3 : startM [x] 0 = 0 := rfl
  rw [e3]
  unfold stayM stMid
  rw [e1, e2]
theorem eqSpan (c1 n1 c2 n2 : Int) (w : World) : (binOp .eql 63 (.agg #[.int .i64 c1, .int .i64 n1]) (.agg #[.int .i64 c2, .int .i64 n2])).run Try.prog w = .ok (.bool (c1 == c2 && n1 == n2)) w := by
  have hS : Try.prog.underlying 63 = some (.struct (Try.prog.fieldsOf 63)) := by kernel_rfl
  have hp : Try.prog.stoodInHeld 63 = false := by kernel_rfl
  rw [run_eql_struct, show (10000 : Nat) = 9999 + 1 from rfl, run_equalIn_agg w 9999 63 _ _ hS hp]
  simp only [Program.fieldsOf, Try.underlying63]
  go_simp
  by_cases h1 : c1 = c2 <;> by_cases h2 : n1 = n2 <;> simp [h1, h2]
theorem eqSpanG : Try.prog.eqGuardType Try.prog.depth 63 = false := by kernel_rfl
/-- A line whose last use is late, or not. -/
theorem LineSt.lateU {M j : Nat} {vv vi : Value} {ob : Nat → Nat} {w : World} (h : LineSt M (j + 2) (j + 2) vv vi ob w) (hn : j < 100000) (late : Bool) :
    SlOf (w.setCell ⟨ob (j + 1), 2, none⟩ (.bool late)) 1 RInt vv (linF j late).values ∧ SlOf (w.setCell ⟨ob (j + 1), 2, none⟩ (.bool late)) 3 (RBlk (w.setCell ⟨ob (j + 1), 2, none⟩ (.bool late))) (.slice (some ⟨M + 1, 0, none⟩) 1 1) (linF j late).blocks := by
  obtain ⟨w', hw'⟩ : ∃ w', w' = w.setCell ⟨ob (j + 1), 2, none⟩ (.bool late) := ⟨_, rfl⟩
  have K := h.obs (j + 1) (by omega)
  have kept : ∀ b, b ≠ ob (j + 1) → w'.heap[b]? = w.heap[b]? := fun b hb => by rw [hw']; exact Below.heap_setCell _ _ _ _ hb
  have eln : lnO (j + 1) = [⟨1, (j : Int), false, 1, 0⟩, ⟨2, ((j + 1 : Nat) : Int), true, 1, 0⟩] := by
    unfold lnO
    rw [if_neg (by omega)]
    have : ((j + 1 : Nat) : Int) - 1 = (j : Int) := by omega
    rw [this]
  have hblk : w'.heap[ob (j + 1)]? = some (.cells ((linO j late).flatMap cO).toArray 54) := by
    have kb := K.blk
    rw [eln] at kb
    rw [hw', heap_setCell_same w (ob (j + 1)) 2 _ 54 (.bool late) kb]
    rfl
  rw [← hw']
  have hv : SlOf w' 1 RInt vv (linF j late).values := own_ints _ (own_keep h.ov fun g hg _ _ => kept g fun e => K.nv (by rw [← e]; exact hg)) (by unfold longest; omega)
  have hi0 : SlOf w' 3 (fun cs (i : Nat) => cs = lnX (ob i) i) vi (List.range (j + 2)) := own_sl (k := 3) (fun i => lnX (ob i) i) (fun _ => rfl) (by decide) (fun _ => rfl) _ (own_keep h.oi fun g hg _ _ => kept g fun e => K.ni (by rw [← e]; exact hg)) (by unfold longest; omega)
  have hi : SlOf w' 3 (RIns w') vi ((List.range (j + 2)).map (linI j late)) := hi0.mapR (linI j late) fun cs i hj e => by
    subst e
    have hjl := List.mem_range.1 hj
    have O := h.obs i hjl
    have hlen : (lnO i).length ≤ 2 := by unfold lnO; split <;> simp
    unfold linI
    split
    · rename_i e
      subst e
      have el : (linO j late).length = (lnO (j + 1)).length := by rw [eln]; rfl
      refine ⟨_, _, rfl, ?_, SlOf_nil _ _ _ _ _⟩
      exact SlOf_blk cO (fun _ => rfl) (fun _ => rfl) (linO j late) hblk el (by unfold longest; omega)
    · rename_i e
      exact ⟨_, _, rfl, SlOf_blk cO (fun _ => rfl) (fun _ => rfl) (lnO i) ((kept _ fun e2 => e (h.inj i (j + 1) hjl (by omega) e2)).trans O.blk) rfl (by unfold longest; omega), SlOf_nil _ _ _ _ _⟩
  have hb1 := K.base
  have r1 : w'.rowIs (M + 1) 44 3 (fun q => if q = 1 then vi else .slice none 0 0) := h.r1.of_block (kept _ (by omega))
  refine ⟨hv, SlOf_one [.slice none 0 0, vi, .slice none 0 0] rfl ⟨_, _, _, rfl, SlOf_nil _ _ _ _ _, hi, SlOf_nil _ _ _ _ _⟩ (cells3 ?_ ?_ ?_)⟩
  · exact r1.cell (i := 0) (by omega)
  · exact r1.cell (i := 1) (by omega)
  · exact r1.cell (i := 2) (by omega)
set_option maxRecDepth 8000 in
set_option maxHeartbeats 8000000 in
theorem spansLine_walk (c : Int) (wc : (Lit.int .i64 c).wf = true) (late : Bool) (w : World) :
    Calls Try.prog 7 #[.int .i64 c, .bool late] w fun e w' => e = .returned (.bool true) ∧ Below w.heap.size w w' := by
  obtain ⟨p0, p1⟩ := pickedOf_bd c 20 (by omega)
  obtain ⟨c0, c1⟩ := bounds_i64 wc
  go_enter Try.func7, Try.ntmps7
  go_wp2_with fail
  refine (picked_any _ _ _ c0 c1 (by omega) (by omega)).mono ?_
  rintro e w ⟨rfl, rfl⟩
  generalize pickedOf c 20 = kk at *
  obtain ⟨j, rfl⟩ : ∃ j : Nat, kk = j := ⟨kk.toNat, by omega⟩
  have hk : j < 20 := by omega
  have wk : IntKind.i64.wrap (2 + (j : Int)) = 2 + (j : Int) := by rw [IntKind.wrap_i64]; omega
  have ek : ((j + 2 : Nat) : Int) = 2 + (j : Int) := by omega
  obtain ⟨N, hN⟩ : ∃ N, w.heap.size = N := ⟨_, rfl⟩
  have HCL := line_any (j + 2) w (by omega) (by omega)
  rw [ek, hN] at HCL
  have HN : Hid (w.heap.size = N) := hN
  clear p0 p1 ek hN
  go_wp2_with fail
  refine HCL.mono ?_
  clear HCL wk
  rintro e w1 ⟨vv, vi, ob, rfl, hL, hb1⟩
  obtain ⟨gv, cv, rfl, gv1, gv2, _, _⟩ := own_rowL hL.ov (by omega)
  obtain ⟨gi, ci, rfl, gi1, gi2, gi3, _⟩ := own_rowL hL.oi (by omega)
  have K := hL.obs (j + 1) (by omega)
  have hm : (lnO (j + 1)).length = 2 := by unfold lnO; rw [if_neg (by omega)]; rfl
  have i1' : w1.cell? ⟨gi, (j + 1) * 3 + 1, none⟩ = some (.slice (some ⟨ob (j + 1), 0, none⟩) 2 2) := by
    have hl : (lnXs ob (j + 2)).length = (j + 2) * 3 := by
      unfold lnXs
      rw [flat_length (fun j => lnX (ob j) j) 3 (fun _ => rfl), List.length_range]
    have h1 := gi3 ((j + 1) * 3 + 1) (by omega)
    have h2 := flat_at (fun j => lnX (ob j) j) 3 (fun _ => rfl) (List.range (j + 2)) (j + 1) 1 (by simp) (by omega)
    rw [h1, ← List.getElem?_eq_getElem]
    show (lnXs ob (j + 2))[(j + 1) * 3 + 1]? = _
    unfold lnXs
    rw [h2]
    simp [lnX, hm]
  go_upto_region 3 with fail
  obtain ⟨W, hW⟩ : ∃ W, W = w1.alloc (.cells #[.slice (some ⟨gv, 0, none⟩) (j + 2) cv, .slice (some ⟨N + 1, 0, none⟩) 1 1] 25) := ⟨_, rfl⟩
  obtain ⟨Y, hY⟩ : ∃ Y, w1.heap.size = Y := ⟨_, rfl⟩
  have hbW : Below w1.heap.size w1 W := by rw [hW]; exact (Below.refl _ _).alloc (Nat.le_refl _) _
  have rY : W.rowIs Y 25 2 (fun q => if q = 0 then .slice (some ⟨gv, 0, none⟩) (j + 2) cv else .slice (some ⟨N + 1, 0, none⟩) 1 1) := by
    rw [hW, ← hY]
    exact World.rowIs_alloc _ _ _ _ fun i hi => by
      simp at hi
      match i, hi with | 0, _ => rfl | 1, _ => rfl
  have hLW := hL.below hbW
  have KW := hLW.obs (j + 1) (by omega)
  have y1 : W.cell? ⟨Y, 1, none⟩ = some (.slice (some ⟨N + 1, 0, none⟩) 1 1) := rY.cell (i := 1) (by omega)
  have n1 : W.cell? ⟨N + 1, 1, none⟩ = some (.slice (some ⟨gi, 0, none⟩) (j + 2) ci) := hLW.r1.cell (i := 1) (by omega)
  have i1 : W.cell? ⟨gi, (j + 1) * 3 + 1, none⟩ = some (.slice (some ⟨ob (j + 1), 0, none⟩) 2 2) := (hbW.cell (p := ⟨gi, (j + 1) * 3 + 1, none⟩) gi2).trans i1'
  have lY := rY.lt
  have lN := hLW.r1.lt
  have lg : gi < W.heap.size := Nat.lt_of_lt_of_le gi2 hbW.size
  obtain ⟨B, hB⟩ : ∃ B, ob (j + 1) = B := ⟨_, rfl⟩
  have o1 : ∃ x, W.cell? ⟨B, 2, none⟩ = some x := by
    rw [← hB]
    refine ⟨_, blk_cellL KW.blk (2) ?_⟩
    have := cO_len (lnO (j + 1))
    simp only [List.size_toArray]
    omega
  obtain ⟨xo, o1⟩ := o1
  have oz : W.frozen? ⟨B, 2, none⟩ = false := by rw [← hB]; exact blk_frozenL KW.blk _
  have HBY : Hid (B < Y ∧ N + 1 < B) := by
    have h1 := K.base
    have h2 := K.lt
    exact ⟨by rw [← hB, ← hY]; exact h2, by rw [← hB]; omega⟩
  have HD := hLW.lateU (by omega) late
  rw [hB] at i1 HD
  have HBW : Hid (Below w.heap.size w W) := by
    show Below _ _ _
    have hs1 := hb1.size
    rw [HN.out] at hs1 ⊢
    exact hb1.trans (hbW.mono hs1)
  have HLN : Hid (w.heap.size ≤ N) := by rw [← HN.out]; exact Nat.le_refl _
  rw [← hW, hY]
  have u1 : IntKind.i64.wrap (2 + (j : Int) - 1) = (j : Int) + 1 := by rw [IntKind.wrap_i64]; omega
  have u2 : (j : Int) + 1 < (j : Int) + 2 := by omega
  have u3 : (0 : Int) ≤ (j : Int) + 1 := by omega
  have u4 : ((j : Int) + 1).toNat = j + 1 := by omega
  obtain ⟨W3, hW3⟩ : ∃ W3, W3 = W.setCell ⟨B, 2, none⟩ (.bool late) := ⟨_, rfl⟩
  have HW3 : Hid (W3 = W.setCell ⟨B, 2, none⟩ (.bool late)) := hW3
  clear hW3
  have HRY : Hid (W.rowIs Y 25 2 (fun q => if q = 0 then .slice (some ⟨gv, 0, none⟩) (j + 2) cv else .slice (some ⟨N + 1, 0, none⟩) 1 1)) := rY
  have HDD : Hid (SlOf (W.setCell ⟨B, 2, none⟩ (.bool late)) 1 RInt (.slice (some ⟨gv, 0, none⟩) (j + 2) cv) (linF j late).values ∧ SlOf (W.setCell ⟨B, 2, none⟩ (.bool late)) 3 (RBlk (W.setCell ⟨B, 2, none⟩ (.bool late))) (.slice (some ⟨N + 1, 0, none⟩) 1 1) (linF j late).blocks) := HD
  clear hW hY hbW rY hLW KW K hB HD hL hb1 i1' gi3 gv1 gv2 gi1 gi2 hm
  go_upto_region 4 with fail
  have hW3 := HW3.out
  rw [← hW3]
  have rY3 := HRY.out.setOther (a := ⟨B, 2, none⟩) (by have := HBY.out; simp; omega) (.bool late)
  have z0 : W3.cell? ⟨Y, 0, none⟩ = some (.slice (some ⟨gv, 0, none⟩) (j + 2) cv) := by rw [hW3]; exact rY3.cell (i := 0) (by omega)
  have z1 : W3.cell? ⟨Y, 1, none⟩ = some (.slice (some ⟨N + 1, 0, none⟩) 1 1) := by rw [hW3]; exact rY3.cell (i := 1) (by omega)
  have lY3 : Y < W3.heap.size := by rw [hW3]; exact rY3.lt
  have HBW3 : Hid (Below w.heap.size w W3) := by
    show Below _ _ _
    rw [hW3]
    exact (HBW.out.setCell (p := ⟨B, 2, none⟩) (by have := HBY.out; have := HLN.out; simp; omega) _)
  have hdr : Below (W.setCell ⟨B, 2, none⟩ (.bool late)).heap.size (W.setCell ⟨B, 2, none⟩ (.bool late)) W3 := by rw [hW3]; exact Below.refl _ _
  have HDV : Hid (SlOf W3 1 RInt (.slice (some ⟨gv, 0, none⟩) (j + 2) cv) (linF j late).values ∧ SlOf W3 3 (RBlk W3) (.slice (some ⟨N + 1, 0, none⟩) 1 1) (linF j late).blocks) := ⟨HDD.out.1.below hdr fun _ _ h => h, HDD.out.2.below hdr (RBlk.below hdr)⟩
  have HCS : Hid (∀ w', Below W3.heap.size W3 w' → Calls Try.prog 18 #[.agg #[.slice (some ⟨gv, 0, none⟩) (j + 2) cv, .slice (some ⟨N + 1, 0, none⟩) 1 1], .agg #[.int .i64 10, .int .i64 10]] w' fun e w'' => ∃ R vs I O, e = .returned (.tuple #[.slice (some ⟨R, 0, none⟩) (j + 2) (j + 2), .int .i64 0]) ∧ PSp w'' R (j + 2) vs (spansM (linF j late).blocks (j + 2) I O 1) ∧ ((∀ b v, v < j + 2 → (I b v = true ↔ NeedIn (linF j late).blocks b v)) ∧ ∀ b v, v < j + 2 → (O b v = true ↔ NeedOut (linF j late).blocks b v)) ∧ w'.heap.size ≤ R ∧ Below w'.heap.size w' w'') := fun w' hh => spans_any (linF j late) (j + 2) 1 10 10 _ _ _ _ (lin_flow j hk late) (by simp [linF]) (by simp [linF]) w' (HDV.out.1.below hh fun _ _ h => h) (HDV.out.2.below hh (RBlk.below hh))
  clear hW3 HW3 rY3 hdr HDD HRY HBW HBY o1 oz y1 n1 i1 lY lN lg
  have HSF : Hid (∀ w', Below W3.heap.size W3 w' → (fun w' => w'.cell? ⟨Y, 0, none⟩ = some (.slice (some ⟨gv, 0, none⟩) (j + 2) cv) ∧ w'.cell? ⟨Y, 1, none⟩ = some (.slice (some ⟨N + 1, 0, none⟩) 1 1)) w') := fun w' hh => ⟨(hh.cell lY3).trans z0, (hh.cell lY3).trans z1⟩
  have hbd : Below W3.heap.size W3 W3.drew := (Below.refl _ _).drew
  refine wp_region_X (fun w' => w'.cell? ⟨Y, 0, none⟩ = some (.slice (some ⟨gv, 0, none⟩) (j + 2) cv) ∧ w'.cell? ⟨Y, 1, none⟩ = some (.slice (some ⟨N + 1, 0, none⟩) 1 1)) 99 (by kernel_rfl) (HSF.out _ hbd) (fun hHeld => ?_)
  refine wpX_takeg0 (v := ?_) (by kernel_rfl) (fun _ _ _ h => h) (by rfl) ?_ hHeld ?_
  rotate_left
  · intro w' hSw
    go_simp <;> with_reducible rfl
  try simp only [Act.put, List.setIfInBounds_toArray, List.set_cons_zero, List.set_cons_succ]
  refine wpX_step1 (by kernel_rfl) (fun K hK => ?_)
  go_simp
  refine (big_any _).mono ?_
  rintro e w4 ⟨rfl, hb4⟩
  have hc4 : Below W3.heap.size W3 w4 := hbd.trans (hb4.mono hbd.size)
  refine hK.out _ _ (HSF.out _ hc4) (fun hHeld => ?_)
  clear hK K
  try simp only [Act.put, List.setIfInBounds_toArray, List.set_cons_zero, List.set_cons_succ]
  refine wpX_step2 (by kernel_rfl) (fun K hK => ?_)
  go_simp
  refine (HCS.out _ hc4).mono ?_
  rintro e w5 ⟨R, vs, I, O, rfl, hps, htold, hRl, hb5⟩
  have hc5 : Below W3.heap.size W3 w5 := hc4.trans (hb5.mono hc4.size)
  refine hK.out _ _ (HSF.out _ hc5) (fun hHeld => ?_)
  clear hK K
  try simp only [Act.put, List.setIfInBounds_toArray, List.set_cons_zero, List.set_cons_succ]
  refine wpX_takeg3 (v := ?_) (by kernel_rfl) (fun _ _ _ h => h) (by rfl) ?_ hHeld ?_
  rotate_left
  · intro w' hSw
    go_simp <;> with_reducible rfl
  try simp only [Act.put, List.setIfInBounds_toArray, List.set_cons_zero, List.set_cons_succ]
  refine wpX_takeg4 (v := ?_) (by kernel_rfl) (fun _ _ _ h => h) (by rfl) ?_ hHeld ?_
  rotate_left
  · intro w' hSw
    go_simp <;> with_reducible rfl
  try simp only [Act.put, List.setIfInBounds_toArray, List.set_cons_zero, List.set_cons_succ]
  refine wpX_takeg5 (v := ?_) (by kernel_rfl) (fun _ _ _ h => h) (by rfl) ?_ hHeld ?_
  rotate_left
  · intro w' hSw
    go_simp <;> with_reducible rfl
  try simp only [Act.put, List.setIfInBounds_toArray, List.set_cons_zero, List.set_cons_succ]
  refine wpX_takeg6 (v := ?_) (by kernel_rfl) (fun _ _ _ h => h) (by rfl) ?_ hHeld ?_
  rotate_left
  · intro w' hSw
    go_simp <;> with_reducible rfl
  try simp only [Act.put, List.setIfInBounds_toArray, List.set_cons_zero, List.set_cons_succ]
  refine wpX_takeg7 (v := ?_) (by kernel_rfl) (fun _ _ _ h => h) (by rfl) ?_ hHeld ?_
  rotate_left
  · intro w' hSw
    go_simp <;> with_reducible rfl
  try simp only [Act.put, List.setIfInBounds_toArray, List.set_cons_zero, List.set_cons_succ]
  refine wpAnyX_done (by kernel_rfl) ?_ _
  have HSP : Hid (∀ v, v < j + 2 → ∃ g cg, w5.cell? ⟨R, v, none⟩ = some (.slice (some ⟨g, 0, none⟩) 1 cg) ∧ g < w5.heap.size ∧ w5.cell? ⟨g, 0, none⟩ = some (.int .i64 (2 + 2 * (v : Int))) ∧ w5.cell? ⟨g, 1, none⟩ = some (.int .i64 (linTo j late v))) := fun v hv => by
    have h1 := (one_block (x := linB j late) rfl htold (lin_made j hk late) v).trans (lin_span j hk late v hv)
    have hrow := hps.row.cell (i := v) hv
    have own : w5.ownsRow _ _ _ _ (spansM [linB j late] (j + 2) I O 1 v).length ((spansM [linB j late] (j + 2) I O 1 v).flatMap cS) := hps.own v hv
    rw [h1] at own
    obtain ⟨g, cg, hvk, _, lgg, gc, _⟩ := own_rowL own (by simp)
    rw [hvk] at hrow
    have gc0 := gc 0 (by simp [cS])
    have gc1 := gc 1 (by simp [cS])
    simp only [List.flatMap_cons, List.flatMap_nil, cS, List.append_nil, List.getElem_cons_zero, List.getElem_cons_succ, List.length_singleton] at gc0 gc1 hrow
    exact ⟨g, cg, hrow, lgg, gc0, gc1⟩
  have lR := hps.row.lt
  have HB5 : Hid (Below w.heap.size w w5) := HBW3.out.trans (hc5.mono HBW3.out.size)
  have eqr := eqSpan
  have eqg := eqSpanG
  clear hps htold hb5 hc5 hc4 hb4 hbd HSF HCS HDV z0 z1 lY3 hHeld HBW3 hRl u1 u2 u3 u4
  have e2 : ((j : Int) + 2 == 2 + (j : Int)) = true := by simp; omega
  have e2' : (j : Int) + 2 = 2 + (j : Int) := by omega
  go_wp2_with fail
  go_loopw [9] (fun i wr => ∃ v : Nat, v ≤ j + 2 ∧ i = .int .i64 v ∧ Hid (Below w5.heap.size w5 wr)) (fun i _ => j + 2 - (intOf i).toNat)
  case atStart => exact ⟨0, Nat.zero_le _, rfl, Below.refl _ _⟩
  case round =>
    obtain ⟨v, hv, rfl, HBR⟩ := hrel
    have hb0 := HBR.out
    by_cases hvl : v < j + 2
    · obtain ⟨g, cg, h0, hg, h1, h2⟩ := HSP.out v hvl
      have v0 := (hb0.cell (p := ⟨R, v, none⟩) lR).trans h0
      have v1 := (hb0.cell (p := ⟨g, 0, none⟩) hg).trans h1
      have v2 := (hb0.cell (p := ⟨g, 1, none⟩) hg).trans h2
      have d1 : (v : Int) < 2 + (j : Int) := by omega
      have d2 : (v : Int) < (j : Int) + 2 := by omega
      have t1 : IntKind.i64.wrap (2 * (v : Int)) = 2 * (v : Int) := by rw [IntKind.wrap_i64]; omega
      have t2 : IntKind.i64.wrap (2 + 2 * (v : Int)) = 2 + 2 * (v : Int) := by rw [IntKind.wrap_i64]; omega
      have t3 : IntKind.i64.wrap (2 + 2 * (v : Int) + 2) = 4 + 2 * (v : Int) := by rw [IntKind.wrap_i64]; omega
      have t4 : IntKind.i64.wrap (2 + 2 * (v : Int) + 1) = 3 + 2 * (v : Int) := by rw [IntKind.wrap_i64]; omega
      have t5 : IntKind.i64.wrap (4 + 2 * (v : Int) + 1) = 5 + 2 * (v : Int) := by rw [IntKind.wrap_i64]; omega
      have t6 : IntKind.i64.wrap (2 + (j : Int) - 1) = (j : Int) + 1 := by rw [IntKind.wrap_i64]; omega
      have t7 : IntKind.i64.wrap (j : Int) = (j : Int) := by rw [IntKind.wrap_i64]; omega
      have t8 : IntKind.i64.wrap (2 + (j : Int) - 2) = (j : Int) := by rw [IntKind.wrap_i64]; omega
      clear h0 h1 h2 hb0
      by_cases c1 : v = j + 1
      · have q1 : ((v : Int) == (j : Int) + 1) = true := by simp; omega
        have q2 : ((v : Int) == (j : Int)) = false := by simp; omega
        have et : linTo j late v = 3 + 2 * (v : Int) := by unfold linTo; rw [if_pos c1]
        rw [et] at v2
        clear c1 et
        go_wp2
        go_roundw
        case rel => exact ⟨v + 1, by omega, by go_num, HBR⟩
        case measure => simp [intOf]; omega
      · have q1 : ((v : Int) == (j : Int) + 1) = false := by simp; omega
        by_cases c2 : v = j
        · have q2 : ((v : Int) == (j : Int)) = true := by simp; omega
          cases late
          · have et : linTo j false v = 4 + 2 * (v : Int) := by unfold linTo; rw [if_neg c1, if_neg (by simp)]
            rw [et] at v2
            clear c1 c2 et
            go_wp2
            go_roundw
            case rel => exact ⟨v + 1, by omega, by go_num, HBR⟩
            case measure => simp [intOf]; omega
          · have et : linTo j true v = 5 + 2 * (v : Int) := by unfold linTo; rw [if_neg c1, if_pos ⟨c2, rfl⟩]
            rw [et] at v2
            clear c1 c2 et
            go_wp2
            go_roundw
            case rel => exact ⟨v + 1, by omega, by go_num, HBR⟩
            case measure => simp [intOf]; omega
        · have q2 : ((v : Int) == (j : Int)) = false := by simp; omega
          have et : linTo j late v = 4 + 2 * (v : Int) := by unfold linTo; rw [if_neg c1, if_neg (fun h => c2 h.1)]
          rw [et] at v2
          clear c1 c2 et
          go_wp2
          go_roundw
          case rel => exact ⟨v + 1, by omega, by go_num, HBR⟩
          case measure => simp [intOf]; omega
    · have d1 : ¬ (v : Int) < 2 + (j : Int) := by omega
      have HE : Hid (Below w.heap.size w wr) := HB5.out.trans (hb0.mono HB5.out.size)
      clear hb0 HBR
      go_wp2
      go_ret
      exact ⟨rfl, HE.out⟩

end Go.Proofs.Ytjpmkamacbenhaa
