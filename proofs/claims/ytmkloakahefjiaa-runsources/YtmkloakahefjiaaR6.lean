/-
  The contract of 'Source': what a function does, as events, for so many steps.
-/
import Derived.Test.YtmkloakahefjiaaR5
import Derived.Test.YtmkloakahefjiaaF7
import Derived.Test.YtmkloakahefjiaaF9s
namespace Go.Proofs.Ytmkloakahefjiaa
open Go.RowKit
set_option linter.unusedVariables false

def REv (w : World) (cs : List Value) (e : Evt) : Prop := ∃ vr, cs = [.int .i64 e.block, .int .i64 e.place, vr, .int .i64 e.edge] ∧ SlOf w 1 RInt vr e.read
theorem REv.below {w w' : World} (hb : Below w.heap.size w w') (cs : List Value) (x : Evt) (h : REv w cs x) : REv w' cs x := by
  obtain ⟨vr, h1, h2⟩ := h
  exact ⟨vr, h1, h2.below hb fun _ _ h => h⟩
theorem sl_map {α β : Type} {w : World} {k : Nat} {R : List Value → α → Prop} {R' : List Value → β → Prop} {v : Value} {l : List α} (f : α → β) (h : SlOf w k R v l) (hR : ∀ p ∈ l, ∀ cs, R cs p → R' cs (f p)) : SlOf w k R' v (l.map f) := by
  obtain ⟨a, c, hv, hl, h1⟩ := h
  refine ⟨a, c, by rw [List.length_map]; exact hv, by rw [List.length_map]; exact hl, ?_⟩
  rcases h1 with e | ⟨b, off, ha, h2⟩
  · left; rw [e]; rfl
  · refine Or.inr ⟨b, off, ha, fun i hi => ?_⟩
    rw [List.length_map] at hi
    obtain ⟨cs, h3, h4, h5⟩ := h2 i hi
    exact ⟨cs, h3, by rw [List.getElem_map]; exact hR _ (List.getElem_mem hi) cs h4, h5⟩
theorem flow_shapeR {f : Fn} {m0 m1 : Int} {K : Nat} (h : flowE f m0 m1 K = 0) : shapeErr f m0 m1 = 0 := by
  unfold flowE at h
  split at h
  · contradiction
  · rename_i h1
    simpa using h1
theorem edge_lenR {values : List Int} {bs : List Blk} {e : Edg} (h : edgeErr values bs e = 0) : (bs.getD e.block.toNat emptyB).params.length = e.args.length ∧ ∃ b ∈ bs, e.args.length = b.params.length := by
  unfold edgeErr at h
  split at h
  · cases h
  · split at h
    · cases h
    · rename_i b hb
      split at h
      · rename_i h3
        exact ⟨by rw [List.getD_eq_getElem?_getD, hb]; exact h3.symm, b, List.mem_of_getElem? hb, h3⟩
      · cases h
theorem fits_of {f : Fn} {m0 m1 : Int} (h : shapeErr f m0 m1 = 0) : FitsR f.values.length f.blocks := by
  have S := shape_in h
  have F : ∀ b ∈ f.blocks, (b.params.length ≤ 5 ∧ b.instrs.length ≤ 40 ∧ b.edges.length ≤ 3) ∧ ∀ x ∈ b.instrs, x.operands.length ≤ 6 ∧ x.spoils.length ≤ 20 := fun b hb => by
    have := S.fits b hb
    simp only [blkFits, Bool.and_eq_true, decide_eq_true_eq, List.all_eq_true, insFits] at this
    exact this
  refine ⟨fun b hb => ⟨by have := (F b hb).1; omega, fun x hx => ⟨by have := (F b hb).2 x hx; omega, fun o ho => isValue_bd (instrErr_val (S.ins b hb x hx) o ho)⟩⟩, fun b hb => ⟨by have := (F b hb).1; omega, fun e he => ?_⟩, fun b hb v hv => isValue_bd (marks_val _ _ _ S.mks v (mem_all hb (List.mem_append_left _ hv)))⟩
  have h1 := edgeErr_val (S.edg b hb e he)
  obtain ⟨h2, c, hc, h3⟩ := edge_lenR (S.edg b hb e he)
  have h4 := (F c hc).1
  exact ⟨⟨by omega, h1.2.1⟩, by omega, fun v hv => isValue_bd (h1.2.2 v hv), h2⟩
theorem run_le (bs : List Blk) (nv : Nat) (seed : Int) : ∀ n, (runM bs nv seed n).evs.length ≤ n
  | 0 => by simp [runM]
  | n + 1 => Nat.le_trans (run_few bs nv seed n) (by omega)
/-- How many steps are left, as the box says it. -/
def leftW (w : World) (X : Nat) : Nat := match w.cell? ⟨X, 3, none⟩ with | some (.int _ v) => v.toNat | _ => 0
def srMs (X : Nat) (v : Value) (w : World) : Nat := if intOf v = -1 then 0 else 1 + leftW w X
/-- From block to block. -/
def SrI (wb : World) (B X Y : Nat) (vv vb : Value) (nv : Nat) (seed : Int) (bs : List Blk) (steps : Nat) (r : Int) (w' : World) : Prop :=
  ∃ left now ve es, WkS wb B X Y vv vb nv seed left now ve es w' ∧
    ((r = -1 ∧ es.map (·.1) = (runM bs nv seed steps).evs) ∨ ∃ b t : Nat, r = (b : Int) ∧ b < bs.length ∧ t ≤ steps ∧ left = ((steps - t : Nat) : Int) ∧ es.length ≤ t ∧ runM bs nv seed t = ⟨.come b, now, es.map (·.1)⟩)
theorem SrI.of_end {wb : World} {B X Y : Nat} {vv vb : Value} {nv : Nat} {seed : Int} {bs : List Blk} {steps t : Nat} {r : Int} {w w' : World} {b : Nat} (h : ThEnd wb B X Y vv vb nv seed bs steps t r w') (hw : w.cell? ⟨X, 3, none⟩ = some (.int .i64 ((steps - t : Nat) : Int))) : SrI wb B X Y vv vb nv seed bs steps r w' ∧ srMs X (.int .i64 r) w' < srMs X (.int .i64 (b : Int)) w := by
  obtain ⟨left, now, ve, es, hk, h1⟩ := h
  have e0 : srMs X (.int .i64 (b : Int)) w = 1 + (steps - t) := by
    unfold srMs leftW
    rw [hw]
    simp [intOf] <;> omega
  rw [e0]
  have hc : w'.cell? ⟨X, 3, none⟩ = some (.int .i64 left) := hk.bx.cell (i := 3) (by omega)
  rcases h1 with ⟨h2, h3⟩ | ⟨b', t', h2, h3, h4, h5, h6, h7⟩
  · refine ⟨⟨left, now, ve, es, hk, Or.inl ⟨h2, h3⟩⟩, ?_⟩
    unfold srMs
    rw [h2]
    simp [intOf] <;> omega
  · refine ⟨⟨left, now, ve, es, hk, Or.inr ⟨b', t', h2, h3, h5, h6, ?_, h7⟩⟩, ?_⟩
    · have := run_le bs nv seed t'
      rw [h7] at this
      simpa using this
    · unfold srMs leftW
      rw [hc, h2, h6]
      simp [intOf] <;> omega
theorem walk_zero : (Try.prog.info? 37).map (fun i => i.zero) = some (some (.agg #[.slice none 0 0, .slice none 0 0, .int .i64 0, .int .i64 0, .slice none 0 0, .slice none 0 0])) := by kernel_rfl
theorem make_nowR (n : Nat) (hn : n ≤ 1000) (w : World) : (Instr.makeSlice 22 (.int .i64 (n : Int)) (.int .i64 (n : Int))).run Try.prog w = .ok (.slice (some ⟨w.heap.size, 0, none⟩) n n) (w.alloc (.cells (madeCells #[.int .i64 0] n) 3)) := by
  obtain ⟨i3, hi3, hz3, hz31, hz32⟩ := ru_parts ruInfo
  have h := run_make (P := Try.prog) w 22 3 i3 (.int .i64 0) Try.underlying22 hi3 hz3 .i64 .i64 (n : Int) (n : Int) (by omega) (by omega) (by rw [hz32]; omega) (by omega)
  rw [hz31] at h
  have e : (Value.int .i64 0).cells = #[.int .i64 0] := rfl
  rw [e, Int.toNat_natCast] at h
  simp only [Nat.mul_one] at h
  exact h
theorem now_zero (n i : Nat) : (Value.int .i64 0) = nowF (List.replicate n 0) i := by
  unfold nowF
  rw [List.getD_eq_getElem?_getD, List.getElem?_replicate]
  split <;> rfl
/-- A walk that begins. -/
def Beg (W : World) (vv vb : Value) (nv : Nat) (seed steps : Int) (x : Value) (wz : World) : Prop := ∃ X Y, x = .pointer (some ⟨X, 0, none⟩) ∧ wz.rowIs X 37 6 (wkRow vv vb seed steps (.slice (some ⟨Y, 0, none⟩) nv nv) (.slice none 0 0)) ∧ wz.rowIs Y 3 nv (nowF (List.replicate nv 0)) ∧ X ≠ Y ∧ W.heap.size ≤ X ∧ W.heap.size ≤ Y ∧ Below W.heap.size W wz
theorem beg_low {W wz : World} {vv vb x : Value} {nv : Nat} {seed steps : Int} (h : Beg W vv vb nv seed steps x wz) : Below W.heap.size W wz := by
  obtain ⟨_, _, _, _, _, _, _, _, h⟩ := h
  exact h
theorem beg_set {W v : World} {vv vb : Value} {nv X Y : Nat} {seed steps : Int} (hx : v.rowIs X 37 6 (wkRow (.slice none 0 0) (.slice none 0 0) 0 0 (.slice none 0 0) (.slice none 0 0))) (hy : v.rowIs Y 3 nv (nowF (List.replicate nv 0))) (hxy : X ≠ Y) (lX : W.heap.size ≤ X) (lY : W.heap.size ≤ Y) (hb : Below W.heap.size W v) :
    Beg W vv vb nv seed steps (.pointer (some ⟨X, 0, none⟩)) ((((((v.setCell ⟨X, 0, none⟩ vv).setCell ⟨X, 1, none⟩ vb).setCell ⟨X, 2, none⟩ (.int .i64 seed)).setCell ⟨X, 3, none⟩ (.int .i64 steps)).setCell ⟨X, 4, none⟩ (.slice (some ⟨Y, 0, none⟩) nv nv)).setCell ⟨X, 5, none⟩ (.slice none 0 0)) := by
  refine ⟨X, Y, rfl, ((((((hx.set 0 _).set 1 _).set 2 _).set 3 _).set 4 _).set 5 _).congr fun i hi => ?_, (((((hy.setOther (Ne.symm hxy) _).setOther (Ne.symm hxy) _).setOther (Ne.symm hxy) _).setOther (Ne.symm hxy) _).setOther (Ne.symm hxy) _).setOther (Ne.symm hxy) _, hxy, lX, lY, (((((hb.setCell lX _).setCell lX _).setCell lX _).setCell lX _).setCell lX _).setCell lX _⟩
  match i, hi with | 0, _ => rfl | 1, _ => rfl | 2, _ => rfl | 3, _ => rfl | 4, _ => rfl | 5, _ => rfl

set_option maxHeartbeats 16000000 in
theorem source_any (f : Fn) (nv nb steps : Nat) (m0 m1 seed : Int) (av ab : Option Addr) (cv cb : Nat) (hr : flowE f m0 m1 (nb * nb + 1) = 0) (hnv : f.values.length = nv) (hnb : f.blocks.length = nb) (hst : steps ≤ 5000) (w : World) (hv : SlOf w 1 RInt (.slice av nv cv) f.values) (hb : SlOf w 3 (RBlk w) (.slice ab nb cb) f.blocks) :
    Calls Try.prog 4 #[.agg #[.slice av nv cv, .slice ab nb cb], .agg #[.int .i64 m0, .int .i64 m1], .int .i64 seed, .int .i64 (steps : Int)] w fun e w' => ∃ a n c, n = (runM f.blocks nv seed steps).evs.length ∧ n ≤ c ∧ e = .returned (.tuple #[.slice a n c, .int .i64 0]) ∧ SlOf w' 4 (REv w') (.slice a n c) (runM f.blocks nv seed steps).evs ∧ Below w.heap.size w w' := by
  have hsh := flow_shapeR hr
  have hn16 : nb ≤ 1000 := by have := (shape_in hsh).nb; omega
  have hn160 : nv ≤ 1000 := by have := (shape_in hsh).nv; omega
  have hpos : 0 < nb := by have := (shape_in hsh).pos; omega
  have hfit : FitsR nv f.blocks := by rw [← hnv]; exact fits_of hsh
  obtain ⟨N, hN⟩ : ∃ N, w.heap.size = N := ⟨_, rfl⟩
  obtain ⟨W, hW⟩ : ∃ W, W = (w.alloc (.cells #[.slice av nv cv, .slice ab nb cb] 25)).alloc (.cells #[.int .i64 m0, .int .i64 m1] 28) := ⟨_, rfl⟩
  have hbw : Below w.heap.size w W := by rw [hW]; exact ((Below.refl _ _).alloc (Nat.le_refl _) _).alloc (by simp) _
  have rF : W.rowIs N 25 2 (fun q => if q = 0 then .slice av nv cv else .slice ab nb cb) := by
    have := World.rowIs_alloc w #[.slice av nv cv, .slice ab nb cb] 25 (fun q => if q = 0 then .slice av nv cv else .slice ab nb cb) fun i hi => by
      simp at hi
      match i, hi with | 0, _ => rfl | 1, _ => rfl
    rw [hN] at this
    rw [hW]
    exact this.alloc _
  have c0 : W.cell? ⟨N, 0, none⟩ = some (.slice av nv cv) := rF.cell (i := 0) (by omega)
  have c1 : W.cell? ⟨N, 1, none⟩ = some (.slice ab nb cb) := rF.cell (i := 1) (by omega)
  have d0 : W.cell? ⟨N + 1, 0, none⟩ = some (.int .i64 m0) := by rw [hW, ← hN]; simp
  have d1 : W.cell? ⟨N + 1, 1, none⟩ = some (.int .i64 m1) := by rw [hW, ← hN]; simp
  have HC : Calls Try.prog 7 #[.agg #[.slice av nv cv, .slice ab nb cb], .agg #[.int .i64 m0, .int .i64 m1]] W fun e w' => e = .returned (.int .i64 0) ∧ Below W.heap.size W w' := by
    subst hnv hnb
    exact flowCheck_any f _ m0 m1 av ab cv cb 0 hr W (hv.below hbw fun _ _ h => h) (hb.below hbw (RBlk.below hbw)) (fun h => flowIn_all h)
  have HW : Hid (W = (w.alloc (.cells #[.slice av nv cv, .slice ab nb cb] 25)).alloc (.cells #[.int .i64 m0, .int .i64 m1] 28)) := hW
  have HN : Hid (w.heap.size = N) := hN
  have HBW : Hid (Below w.heap.size w W) := hbw
  have HRF : Hid (W.rowIs N 25 2 (fun q => if q = 0 then .slice av nv cv else .slice ab nb cb)) := rF
  have HBS : Hid (SlOf w 3 (RBlk w) (.slice ab nb cb) f.blocks ∧ f.blocks.length = nb) := ⟨hb, hnb⟩
  have HFT : Hid (FitsR nv f.blocks) := hfit
  generalize f.blocks = bs at *
  clear hW hN hbw rF hb hv hnb hfit hsh hr hnv
  go_enter Try.func4, Try.ntmps4
  go_upto_region 1 with fail
  rw [← HW.out, HN.out]
  clear HW
  go_wp2_with fail
  refine HC.mono ?_
  clear HC c0 c1 d0 d1
  rintro e w1 ⟨rfl, hb1⟩
  have HB1 : Hid (Below w.heap.size w w1) := HBW.out.trans (hb1.mono HBW.out.size)
  have rF1 := HRF.out.of_block (hb1.block _ HRF.out.lt)
  have c0 : w1.cell? ⟨N, 0, none⟩ = some (.slice av nv cv) := rF1.cell (i := 0) (by omega)
  have c1 : w1.cell? ⟨N, 1, none⟩ = some (.slice ab nb cb) := rF1.cell (i := 1) (by omega)
  have lN := rF1.lt
  have HSF : Hid (∀ w', Below w1.heap.size w1 w' → (fun w' => w'.cell? ⟨N, 0, none⟩ = some (.slice av nv cv) ∧ w'.cell? ⟨N, 1, none⟩ = some (.slice ab nb cb)) w') := fun w' hh => ⟨(hh.cell lN).trans c0, (hh.cell lN).trans c1⟩
  have q0 : decide ((steps : Int) < 0) = false := by simp
  have q1 : decide ((5000 : Int) < (steps : Int)) = false := by simp; omega
  have q2 : ¬ (5000 : Int) < (steps : Int) := by omega
  have hmk := make_nowR nv hn160
  clear hb1 rF1
  go_upto_region 6 with fail
  clear q0 q1 q2
  have hdr : Below w1.heap.size w1 w1.drew := (Below.refl _ _).drew
  have HDR : Hid (∀ ob, Below w1.heap.size w1 (w1.drew.alloc ob)) := fun ob => (Below.refl _ _).drew.alloc (Nat.le_refl _) _
  go_cut [11] (fun x wz => Beg w1 (.slice av nv cv) (.slice ab nb cb) nv seed (steps : Int) x wz)
  case first =>
    refine wp_region_X (fun w' => w'.cell? ⟨N, 0, none⟩ = some (.slice av nv cv) ∧ w'.cell? ⟨N, 1, none⟩ = some (.slice ab nb cb)) 99 (by kernel_rfl) (HSF.out _ hdr) (fun hHeld => ?_)
    refine wpXt (v := ?_) 0 rfl (by kernel_rfl) (fun _ _ _ h => h) (by rfl) ?_ hHeld ?_
    rotate_left
    · intro w' hSw
      go_simp <;> with_reducible rfl
    try simp only [Act.put, List.setIfInBounds_toArray, List.set_cons_zero, List.set_cons_succ]
    refine wpXt (v := ?_) 1 rfl (by kernel_rfl) (fun _ _ _ h => h) (by rfl) ?_ hHeld ?_
    rotate_left
    · intro w' hSw
      go_simp <;> with_reducible rfl
    try simp only [Act.put, List.setIfInBounds_toArray, List.set_cons_zero, List.set_cons_succ]
    refine wpXt (v := ?_) 2 rfl (by kernel_rfl) (fun _ _ _ h => h) (by rfl) ?_ hHeld ?_
    rotate_left
    · intro w' hSw
      go_simp <;> with_reducible rfl
    try simp only [Act.put, List.setIfInBounds_toArray, List.set_cons_zero, List.set_cons_succ]
    refine wpXt (v := ?_) 3 rfl (by kernel_rfl) (fun _ _ _ h => h) (by rfl) ?_ hHeld ?_
    rotate_left
    · intro w' hSw
      go_simp <;> with_reducible rfl
    try simp only [Act.put, List.setIfInBounds_toArray, List.set_cons_zero, List.set_cons_succ]
    refine wpXt (v := ?_) 4 rfl (by kernel_rfl) (fun _ _ _ h => h) (by rfl) ?_ hHeld ?_
    rotate_left
    · intro w' hSw
      go_simp <;> with_reducible rfl
    try simp only [Act.put, List.setIfInBounds_toArray, List.set_cons_zero, List.set_cons_succ]
    refine wpXt (v := ?_) 5 rfl (by kernel_rfl) (fun _ _ _ h => h) (by rfl) ?_ hHeld ?_
    rotate_left
    · intro w' hSw
      go_simp <;> with_reducible rfl
    try simp only [Act.put, List.setIfInBounds_toArray, List.set_cons_zero, List.set_cons_succ]
    refine wpAnyX_both (i := 6) (k := 8) rfl rfl (by kernel_rfl) (fun K hK => ?_) (fun K hK => ?_)
    · go_simp
      refine hK.out _ _ (HSF.out _ (HDR.out _)) (fun hHeld => ?_)
      clear hK K
      try simp only [Act.put, List.setIfInBounds_toArray, List.set_cons_zero, List.set_cons_succ]
      refine wpXt (v := ?_) 7 rfl (by kernel_rfl) (fun _ _ _ h => h) (by rfl) ?_ hHeld ?_
      rotate_left
      · intro w' hSw
        go_simp <;> with_reducible rfl
      try simp only [Act.put, List.setIfInBounds_toArray, List.set_cons_zero, List.set_cons_succ]

      refine wpXs 8 rfl (by kernel_rfl) (fun K hK => ?_)
      go_simp
      obtain ⟨w3, hw3⟩ : ∃ w3, w3 = ((w1.alloc (.cells (madeCells #[.int .i64 0] nv) 3)).alloc (.cells #[.slice none 0 0, .slice none 0 0, .int .i64 0, .int .i64 0, .slice none 0 0, .slice none 0 0] 37)).drew := ⟨_, rfl⟩
      have hb3 : Below w1.heap.size w1 w3 := by rw [hw3]; exact (((Below.refl _ _).alloc (Nat.le_refl _) _).alloc (by simp) _).drew
      have rx : w3.rowIs (w1.heap.size + 1) 37 6 (wkRow (.slice none 0 0) (.slice none 0 0) 0 0 (.slice none 0 0) (.slice none 0 0)) := by
        rw [hw3]
        have h := World.rowIs_alloc (w1.alloc (.cells (madeCells #[.int .i64 0] nv) 3)) #[.slice none 0 0, .slice none 0 0, .int .i64 0, .int .i64 0, .slice none 0 0, .slice none 0 0] 37 (wkRow (.slice none 0 0) (.slice none 0 0) 0 0 (.slice none 0 0) (.slice none 0 0)) fun i hi => by
          simp at hi
          match i, hi with | 0, _ => rfl | 1, _ => rfl | 2, _ => rfl | 3, _ => rfl | 4, _ => rfl | 5, _ => rfl
        have e : (w1.alloc (.cells (madeCells #[.int .i64 0] nv) 3)).heap.size = w1.heap.size + 1 := by simp
        rw [e] at h
        exact h.drew
      have ry : w3.rowIs (w1.heap.size) 3 nv (nowF (List.replicate nv 0)) := by
        rw [hw3]
        have h := (World.rowIs_made w1 (.int .i64 0) nv 3).congr (fun i _ => now_zero nv i)
        exact (h.alloc _).drew
      obtain ⟨X, hX⟩ : ∃ X, w1.heap.size + 1 = X := ⟨_, rfl⟩
      obtain ⟨Y, hY⟩ : ∃ Y, w1.heap.size = Y := ⟨_, rfl⟩
      rw [hX] at rx
      rw [hY] at ry
      have lX : w1.heap.size ≤ X := by omega
      have lY : w1.heap.size ≤ Y := by omega
      have hxy : X ≠ Y := by omega
      have hbe := beg_set (vv := (.slice av nv cv)) (vb := (.slice ab nb cb)) (seed := seed) (steps := (steps : Int)) rx ry hxy lX lY hb3
      have x0 := rx.cell (i := 0) (by omega)
      have x1 := rx.cell (i := 1) (by omega)
      have x2 := rx.cell (i := 2) (by omega)
      have x3 := rx.cell (i := 3) (by omega)
      have x4 := rx.cell (i := 4) (by omega)
      have x5 := rx.cell (i := 5) (by omega)
      simp only [wkRow] at x0 x1 x2 x3 x4 x5
      have z0 := rx.frozen 0
      have z1 := rx.frozen 1
      have z2 := rx.frozen 2
      have z3 := rx.frozen 3
      have z4 := rx.frozen 4
      have z5 := rx.frozen 5
      have HBE : Hid (Beg w1 (.slice av nv cv) (.slice ab nb cb) nv seed (steps : Int) (.pointer (some ⟨X, 0, none⟩)) _) := hbe
      rw [← hw3, hX, hY]
      refine hK.out _ _ (HSF.out _ hb3) (fun hHeld => ?_)
      clear hK K hw3 hX hY rx ry lX lY hb3 hxy hbe
      try simp only [Act.put, List.setIfInBounds_toArray, List.set_cons_zero, List.set_cons_succ]
      refine wpXs 9 rfl (by kernel_rfl) (fun K hK => ?_)
      go_simp
      refine hK.out _ _ (HSF.out _ (beg_low HBE.out)) (fun hHeld => ?_)
      clear hK K
      try simp only [Act.put, List.setIfInBounds_toArray, List.set_cons_zero, List.set_cons_succ]
      refine wpAnyX_done (by kernel_rfl) ?_ _
      go_wp2
      go_meet
      exact HBE.out

    · go_simp
      refine hK.out _ _ (HSF.out _ (HDR.out _)) (fun hHeld => ?_)
      clear hK K
      try simp only [Act.put, List.setIfInBounds_toArray, List.set_cons_zero, List.set_cons_succ]
      refine wpXs 6 rfl (by kernel_rfl) (fun K hK => ?_)
      go_simp
      obtain ⟨w3, hw3⟩ : ∃ w3, w3 = ((w1.alloc (.cells #[.slice none 0 0, .slice none 0 0, .int .i64 0, .int .i64 0, .slice none 0 0, .slice none 0 0] 37)).alloc (.cells (madeCells #[.int .i64 0] nv) 3)).drew := ⟨_, rfl⟩
      have hb3 : Below w1.heap.size w1 w3 := by rw [hw3]; exact (((Below.refl _ _).alloc (Nat.le_refl _) _).alloc (by simp) _).drew
      have rx : w3.rowIs (w1.heap.size) 37 6 (wkRow (.slice none 0 0) (.slice none 0 0) 0 0 (.slice none 0 0) (.slice none 0 0)) := by
        rw [hw3]
        have h := World.rowIs_alloc w1 #[.slice none 0 0, .slice none 0 0, .int .i64 0, .int .i64 0, .slice none 0 0, .slice none 0 0] 37 (wkRow (.slice none 0 0) (.slice none 0 0) 0 0 (.slice none 0 0) (.slice none 0 0)) fun i hi => by
          simp at hi
          match i, hi with | 0, _ => rfl | 1, _ => rfl | 2, _ => rfl | 3, _ => rfl | 4, _ => rfl | 5, _ => rfl
        exact (h.alloc _).drew
      have ry : w3.rowIs (w1.heap.size + 1) 3 nv (nowF (List.replicate nv 0)) := by
        rw [hw3]
        have h := (World.rowIs_made (w1.alloc (.cells #[.slice none 0 0, .slice none 0 0, .int .i64 0, .int .i64 0, .slice none 0 0, .slice none 0 0] 37)) (.int .i64 0) nv 3).congr (fun i _ => now_zero nv i)
        have e : (w1.alloc (.cells #[.slice none 0 0, .slice none 0 0, .int .i64 0, .int .i64 0, .slice none 0 0, .slice none 0 0] 37)).heap.size = w1.heap.size + 1 := by simp
        rw [e] at h
        exact h.drew
      obtain ⟨X, hX⟩ : ∃ X, w1.heap.size = X := ⟨_, rfl⟩
      obtain ⟨Y, hY⟩ : ∃ Y, w1.heap.size + 1 = Y := ⟨_, rfl⟩
      rw [hX] at rx
      rw [hY] at ry
      have lX : w1.heap.size ≤ X := by omega
      have lY : w1.heap.size ≤ Y := by omega
      have hxy : X ≠ Y := by omega
      have hbe := beg_set (vv := (.slice av nv cv)) (vb := (.slice ab nb cb)) (seed := seed) (steps := (steps : Int)) rx ry hxy lX lY hb3
      have x0 := rx.cell (i := 0) (by omega)
      have x1 := rx.cell (i := 1) (by omega)
      have x2 := rx.cell (i := 2) (by omega)
      have x3 := rx.cell (i := 3) (by omega)
      have x4 := rx.cell (i := 4) (by omega)
      have x5 := rx.cell (i := 5) (by omega)
      simp only [wkRow] at x0 x1 x2 x3 x4 x5
      have z0 := rx.frozen 0
      have z1 := rx.frozen 1
      have z2 := rx.frozen 2
      have z3 := rx.frozen 3
      have z4 := rx.frozen 4
      have z5 := rx.frozen 5
      have HBE : Hid (Beg w1 (.slice av nv cv) (.slice ab nb cb) nv seed (steps : Int) (.pointer (some ⟨X, 0, none⟩)) _) := hbe
      rw [← hw3, hY, hX]
      refine hK.out _ _ (HSF.out _ hb3) (fun hHeld => ?_)
      clear hK K hw3 hX hY rx ry lX lY hb3 hxy hbe
      try simp only [Act.put, List.setIfInBounds_toArray, List.set_cons_zero, List.set_cons_succ]
      refine wpXt (v := ?_) 7 rfl (by kernel_rfl) (fun _ _ _ h => h) (by rfl) ?_ hHeld ?_
      rotate_left
      · intro w' hSw
        go_simp <;> with_reducible rfl
      try simp only [Act.put, List.setIfInBounds_toArray, List.set_cons_zero, List.set_cons_succ]
      refine wpXs 9 rfl (by kernel_rfl) (fun K hK => ?_)
      go_simp
      refine hK.out _ _ (HSF.out _ (beg_low HBE.out)) (fun hHeld => ?_)
      clear hK K
      try simp only [Act.put, List.setIfInBounds_toArray, List.set_cons_zero, List.set_cons_succ]
      refine wpAnyX_done (by kernel_rfl) ?_ _
      go_wp2
      go_meet
      exact HBE.out


  case rest =>
    obtain ⟨X, Y, rfl, hx, hy, hxy, lX, lY, hbz⟩ := hcut
    clear hdr HDR hmk
    have k0 : WkS w1 wc.heap.size X Y (.slice av nv cv) (.slice ab nb cb) nv seed ((steps - 0 : Nat) : Int) (List.replicate nv 0) (.slice none 0 0) [] wc := ⟨hx, hy, by simp, ⟨rfl, Or.inl ⟨rfl, rfl⟩⟩, (fun p hp => by cases hp), hbz, hxy, lX, lY, hx.lt, hy.lt, Nat.le_refl _⟩
    obtain ⟨B, hB⟩ : ∃ B, wc.heap.size = B := ⟨_, rfl⟩
    rw [hB] at k0
    have HI0 : Hid (SrI w1 B X Y (.slice av nv cv) (.slice ab nb cb) nv seed bs steps 0 wc) := ⟨_, _, _, _, k0, Or.inr ⟨0, 0, rfl, by rw [HBS.out.2]; exact hpos, Nat.zero_le _, rfl, Nat.le_refl _, rfl⟩⟩
    have HBL : Hid (SlOf w1 3 (RBlk w1) (.slice ab nb cb) bs) := HBS.out.1.below HB1.out (RBlk.below HB1.out)
    clear k0 hx hy hxy lX lY hbz hB c0 c1 HSF lN
    go_wp2_with fail
    go_loopw [12] (fun v wr => ∃ r : Int, v = .int .i64 r ∧ Hid (SrI w1 B X Y (.slice av nv cv) (.slice ab nb cb) nv seed bs steps r wr)) (fun v wr => srMs X v wr)
    case atStart => exact ⟨0, rfl, HI0⟩
    case round =>
      clear HI0
      obtain ⟨r, rfl, HI⟩ := hrel
      by_cases hr : r = -1
      · subst hr
        obtain ⟨left, now, ve, es, hk, h1⟩ := HI.out
        have h2 : es.map (·.1) = (runM bs nv seed steps).evs := by
          rcases h1 with h1 | ⟨b, t, h1, _⟩
          · exact h1.2
          · omega
        obtain ⟨n, hn⟩ : ∃ n, es.length = n := ⟨_, rfl⟩
        obtain ⟨a, c, rfl, hnc⟩ : ∃ a c, ve = .slice a n c ∧ n ≤ c := by
          rcases hk.own.2 with ⟨h3, h4⟩ | ⟨g, cap, cur, h3, _, _, h5, _⟩
          · exact ⟨_, _, by rw [h3, ← hn, h4], by rw [← hn, h4]; exact Nat.le_refl _⟩
          · exact ⟨_, _, by rw [h3, ← hn], by rw [← hn]; exact h5⟩
        have hlen : n = (runM bs nv seed steps).evs.length := by rw [← h2, List.length_map, hn]
        have hfew := run_le bs nv seed steps
        have x5 : wr.cell? ⟨X, 5, none⟩ = some (.slice a n c) := hk.bx.cell (i := 5) (by omega)
        have hsl : SlOf wr 4 (REv wr) (.slice a n c) (runM bs nv seed steps).evs := by
          rw [← h2]
          have h3 : SlOf wr 4 (fun cs p => cs = cV p) (.slice a n c) es := own_sl (k := 4) cV (fun _ => rfl) (by decide) (fun _ => rfl) es (by rw [← hn]; rw [hn]; have := hk.own; rw [hn] at this; exact this) (by unfold longest; omega)
          exact sl_map (R' := REv wr) (fun p : Evt × Value => p.1) h3 fun p hp cs hcs => ⟨p.2, hcs, (hk.rd p hp).1⟩
        have HE : Hid (n = (runM bs nv seed steps).evs.length ∧ SlOf wr 4 (REv wr) (.slice a n c) (runM bs nv seed steps).evs ∧ Below w.heap.size w wr) := ⟨hlen, hsl, HB1.out.trans (hk.low.mono HB1.out.size)⟩
        clear HI hk h1 h2 hn hlen hfew hsl
        go_wp2
        go_ret2
        exact ⟨a, n, c, HE.out.1, hnc, rfl, HE.out.2.1, HE.out.2.2⟩
      · obtain ⟨left, now, ve, es, hk, h1⟩ := HI.out
        obtain ⟨b, t, hrb, hbl, ht, hle, hes, hrun⟩ := h1.resolve_left fun h => hr h.1
        subst hrb hle
        have c3 : wr.cell? ⟨X, 3, none⟩ = some (.int .i64 ((steps - t : Nat) : Int)) := hk.bx.cell (i := 3) (by omega)
        have HC3 : Hid (wr.cell? ⟨X, 3, none⟩ = some (.int .i64 ((steps - t : Nat) : Int))) := c3
        have HC := wthrough_any w1 B X Y nv nb cb b steps t (.slice av nv cv) ve seed now es bs ab wr hk HBL.out HBS.out.2 HFT.out (by rw [← HBS.out.2]; exact hbl) ht hst hn160 hn16 hes hrun
        have q : ((b : Int) == -1) = false := by simp
        clear hk h1 hrun HI c3 hr hes hbl
        go_wp2_with fail
        refine HC.mono ?_
        clear HC
        rintro e w2 ⟨r2, rfl, hend⟩
        have hm := SrI.of_end (b := b) hend HC3.out
        have HM1 : Hid (SrI w1 B X Y (.slice av nv cv) (.slice ab nb cb) nv seed bs steps r2 w2) := hm.1
        have HM2 : Hid (srMs X (.int .i64 r2) w2 < srMs X (.int .i64 (b : Int)) wr) := hm.2
        clear hend hm
        go_wp2
        go_roundw
        case rel => exact ⟨r2, rfl, HM1⟩
        case measure => exact HM2.out
end Go.Proofs.Ytmkloakahefjiaa
