/-
  The walk of SourceEmpty: empty blocks take steps, too.
-/
import Derived.Test.YtmanjojjncjaiaaR6
import Derived.Test.YtmanjojjncjaiaaN1
import Derived.OpenShut
namespace Go.Proofs.Ytmanjojjncjaiaa
open Go.RowKit Go.ChangeShapes Go.WideShapes
set_option linter.unusedVariables false

/-- A line, and a block behind it that leads to itself. -/
def slF (n : Nat) : Fn := ⟨List.replicate n 0, [⟨[], (List.range n).map lnI, [⟨1, []⟩]⟩, ⟨[], [], [⟨1, []⟩]⟩]⟩
theorem sf_len (n : Nat) : (slF n).values.length = n ∧ (slF n).blocks.length = 2 := by
  unfold slF
  simp
theorem SlOf_two' {α : Type} {w : World} {k : Nat} {R : List Value → α → Prop} {b cap : Nat} {x y : α} (cs ds : List Value) (hk : cs.length = k) (hk2 : ds.length = k) (hR : R cs x) (hR2 : R ds y) (hc : ∀ j (hj : j < cs.length), w.cell? ⟨b, 0 + j, none⟩ = some cs[j]) (hd : ∀ j (hj : j < ds.length), w.cell? ⟨b, k + j, none⟩ = some ds[j]) : SlOf w k R (.slice (some ⟨b, 0, none⟩) 2 cap) [x, y] := by
  refine ⟨_, cap, rfl, by simp [longest], Or.inr ⟨b, 0, rfl, fun i hi => ?_⟩⟩
  have e : i = 0 ∨ i = 1 := by simp at hi; omega
  rcases e with rfl | rfl
  · exact ⟨cs, hk, hR, fun j hj => by simpa using hc j hj⟩
  · exact ⟨ds, hk2, hR2, fun j hj => by simpa using hd j hj⟩
theorem infoBk : (Try.prog.info? 45).map (fun i => (i.zero, i.size, i.bytes)) = some (some (.agg #[.slice none 0 0, .slice none 0 0, .slice none 0 0]), 3, 72) := by kernel_rfl

/-- The line's values and instructions, where new blocks alone are written to, and the line's own block. -/
theorem LineSt.parts {M n : Nat} {vv vi : Value} {ob : Nat → Nat} {w W : World} (h : LineSt M n n vv vi ob w) (hn : n ≤ 100000) (hk : ∀ b, M + 1 + 1 < b → b < w.heap.size → W.heap[b]? = w.heap[b]?) :
    SlOf W 1 RInt vv (slF n).values ∧ SlOf W 3 (RIns W) vi ((List.range n).map lnI) := by
  have hv : SlOf W 1 RInt vv (slF n).values := own_ints _ (own_keep h.ov fun b hx hb hlt => hk b (by omega) hlt) (by unfold longest; omega)
  have hi0 : SlOf W 3 (fun cs (k : Nat) => cs = lnX (ob k) k) vi (List.range n) := own_sl (k := 3) (fun k => lnX (ob k) k) (fun _ => rfl) (by decide) (fun _ => rfl) _ (own_keep h.oi fun b hx hb hlt => hk b (by omega) hlt) (by unfold longest; omega)
  refine ⟨hv, hi0.mapR lnI fun cs k hk2 e => ?_⟩
  subst e
  have O := h.obs k (List.mem_range.1 hk2)
  have hlen : (lnO k).length ≤ 2 := by unfold lnO; split <;> simp
  have ob1 := O.base
  exact ⟨_, _, rfl, SlOf_blk cO (fun _ => rfl) (fun _ => rfl) (lnO k) ((hk _ (by omega) O.lt).trans O.blk) rfl (by unfold longest; omega), SlOf_nil _ _ _ _ _⟩


set_option maxRecDepth 100000 in
theorem se_flow : ∀ a : Nat, a < 9 → flowE (slF (a + 1)) 10 10 (2 * 2 + 1) = 0 := by decide +kernel
theorem se_run (n nv : Nat) (seed : Int) (hn : 0 < n) : ∀ t : Nat, ∃ now evs, runM (slF n).blocks nv seed t = ⟨if t = 0 then .come 0 else if t ≤ n then .ins 0 (t - 1) else .come 1, now, evs⟩ ∧ evs.length = min (t - 1) n
  | 0 => ⟨_, _, rfl, by simp⟩
  | t + 1 => by
    obtain ⟨now, evs, h1, h2⟩ := se_run n nv seed hn t
    have hl : ((slF n).blocks.getD 0 emptyB).instrs.length = n := by simp [slF]
    have e0 : ((slF n).blocks.getD 0 emptyB).edges = [⟨1, []⟩] := by simp [slF]
    have hr : runM (slF n).blocks nv seed (t + 1) = srStep (slF n).blocks seed (runM (slF n).blocks nv seed t) := rfl
    rw [hr, h1]
    by_cases ht : t = 0
    · subst ht
      refine ⟨now, evs, ?_, by simpa using h2⟩
      simp only [if_true]
      rw [step_come]
      unfold settle
      rw [hl, if_pos hn, if_neg (by omega), if_pos (by omega)]
    · rw [if_neg ht]
      by_cases ht2 : t ≤ n
      · rw [if_pos ht2]
        have e3 : ∃ now' v, srStep (slF n).blocks seed ⟨.ins 0 (t - 1), now, evs⟩ = settle (slF n).blocks 0 (t - 1 + 1) (takesM seed ((slF n).blocks.getD 0 emptyB).instrs 1 ((t - 1 : Nat) : Int) v) now' (evs ++ [⟨0, ((t - 1 : Nat) : Int), v, takesM seed ((slF n).blocks.getD 0 emptyB).instrs 1 ((t - 1 : Nat) : Int) v⟩]) := ⟨_, _, rfl⟩
        obtain ⟨now', v, e3⟩ := e3
        rw [e3]
        generalize hev : evs ++ [(⟨0, ((t - 1 : Nat) : Int), v, takesM seed ((slF n).blocks.getD 0 emptyB).instrs 1 ((t - 1 : Nat) : Int) v⟩ : Evt)] = ev2
        have hl2 : ev2.length = min t n := by rw [← hev, List.length_append, h2]; simp; omega
        unfold settle
        rw [hl]
        by_cases ht3 : t < n
        · rw [if_pos (by omega), if_neg (by omega), if_pos (by omega)]
          exact ⟨now', ev2, by rw [show t - 1 + 1 = t + 1 - 1 by omega], by simpa using hl2⟩
        · have tk : takesM seed ((slF n).blocks.getD 0 emptyB).instrs 1 ((t - 1 : Nat) : Int) v = 0 := by
            unfold takesM
            rw [if_neg (by rw [hl]; omega)]
            omega
          rw [if_neg (by omega), if_neg (by rw [e0]; simp), tk, e0, if_neg (by omega), if_neg (by omega)]
          exact ⟨_, ev2, rfl, by simpa using hl2⟩
      · rw [if_neg ht2, if_neg (by omega), if_neg (by omega)]
        exact ⟨_, evs, rfl, by rw [h2]; omega⟩
theorem se_len (n nv : Nat) (seed : Int) (hn : 0 < n) (t : Nat) : (runM (slF n).blocks nv seed t).evs.length = min (t - 1) n := by
  obtain ⟨now, evs, h1, h2⟩ := se_run n nv seed hn t
  rw [h1]
  exact h2
set_option maxHeartbeats 16000000 in
theorem source_range (f : Fn) (nv nb : Nat) (m0 m1 seed : Int) (av ab : Option Addr) (cv cb : Nat) (hr : flowE f m0 m1 (nb * nb + 1) = 0) (hnv : f.values.length = nv) (hnb : f.blocks.length = nb) (w : World) (hv : SlOf w 1 RInt (.slice av nv cv) f.values) (hb : SlOf w 3 (RBlk w) (.slice ab nb cb) f.blocks) :
    Calls Try.prog 8 #[.agg #[.slice av nv cv, .slice ab nb cb], .agg #[.int .i64 m0, .int .i64 m1], .int .i64 seed, .int .i64 (-1)] w fun e w' => e = .returned (.tuple #[.slice none 0 0, .int .i64 2]) ∧ Below w.heap.size w w' := by
  have hsh := flow_shapeR hr
  have hn16 : nb ≤ 1000 := by have := (shape_in hsh).nb; omega
  have hn160 : nv ≤ 1000 := by have := (shape_in hsh).nv; omega
  have hpos : 0 < nb := by have := (shape_in hsh).pos; omega
  have hfit : FitsR nv f.blocks := by rw [← hnv]; exact fits_of hsh
  obtain ⟨N, hN⟩ : ∃ N, w.heap.size = N := ⟨_, rfl⟩
  obtain ⟨W, hW⟩ : ∃ W, W = (w.alloc (.cells #[.slice av nv cv, .slice ab nb cb] 25)).alloc (.cells #[.int .i64 m0, .int .i64 m1] 28) := ⟨_, rfl⟩
  have hbw : Below w.heap.size w W := by rw [hW]; exact ((Below.refl _ _).alloc (Nat.le_refl _) _).alloc (by simp) _
  have rF : W.rowIs N 25 2 (fun q => if q = 0 then .slice av nv cv else .slice ab nb cb) := by
    have := World.rowIs_alloc w #[.slice av nv cv, .slice ab nb cb] 25 (fun q => if q = 0 then .slice av nv cv else .slice ab nb cb) fun i hi => by
      simp at hi
      match i, hi with | 0, _ => rfl | 1, _ => rfl
    rw [hN] at this
    rw [hW]
    exact this.alloc _
  have c0 : W.cell? ⟨N, 0, none⟩ = some (.slice av nv cv) := rF.cell (i := 0) (by omega)
  have c1 : W.cell? ⟨N, 1, none⟩ = some (.slice ab nb cb) := rF.cell (i := 1) (by omega)
  have d0 : W.cell? ⟨N + 1, 0, none⟩ = some (.int .i64 m0) := by rw [hW, ← hN]; simp
  have d1 : W.cell? ⟨N + 1, 1, none⟩ = some (.int .i64 m1) := by rw [hW, ← hN]; simp
  have HC : Calls Try.prog 22 #[.agg #[.slice av nv cv, .slice ab nb cb], .agg #[.int .i64 m0, .int .i64 m1]] W fun e w' => e = .returned (.int .i64 0) ∧ Below W.heap.size W w' := by
    subst hnv hnb
    exact flowCheck_any f _ m0 m1 av ab cv cb 0 hr W (hv.below hbw fun _ _ h => h) (hb.below hbw (RBlk.below hbw)) (fun h => flowIn_all h)
  have HW : Hid (W = (w.alloc (.cells #[.slice av nv cv, .slice ab nb cb] 25)).alloc (.cells #[.int .i64 m0, .int .i64 m1] 28)) := hW
  have HN : Hid (w.heap.size = N) := hN
  have HBW : Hid (Below w.heap.size w W) := hbw
  have HRF : Hid (W.rowIs N 25 2 (fun q => if q = 0 then .slice av nv cv else .slice ab nb cb)) := rF
  have HBS : Hid (SlOf w 3 (RBlk w) (.slice ab nb cb) f.blocks ∧ f.blocks.length = nb) := ⟨hb, hnb⟩
  have HFT : Hid (FitsR nv f.blocks) := hfit
  generalize f.blocks = bs at *
  clear hW hN hbw rF hb hv hnb hfit hsh hr hnv
  go_enter Try.func8, Try.ntmps8
  go_upto_region 1 with fail
  rw [← HW.out, HN.out]
  clear HW
  go_wp2_with fail
  refine HC.mono ?_
  clear HC c0 c1 d0 d1
  rintro e w1 ⟨rfl, hb1⟩
  have HB1 : Hid (Below w.heap.size w w1) := HBW.out.trans (hb1.mono HBW.out.size)
  clear hb1
  go_wp2
  go_ret2
  exact ⟨rfl, HB1.out⟩

set_option maxRecDepth 8000 in
set_option maxHeartbeats 8000000 in
theorem sourceEmpty_walk (c : Int) (wc : (Lit.int .i64 c).wf = true) (st : Int) (wst : (Lit.int .i64 st).wf = true) (w : World) :
    Calls Try.prog 7 #[.int .i64 c, .int .i64 st] w fun e w' => e = .returned (.bool true) ∧ Below w.heap.size w w' := by
  obtain ⟨u0, u0'⟩ := bounds_i64 wc
  obtain ⟨t0, t0'⟩ := bounds_i64 wst
  clear wc wst
  obtain ⟨i30, hi30, hz30, hz301, hz302⟩ := ru_parts infoBk
  obtain ⟨q0, q0'⟩ := pickedOf_bd c 9 (by omega)
  go_enter Try.func7, Try.ntmps7
  go_wp2_with fail
  refine (picked_any _ _ _ u0 u0' (by omega) (by omega)).mono ?_
  rintro e w ⟨rfl, rfl⟩
  generalize pickedOf c 9 = kk at *
  obtain ⟨a, rfl⟩ : ∃ a : Nat, kk = a := ⟨kk.toNat, by omega⟩
  have ha : a < 9 := by omega
  have HL := line_any (a + 1) w (by omega) (by omega)
  have ea : ((a + 1 : Nat) : Int) = 1 + (a : Int) := by omega
  rw [ea] at HL
  clear ea
  go_wp2_with fail
  refine HL.mono ?_
  clear HL
  rintro e w1 ⟨vv, vi, ob, rfl, hL, hb1⟩
  obtain ⟨av, cv, rfl⟩ := own_formL hL.ov
  obtain ⟨ai, ci, hvi⟩ := own_formL hL.oi
  have r1 := hL.r1
  have hsz := hL.r2.lt
  have HLS : Hid (LineSt w.heap.size (a + 1) (a + 1) (.slice av (a + 1) cv) vi ob w1 ∧ Below w.heap.size w w1) := ⟨hL, hb1⟩
  have c2 : w1.cell? ⟨w.heap.size + 1, 2, none⟩ = some (.slice none 0 0) := r1.cell (i := 2) (by omega)
  have z2 := r1.frozen 2
  have LB := old_cell (w.heap.size + 1)
  have l1 : w.heap.size + 1 < w1.heap.size := by omega
  have l1' : w.heap.size + 1 < w1.heap.size + 1 := by omega
  have d1 : ¬ w1.heap.size = w.heap.size + 1 := by omega
  clear hL hb1
  subst hvi
  go_upto_region 3 with fail
  obtain ⟨V, hV⟩ : ∃ V, V = ((w1.setCell ⟨w.heap.size + 1, 2, none⟩ (.slice (some ⟨w1.heap.size + 1, 0, none⟩) 1 1)).alloc (.cells #[.slice av (a + 1) cv, .slice (some ⟨w.heap.size + 1, 0, none⟩) 1 1] 25)).alloc (.cells #[.int .i64 1, .slice none 0 0] 47) := ⟨_, rfl⟩
  have zV : V.heap.size = w1.heap.size + 1 + 1 := by rw [hV]; simp
  have kV : ∀ b, b ≠ w.heap.size + 1 → b < w1.heap.size → V.heap[b]? = w1.heap[b]? := fun b h1 h2 => by
    rw [hV, Below.heap_alloc _ _ _ (by simp; omega), Below.heap_alloc _ _ _ (by simpa using h2), Below.heap_setCell _ _ _ _ h1]
  have rV : V.rowIs (w.heap.size + 1) 45 3 (fun q => if q = 2 then .slice (some ⟨w1.heap.size + 1, 0, none⟩) 1 1 else if q = 1 then .slice ai (a + 1) ci else .slice none 0 0) := by
    rw [hV]
    exact (((r1.set 2 (.slice (some ⟨w1.heap.size + 1, 0, none⟩) 1 1)).alloc _).alloc _)
  have eV : V.heap[w1.heap.size + 1]? = some (.cells #[.int .i64 1, .slice none 0 0] 47) := by
    rw [hV]; exact heap_atL (by simp)
  have fV : V.rowIs w1.heap.size 25 2 (fun q => if q = 0 then .slice av (a + 1) cv else .slice (some ⟨w.heap.size + 1, 0, none⟩) 1 1) := by
    rw [hV]
    have h := (World.rowIs_alloc (w1.setCell ⟨w.heap.size + 1, 2, none⟩ (.slice (some ⟨w1.heap.size + 1, 0, none⟩) 1 1)) #[.slice av (a + 1) cv, .slice (some ⟨w.heap.size + 1, 0, none⟩) 1 1] 25 (fun q => if q = 0 then .slice av (a + 1) cv else .slice (some ⟨w.heap.size + 1, 0, none⟩) 1 1) fun i hi => by
      simp at hi
      match i, hi with | 0, _ => rfl | 1, _ => rfl).alloc (.cells #[.int .i64 1, .slice none 0 0] 47)
    have e : (w1.setCell ⟨w.heap.size + 1, 2, none⟩ (.slice (some ⟨w1.heap.size + 1, 0, none⟩) 1 1)).heap.size = w1.heap.size := by simp
    rw [e] at h
    exact h
  have bV : Below w.heap.size w V := by
    rw [hV]
    exact ((HLS.out.2.setCell (by simp) _).alloc (by simp; exact HLS.out.2.size) _).alloc (by simp; have := HLS.out.2.size; omega) _
  rw [← hV]
  clear hV r1 c2 z2 LB l1' d1
  obtain ⟨F, hF⟩ : ∃ F, F = w1.heap.size := ⟨_, rfl⟩
  rw [← hF] at rV eV fV ⊢
  have hFV : F < V.heap.size := by omega
  have hMF : w.heap.size + 1 + 1 < F := by omega
  have HKV : Hid (∀ b, b ≠ w.heap.size + 1 → b < w1.heap.size → V.heap[b]? = w1.heap[b]?) := kV
  have HVZ : Hid (V.heap.size = F + 1 + 1 ∧ F = w1.heap.size) := ⟨by omega, hF⟩
  have own : V.ownsRow (w.heap.size + 1) 45 3 (.slice (some ⟨w.heap.size + 1, 0, none⟩) 1 1) 1 [.slice none 0 0, .slice ai (a + 1) ci, .slice (some ⟨F + 1, 0, none⟩) 1 1] := by
    obtain ⟨cc, hc, hs, hx⟩ := rV
    refine ⟨rfl, Or.inr ⟨w.heap.size + 1, 1, cc, rfl, Nat.le_refl _, hc, by omega, by unfold maxLen; omega, by omega, ?_⟩⟩
    have h0 := hx 0 (by omega)
    have h1 := hx 1 (by omega)
    have h2 := hx 2 (by omega)
    obtain ⟨l⟩ := cc
    match l, hs with
    | [x, y, z], _ =>
      simp at h0 h1 h2
      simp [h0, h1, h2]
  have f1 : V.cell? ⟨F, 1, none⟩ = some (.slice (some ⟨w.heap.size + 1, 0, none⟩) 1 1) := fV.cell (i := 1) (by omega)
  have fz := fV.frozen 1
  have oA := (own.alloc (.cells #[.int .i64 1, .slice none 0 0] 47)).alloc (.cells #[.slice none 0 0, .slice none 0 0, .slice (some ⟨V.heap.size, 0, none⟩) 1 1] 45)
  have HN : ∀ j u, ([.slice none 0 0, .slice none 0 0, .slice (some ⟨V.heap.size, 0, none⟩) 1 1] : List Value)[j]? = some u → ((V.alloc (.cells #[.int .i64 1, .slice none 0 0] 47)).alloc (.cells #[.slice none 0 0, .slice none 0 0, .slice (some ⟨V.heap.size, 0, none⟩) 1 1] 45)).cell? ((⟨V.heap.size + 1, 0, none⟩ : Addr).add j) = some u := World.news_of_block (cs := #[.slice none 0 0, .slice none 0 0, .slice (some ⟨V.heap.size, 0, none⟩) 1 1]) (t := 45) (fr := (0, 0)) (heap_atL (by simp))
  have HN' : Hid (∀ j u, ([.slice none 0 0, .slice none 0 0, .slice (some ⟨V.heap.size, 0, none⟩) 1 1] : List Value)[j]? = some u → ((V.alloc (.cells #[.int .i64 1, .slice none 0 0] 47)).alloc (.cells #[.slice none 0 0, .slice none 0 0, .slice (some ⟨V.heap.size, 0, none⟩) 1 1] 45)).cell? ((⟨V.heap.size + 1, 0, none⟩ : Addr).add j) = some u) := HN
  have h1c : ∀ u ∈ ([.slice none 0 0, .slice none 0 0, .slice (some ⟨V.heap.size, 0, none⟩) 1 1] : List Value), u.oneCell' = true := by intro u hu; simp at hu; rcases hu with rfl | rfl <;> rfl
  have hMV : w.heap.size + 1 ≤ V.heap.size := by omega
  clear HN zV kV hF hsz l1
  go_wp2_with (at_builtin; go_must (refine wpList_append_lies _ rfl _ _ 23 rfl (w.heap.size + 1) 45 i30 _ 3 72 Try.underlying23 hi30 hz30 hz301 hz302 rfl (by omega) (.slice (some ⟨w.heap.size + 1, 0, none⟩) 1 1) 1 _ (by rfl) oA ⟨V.heap.size + 1, 0, none⟩ 1 1 [.slice none 0 0, .slice none 0 0, .slice (some ⟨V.heap.size, 0, none⟩) 1 1] (by rfl) (by rfl) HN'.out h1c (by omega) (by unfold maxLen; omega) (by omega) (by simp; omega) (V.heap.size + 1 + 1) (by simp) ?_))
  intro g cap wb hown hgrow hat hgl
  have hzb := hgrow.size
  simp at hzb
  have hg : g = w.heap.size + 1 ∨ g = V.heap.size + 1 + 1 := by
    rcases hat with h | h
    · left; simpa [Value.ownBlock] using h.symm
    · right; exact h
  obtain ⟨A2, hA2⟩ : ∃ A2, A2 = (V.alloc (.cells #[.int .i64 1, .slice none 0 0] 47)).alloc (.cells #[.slice none 0 0, .slice none 0 0, .slice (some ⟨V.heap.size, 0, none⟩) 1 1] 45) := ⟨_, rfl⟩
  have zA : A2.heap.size = V.heap.size + 1 + 1 := by rw [hA2]; simp
  have kA : ∀ b, b < V.heap.size → A2.heap[b]? = V.heap[b]? := fun b hb => by
    rw [hA2, Below.heap_alloc _ _ _ (by simp; omega), Below.heap_alloc _ _ _ hb]
  have eA : A2.heap[V.heap.size]? = some (.cells #[.int .i64 1, .slice none 0 0] 47) := by
    rw [hA2, Below.heap_alloc _ _ _ (by simp)]
    exact heap_atL rfl
  rw [← hA2] at hgrow
  have kB : ∀ b, b ≠ w.heap.size + 1 → b < V.heap.size + 1 + 1 → wb.heap[b]? = A2.heap[b]? := fun b h1 h2 => hgrow.block b (by omega) (by simp [Value.ownBlock]; exact h1)
  have fB : wb.rowIs F 25 2 (fun q => if q = 0 then .slice av (a + 1) cv else .slice (some ⟨w.heap.size + 1, 0, none⟩) 1 1) := fV.of_block ((kB F (by omega) (by omega)).trans (kA F hFV))
  obtain ⟨W, hW⟩ : ∃ W, W = wb.setCell ⟨F, 1, none⟩ (.slice (some ⟨g, 0, none⟩) 2 cap) := ⟨_, rfl⟩
  have kW : ∀ b, b ≠ F → W.heap[b]? = wb.heap[b]? := fun b hb => by rw [hW]; exact Below.heap_setCell _ _ _ _ hb
  have fW : W.rowIs F 25 2 (fun q => if q = 0 then .slice av (a + 1) cv else .slice (some ⟨g, 0, none⟩) 2 cap) := by
    rw [hW]
    refine (fB.set 1 _).congr fun q hq => ?_
    match q, hq with | 0, _ => rfl | 1, _ => rfl
  have hkeep : ∀ b, b ≠ w.heap.size + 1 → b ≠ F → b < V.heap.size → W.heap[b]? = V.heap[b]? := fun b h1 h2 h3 => (kW b h2).trans ((kB b h1 (by omega)).trans (kA b h3))
  have hZ := HVZ.out
  have hparts := HLS.out.1.parts (W := W) (by omega) (fun b h1 h2 => (hkeep b (by omega) (by omega) (by omega)).trans (HKV.out b (by omega) h2))
  have hownW : W.ownsRow (w.heap.size + 1) 45 3 (.slice (some ⟨g, 0, none⟩) 2 cap) 2 ([.slice none 0 0, .slice ai (a + 1) ci, .slice (some ⟨F + 1, 0, none⟩) 1 1] ++ [.slice none 0 0, .slice none 0 0, .slice (some ⟨V.heap.size, 0, none⟩) 1 1]) := own_keep hown fun b hb _ _ => kW b (by simp [Value.ownBlock] at hb; omega)
  obtain ⟨g', cap', hgv, _, _, hcells, _⟩ := own_rowL hownW (by omega)
  simp only [Value.slice.injEq, Option.some.injEq, Addr.mk.injEq, and_true, true_and] at hgv
  obtain ⟨rfl, rfl⟩ := hgv
  have E0 : SlOf W 2 (REdg W) (.slice (some ⟨F + 1, 0, none⟩) 1 1) [⟨1, []⟩] := SlOf_one [.int .i64 1, .slice none 0 0] rfl ⟨_, rfl, SlOf_nil _ _ _ _ _⟩ (cells2 (blk_cellL ((hkeep _ (by omega) (by omega) (by omega)).trans eV) 0 (by simp)) (blk_cellL ((hkeep _ (by omega) (by omega) (by omega)).trans eV) 1 (by simp)))
  have eW : W.heap[V.heap.size]? = some (.cells #[.int .i64 1, .slice none 0 0] 47) := (kW _ (by omega)).trans ((kB _ (by omega) (by omega)).trans eA)
  have E1 : SlOf W 2 (REdg W) (.slice (some ⟨V.heap.size, 0, none⟩) 1 1) [⟨1, []⟩] := SlOf_one [.int .i64 1, .slice none 0 0] rfl ⟨_, rfl, SlOf_nil _ _ _ _ _⟩ (cells2 (blk_cellL eW 0 (by simp)) (blk_cellL eW 1 (by simp)))
  have hblk : SlOf W 3 (RBlk W) (.slice (some ⟨g, 0, none⟩) 2 cap) (slF (a + 1)).blocks := SlOf_two' [.slice none 0 0, .slice ai (a + 1) ci, .slice (some ⟨F + 1, 0, none⟩) 1 1] [.slice none 0 0, .slice none 0 0, .slice (some ⟨V.heap.size, 0, none⟩) 1 1] rfl rfl ⟨_, _, _, rfl, SlOf_nil _ _ _ _ _, hparts.2, E0⟩ ⟨_, _, _, rfl, SlOf_nil _ _ _ _ _, SlOf_nil _ _ _ _ _, E1⟩ (cells3 (hcells 0 (by simp)) (hcells 1 (by simp)) (hcells 2 (by simp))) (cells3 (hcells 3 (by simp)) (hcells 4 (by simp)) (hcells 5 (by simp)))
  have hBW : Below w.heap.size w W := by
    have hbA : Below w.heap.size w A2 := by rw [hA2]; exact (bV.alloc bV.size _).alloc (by simp; have := bV.size; omega) _
    rw [hW]
    exact Below.setCell (hbA.grown hgrow (by omega) fun k hk => by simp [Value.ownBlock] at hk; omega) (by show w.heap.size ≤ F; omega) _
  have HBW : Hid (Below w.heap.size w W) := hBW
  obtain ⟨hl1, hl2⟩ := sf_len (a + 1)
  have HVs : Hid (SlOf W 1 RInt (.slice av (a + 1) cv) (slF (a + 1)).values) := hparts.1
  have HBs : Hid (SlOf W 3 (RBlk W) (.slice (some ⟨g, 0, none⟩) 2 cap) (slF (a + 1)).blocks) := hblk
  have HLN : Hid ((slF (a + 1)).values.length = a + 1 ∧ (slF (a + 1)).blocks.length = 2) := ⟨hl1, hl2⟩
  have f0 : W.cell? ⟨F, 0, none⟩ = some (.slice av (a + 1) cv) := fW.cell (i := 0) (by omega)
  have f1' : W.cell? ⟨F, 1, none⟩ = some (.slice (some ⟨g, 0, none⟩) 2 cap) := fW.cell (i := 1) (by omega)
  have hfl : F < W.heap.size := block_lt f0
  have HS : Hid (∀ w', Below W.heap.size W w' → (fun w' => w'.cell? ⟨F, 0, none⟩ = some (.slice av (a + 1) cv) ∧ w'.cell? ⟨F, 1, none⟩ = some (.slice (some ⟨g, 0, none⟩) 2 cap)) w') := fun w' hh => ⟨(hh.cell (p := ⟨F, 0, none⟩) hfl).trans f0, (hh.cell (p := ⟨F, 1, none⟩) hfl).trans f1'⟩
  have g1 : wb.cell? ⟨F, 1, none⟩ = some (.slice (some ⟨w.heap.size + 1, 0, none⟩) 1 1) := fB.cell (i := 1) (by omega)
  have gz := fB.frozen 1
  have hbD : Below W.heap.size W W.drew := (Below.refl _ _).drew
  have HW : Hid (W = wb.setCell ⟨F, 1, none⟩ (.slice (some ⟨g, 0, none⟩) 2 cap)) := hW
  clear hW kW fW hkeep hZ hparts hownW hcells E0 E1 eW hblk hBW hl1 hl2 hown hgrow hat hgl hzb hg hA2 zA kA eA kB fB own oA f1 fz HN' h1c fV rV eV bV HLS HKV HVZ hMV hFV hMF
  go_upto_region 4 with fail
  rw [← HW.out]
  clear g1 gz HW
  have HP := picked_any st 5000 W t0 t0' (by decide) (by decide)
  obtain ⟨p0, p1⟩ := pickedOf_bd st 5000 (by decide)
  obtain ⟨ks, hK⟩ : ∃ ks : Nat, pickedOf st 5000 = (ks : Int) := ⟨(pickedOf st 5000).toNat, by omega⟩
  rw [hK] at HP p0 p1
  have hK5 : ks < 5000 := by omega
  clear hK p0 p1 hbD f0 f1'
  go_upto_region 5 with (go_at_call 13; refine HP.mono ?_; rintro e W ⟨rfl, rfl⟩)
  have hdA : Below W.heap.size W W.drew := (Below.refl _ _).drew
  have HBG := big_any W.drew
  refine wp_region_X (fun w' => w'.cell? ⟨F, 0, none⟩ = some (.slice av (a + 1) cv) ∧ w'.cell? ⟨F, 1, none⟩ = some (.slice (some ⟨g, 0, none⟩) 2 cap)) 99 (by kernel_rfl) (HS.out _ hdA) (fun hHeld => ?_)
  refine wpXt (v := ?_) 0 rfl (by kernel_rfl) (fun _ _ _ h => h) (by rfl) ?_ hHeld ?_
  rotate_left
  · intro w' hSw
    go_simp <;> with_reducible rfl
  try simp only [Act.put, List.setIfInBounds_toArray, List.set_cons_zero, List.set_cons_succ]
  refine wpXt (v := ?_) 2 rfl (by kernel_rfl) (fun _ _ _ h => h) (by rfl) ?_ hHeld ?_
  rotate_left
  · intro w' hSw
    go_simp <;> with_reducible rfl
  try simp only [Act.put, List.setIfInBounds_toArray, List.set_cons_zero, List.set_cons_succ]
  refine wpXs 1 rfl (by kernel_rfl) (fun K hK => ?_)
  go_simp
  refine HBG.mono ?_
  clear HBG
  rintro e uA ⟨rfl, bb⟩
  have huA : Below W.heap.size W uA := hdA.trans (bb.mono hdA.size)
  have HC := source_any (slF (a + 1)) (a + 1) 2 ks 10 10 1 av (some ⟨g, 0, none⟩) cv cap (se_flow a ha) HLN.out.1 HLN.out.2 (by omega) uA (HVs.out.below huA fun _ _ h => h) (HBs.out.below huA (RBlk.below huA))
  have HUA : Hid (Below W.heap.size W uA) := huA
  clear bb huA
  refine hK.out _ _ (HS.out _ HUA.out) (fun hHeld => ?_)
  clear hK K
  try simp only [Act.put, List.setIfInBounds_toArray, List.set_cons_zero, List.set_cons_succ]
  refine wpXs 3 rfl (by kernel_rfl) (fun K hK => ?_)
  go_simp
  refine HC.mono ?_
  clear HC
  rintro e vA ⟨a1, n1, c1, hl1, hc1, rfl, s1, bb⟩
  have HVA : Hid (Below W.heap.size W vA) := HUA.out.trans (bb.mono HUA.out.size)
  have HL1 : Hid (n1 = (runM (slF (a + 1)).blocks (a + 1) 1 ks).evs.length) := hl1
  clear s1 hc1 hl1
  clear bb
  refine hK.out _ _ (HS.out _ HVA.out) (fun hHeld => ?_)
  clear hK K
  try simp only [Act.put, List.setIfInBounds_toArray, List.set_cons_zero, List.set_cons_succ]
  refine wpXt (v := ?_) 4 rfl (by kernel_rfl) (fun _ _ _ h => h) (by rfl) ?_ hHeld ?_
  rotate_left
  · intro w' hSw
    go_simp <;> with_reducible rfl
  try simp only [Act.put, List.setIfInBounds_toArray, List.set_cons_zero, List.set_cons_succ]
  refine wpXt (v := ?_) 5 rfl (by kernel_rfl) (fun _ _ _ h => h) (by rfl) ?_ hHeld ?_
  rotate_left
  · intro w' hSw
    go_simp <;> with_reducible rfl
  try simp only [Act.put, List.setIfInBounds_toArray, List.set_cons_zero, List.set_cons_succ]
  refine wpXt (v := ?_) 6 rfl (by kernel_rfl) (fun _ _ _ h => h) (by rfl) ?_ hHeld ?_
  rotate_left
  · intro w' hSw
    go_simp <;> with_reducible rfl
  try simp only [Act.put, List.setIfInBounds_toArray, List.set_cons_zero, List.set_cons_succ]
  refine wpXt (v := ?_) 7 rfl (by kernel_rfl) (fun _ _ _ h => h) (by rfl) ?_ hHeld ?_
  rotate_left
  · intro w' hSw
    go_simp <;> with_reducible rfl
  try simp only [Act.put, List.setIfInBounds_toArray, List.set_cons_zero, List.set_cons_succ]
  refine wpXt (v := ?_) 8 rfl (by kernel_rfl) (fun _ _ _ h => h) (by rfl) ?_ hHeld ?_
  rotate_left
  · intro w' hSw
    go_simp <;> with_reducible rfl
  try simp only [Act.put, List.setIfInBounds_toArray, List.set_cons_zero, List.set_cons_succ]
  refine wpAnyX_done (by kernel_rfl) ?_ _
  clear hHeld
  obtain ⟨w5, hw5⟩ : ∃ w5, vA = w5 := ⟨_, rfl⟩
  rw [hw5] at HVA ⊢
  clear hw5
  have hdB : Below W.heap.size W w5.drew := HVA.out.drew
  have HBG := big_any w5.drew
  go_upto_region 6 with fail
  refine wp_region_X (fun w' => w'.cell? ⟨F, 0, none⟩ = some (.slice av (a + 1) cv) ∧ w'.cell? ⟨F, 1, none⟩ = some (.slice (some ⟨g, 0, none⟩) 2 cap)) 99 (by kernel_rfl) (HS.out _ hdB) (fun hHeld => ?_)
  refine wpXt (v := ?_) 0 rfl (by kernel_rfl) (fun _ _ _ h => h) (by rfl) ?_ hHeld ?_
  rotate_left
  · intro w' hSw
    go_simp <;> with_reducible rfl
  try simp only [Act.put, List.setIfInBounds_toArray, List.set_cons_zero, List.set_cons_succ]
  refine wpXs 1 rfl (by kernel_rfl) (fun K hK => ?_)
  go_simp
  refine HBG.mono ?_
  clear HBG
  rintro e uB ⟨rfl, bb⟩
  have huB : Below W.heap.size W uB := hdB.trans (bb.mono hdB.size)
  have HC := source_range (slF (a + 1)) (a + 1) 2 10 10 1 av (some ⟨g, 0, none⟩) cv cap (se_flow a ha) HLN.out.1 HLN.out.2 uB (HVs.out.below huB fun _ _ h => h) (HBs.out.below huB (RBlk.below huB))
  have HUB : Hid (Below W.heap.size W uB) := huB
  clear bb huB
  refine hK.out _ _ (HS.out _ HUB.out) (fun hHeld => ?_)
  clear hK K
  try simp only [Act.put, List.setIfInBounds_toArray, List.set_cons_zero, List.set_cons_succ]
  refine wpXs 2 rfl (by kernel_rfl) (fun K hK => ?_)
  go_simp
  refine HC.mono ?_
  clear HC
  rintro e vB ⟨rfl, bb⟩
  have HVB : Hid (Below W.heap.size W vB) := HUB.out.trans (bb.mono HUB.out.size)
  clear bb
  refine hK.out _ _ (HS.out _ HVB.out) (fun hHeld => ?_)
  clear hK K
  try simp only [Act.put, List.setIfInBounds_toArray, List.set_cons_zero, List.set_cons_succ]
  refine wpXt (v := ?_) 3 rfl (by kernel_rfl) (fun _ _ _ h => h) (by rfl) ?_ hHeld ?_
  rotate_left
  · intro w' hSw
    go_simp <;> with_reducible rfl
  try simp only [Act.put, List.setIfInBounds_toArray, List.set_cons_zero, List.set_cons_succ]
  refine wpXt (v := ?_) 4 rfl (by kernel_rfl) (fun _ _ _ h => h) (by rfl) ?_ hHeld ?_
  rotate_left
  · intro w' hSw
    go_simp <;> with_reducible rfl
  try simp only [Act.put, List.setIfInBounds_toArray, List.set_cons_zero, List.set_cons_succ]
  refine wpXt (v := ?_) 5 rfl (by kernel_rfl) (fun _ _ _ h => h) (by rfl) ?_ hHeld ?_
  rotate_left
  · intro w' hSw
    go_simp <;> with_reducible rfl
  try simp only [Act.put, List.setIfInBounds_toArray, List.set_cons_zero, List.set_cons_succ]
  refine wpXt (v := ?_) 6 rfl (by kernel_rfl) (fun _ _ _ h => h) (by rfl) ?_ hHeld ?_
  rotate_left
  · intro w' hSw
    go_simp <;> with_reducible rfl
  try simp only [Act.put, List.setIfInBounds_toArray, List.set_cons_zero, List.set_cons_succ]
  refine wpXt (v := ?_) 7 rfl (by kernel_rfl) (fun _ _ _ h => h) (by rfl) ?_ hHeld ?_
  rotate_left
  · intro w' hSw
    go_simp <;> with_reducible rfl
  try simp only [Act.put, List.setIfInBounds_toArray, List.set_cons_zero, List.set_cons_succ]
  refine wpAnyX_done (by kernel_rfl) ?_ _
  clear hHeld
  have hdC : Below W.heap.size W vB.drew := HVB.out.drew
  have HBG := big_any vB.drew
  go_upto_region 7 with fail
  refine wp_region_X (fun w' => w'.cell? ⟨F, 0, none⟩ = some (.slice av (a + 1) cv) ∧ w'.cell? ⟨F, 1, none⟩ = some (.slice (some ⟨g, 0, none⟩) 2 cap)) 99 (by kernel_rfl) (HS.out _ hdC) (fun hHeld => ?_)
  refine wpXt (v := ?_) 0 rfl (by kernel_rfl) (fun _ _ _ h => h) (by rfl) ?_ hHeld ?_
  rotate_left
  · intro w' hSw
    go_simp <;> with_reducible rfl
  try simp only [Act.put, List.setIfInBounds_toArray, List.set_cons_zero, List.set_cons_succ]
  refine wpXs 1 rfl (by kernel_rfl) (fun K hK => ?_)
  go_simp
  refine HBG.mono ?_
  clear HBG
  rintro e uC ⟨rfl, bb⟩
  have huC : Below W.heap.size W uC := hdC.trans (bb.mono hdC.size)
  have HC := source_any (slF (a + 1)) (a + 1) 2 5000 10 10 1 av (some ⟨g, 0, none⟩) cv cap (se_flow a ha) HLN.out.1 HLN.out.2 (by omega) uC (HVs.out.below huC fun _ _ h => h) (HBs.out.below huC (RBlk.below huC))
  have e5 : ((5000 : Nat) : Int) = 5000 := by omega
  rw [e5] at HC
  clear e5
  have HUC : Hid (Below W.heap.size W uC) := huC
  clear bb huC
  refine hK.out _ _ (HS.out _ HUC.out) (fun hHeld => ?_)
  clear hK K
  try simp only [Act.put, List.setIfInBounds_toArray, List.set_cons_zero, List.set_cons_succ]
  refine wpXs 2 rfl (by kernel_rfl) (fun K hK => ?_)
  go_simp
  refine HC.mono ?_
  clear HC
  rintro e vC ⟨a3, n3, c3, hl3, hc3, rfl, s3, bb⟩
  have HVC : Hid (Below W.heap.size W vC) := HUC.out.trans (bb.mono HUC.out.size)
  have HL3 : Hid (n3 = (runM (slF (a + 1)).blocks (a + 1) 1 5000).evs.length) := hl3
  clear s3 hc3 hl3
  clear bb
  refine hK.out _ _ (HS.out _ HVC.out) (fun hHeld => ?_)
  clear hK K
  try simp only [Act.put, List.setIfInBounds_toArray, List.set_cons_zero, List.set_cons_succ]
  refine wpXt (v := ?_) 3 rfl (by kernel_rfl) (fun _ _ _ h => h) (by rfl) ?_ hHeld ?_
  rotate_left
  · intro w' hSw
    go_simp <;> with_reducible rfl
  try simp only [Act.put, List.setIfInBounds_toArray, List.set_cons_zero, List.set_cons_succ]
  refine wpXt (v := ?_) 4 rfl (by kernel_rfl) (fun _ _ _ h => h) (by rfl) ?_ hHeld ?_
  rotate_left
  · intro w' hSw
    go_simp <;> with_reducible rfl
  try simp only [Act.put, List.setIfInBounds_toArray, List.set_cons_zero, List.set_cons_succ]
  refine wpXt (v := ?_) 5 rfl (by kernel_rfl) (fun _ _ _ h => h) (by rfl) ?_ hHeld ?_
  rotate_left
  · intro w' hSw
    go_simp <;> with_reducible rfl
  try simp only [Act.put, List.setIfInBounds_toArray, List.set_cons_zero, List.set_cons_succ]
  refine wpXt (v := ?_) 6 rfl (by kernel_rfl) (fun _ _ _ h => h) (by rfl) ?_ hHeld ?_
  rotate_left
  · intro w' hSw
    go_simp <;> with_reducible rfl
  try simp only [Act.put, List.setIfInBounds_toArray, List.set_cons_zero, List.set_cons_succ]
  refine wpXt (v := ?_) 7 rfl (by kernel_rfl) (fun _ _ _ h => h) (by rfl) ?_ hHeld ?_
  rotate_left
  · intro w' hSw
    go_simp <;> with_reducible rfl
  try simp only [Act.put, List.setIfInBounds_toArray, List.set_cons_zero, List.set_cons_succ]
  refine wpAnyX_done (by kernel_rfl) ?_ _
  obtain ⟨f0, f1⟩ := hHeld
  have hl1 := HL1.out
  have hl3 := HL3.out
  rw [se_len _ _ _ (by omega)] at hl1 hl3
  have hn3 : n3 = a + 1 := by omega
  subst hn3
  have q1 : ((n1 : Int) == max (min ((ks : Int) - 1) ((a : Int) + 1)) 0) = true := by simp; omega
  have HE : Hid (Below w.heap.size w vC) := HBW.out.trans (HVC.out.mono HBW.out.size)
  have HN1 : Hid (n1 = min (ks - 1) (a + 1)) := hl1
  clear hl1 hl3
  go_wp2
  go_ret
  exact ⟨rfl, HE.out⟩
end Go.Proofs.Ytmanjojjncjaiaa
