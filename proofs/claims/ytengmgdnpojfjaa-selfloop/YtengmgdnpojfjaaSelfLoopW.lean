/-
  The walk through 'SelfLoop': it answers true for all numbers, and writes to nothing that was there.
-/
import Derived.Test.YtengmgdnpojfjaaFlowT
import Derived.Test.YtengmgdnpojfjaaRingU
import Derived.Test.YtengmgdnpojfjaaLineF
namespace Go.Proofs.Ytengmgdnpojfjaa
open Go.RowKit
set_option linter.unusedVariables false

/-- A line, and a block behind it that leads to itself. -/
def slF (n : Nat) : Fn := ⟨List.replicate n 0, [⟨[], (List.range n).map lnI, [⟨1, []⟩]⟩, ⟨[], [], [⟨1, []⟩]⟩]⟩
set_option maxRecDepth 100000 in
theorem sf_in : ∀ a : Nat, a < 9 → flowInB (slF (a + 1)) 1 = true := by decide +kernel
set_option maxRecDepth 100000 in
theorem sf_err : ∀ a : Nat, a < 9 → flowE (slF (a + 1)) 10 10 1 = 0 := by decide +kernel
set_option maxRecDepth 100000 in
theorem sf_tree : ∀ a : Nat, a < 9 → fnL 2 (idomF (slF (a + 1)) 1) = [-1, 0] ∧ fnL 2 (depthF (slF (a + 1)) 1) = [0, 1] := by decide +kernel
theorem sf_len (n : Nat) : (slF n).values.length = n ∧ (slF n).blocks.length = 2 := by
  unfold slF
  simp
theorem two_sl (w : World) (x0 x1 : Int) (t : Nat) : SlOf (w.alloc (.cells #[.int .i64 x0, .int .i64 x1] t)) 1 RInt (.slice (some ⟨w.heap.size, 0, none⟩) 2 2) [x0, x1] := by
  have r : (w.alloc (.cells #[.int .i64 x0, .int .i64 x1] t)).rowIs w.heap.size t 2 (fun i => .int .i64 ([x0, x1].getD i 0)) := World.rowIs_alloc _ _ _ _ fun i hi => by
    simp at hi
    match i, hi with | 0, _ => rfl | 1, _ => rfl
  exact SlOf_two [.int .i64 x0] [.int .i64 x1] rfl rfl rfl rfl (cells1 (r.cell (i := 0) (by omega))) (cells1 (r.cell (i := 1) (by omega)))
theorem SlOf_two' {α : Type} {w : World} {k : Nat} {R : List Value → α → Prop} {b cap : Nat} {x y : α} (cs ds : List Value) (hk : cs.length = k) (hk2 : ds.length = k) (hR : R cs x) (hR2 : R ds y) (hc : ∀ j (hj : j < cs.length), w.cell? ⟨b, 0 + j, none⟩ = some cs[j]) (hd : ∀ j (hj : j < ds.length), w.cell? ⟨b, k + j, none⟩ = some ds[j]) : SlOf w k R (.slice (some ⟨b, 0, none⟩) 2 cap) [x, y] := by
  refine ⟨_, cap, rfl, by simp [longest], Or.inr ⟨b, 0, rfl, fun i hi => ?_⟩⟩
  have e : i = 0 ∨ i = 1 := by simp at hi; omega
  rcases e with rfl | rfl
  · exact ⟨cs, hk, hR, fun j hj => by simpa using hc j hj⟩
  · exact ⟨ds, hk2, hR2, fun j hj => by simpa using hd j hj⟩
theorem infoBk : (Try.prog.info? 50).map (fun i => (i.zero, i.size, i.bytes)) = some (some (.agg #[.slice none 0 0, .slice none 0 0, .slice none 0 0]), 3, 72) := by kernel_rfl

/-- The line's values and instructions, where new blocks alone are written to, and the line's own block. -/
theorem LineSt.parts {M n : Nat} {vv vi : Value} {ob : Nat → Nat} {w W : World} (h : LineSt M n n vv vi ob w) (hn : n ≤ 100000) (hk : ∀ b, M + 1 + 1 < b → b < w.heap.size → W.heap[b]? = w.heap[b]?) :
    SlOf W 1 RInt vv (slF n).values ∧ SlOf W 3 (RIns W) vi ((List.range n).map lnI) := by
  have hv : SlOf W 1 RInt vv (slF n).values := own_ints _ (own_keep h.ov fun b hx hb hlt => hk b (by omega) hlt) (by unfold longest; omega)
  have hi0 : SlOf W 3 (fun cs (k : Nat) => cs = lnX (ob k) k) vi (List.range n) := own_sl (k := 3) (fun k => lnX (ob k) k) (fun _ => rfl) (by decide) (fun _ => rfl) _ (own_keep h.oi fun b hx hb hlt => hk b (by omega) hlt) (by unfold longest; omega)
  refine ⟨hv, hi0.mapR lnI fun cs k hk2 e => ?_⟩
  subst e
  have O := h.obs k (List.mem_range.1 hk2)
  have hlen : (lnO k).length ≤ 2 := by unfold lnO; split <;> simp
  have ob1 := O.base
  exact ⟨_, _, rfl, SlOf_blk cO (fun _ => rfl) (fun _ => rfl) (lnO k) ((hk _ (by omega) O.lt).trans O.blk) rfl (by unfold longest; omega), SlOf_nil _ _ _ _ _⟩

set_option maxRecDepth 8000 in
set_option maxHeartbeats 8000000 in
theorem selfLoop_walk (c : Int) (w : World) (u0 : -9223372036854775808 ≤ c) (u0' : c ≤ 9223372036854775807) :
    Calls Try.prog 7 #[.int .i64 c] w fun e w' => e = .returned (.bool true) ∧ Below w.heap.size w w' := by
  obtain ⟨i30, hi30, hz30, hz301, hz302⟩ := info_parts infoBk
  obtain ⟨q0, q0'⟩ := pickedOf_bd c 9 (by omega)
  go_enter Try.func7, Try.ntmps7
  go_wp2_with fail
  refine (picked_any _ _ _ u0 u0' (by omega) (by omega)).mono ?_
  rintro e w ⟨rfl, rfl⟩
  generalize pickedOf c 9 = kk at *
  obtain ⟨a, rfl⟩ : ∃ a : Nat, kk = a := ⟨kk.toNat, by omega⟩
  have ha : a < 9 := by omega
  have HL := line_any (a + 1) w (by omega) (by omega)
  have ea : ((a + 1 : Nat) : Int) = 1 + (a : Int) := by omega
  rw [ea] at HL
  clear ea
  go_wp2_with fail
  refine HL.mono ?_
  clear HL
  rintro e w1 ⟨vv, vi, ob, rfl, hL, hb1⟩
  obtain ⟨av, cv, rfl⟩ := own_formL hL.ov
  obtain ⟨ai, ci, hvi⟩ := own_formL hL.oi
  have r1 := hL.r1
  have hsz := hL.r2.lt
  have HLS : Hid (LineSt w.heap.size (a + 1) (a + 1) (.slice av (a + 1) cv) vi ob w1 ∧ Below w.heap.size w w1) := ⟨hL, hb1⟩
  have c2 : w1.cell? ⟨w.heap.size + 1, 2, none⟩ = some (.slice none 0 0) := r1.cell (i := 2) (by omega)
  have z2 := r1.frozen 2
  have LB := old_cell (w.heap.size + 1)
  have l1 : w.heap.size + 1 < w1.heap.size := by omega
  have l1' : w.heap.size + 1 < w1.heap.size + 1 := by omega
  have d1 : ¬ w1.heap.size = w.heap.size + 1 := by omega
  clear hL hb1
  subst hvi
  go_upto_region 3 with fail
  obtain ⟨V, hV⟩ : ∃ V, V = ((w1.setCell ⟨w.heap.size + 1, 2, none⟩ (.slice (some ⟨w1.heap.size + 1, 0, none⟩) 1 1)).alloc (.cells #[.slice av (a + 1) cv, .slice (some ⟨w.heap.size + 1, 0, none⟩) 1 1] 25)).alloc (.cells #[.int .i64 1, .slice none 0 0] 47) := ⟨_, rfl⟩
  have zV : V.heap.size = w1.heap.size + 1 + 1 := by rw [hV]; simp
  have kV : ∀ b, b ≠ w.heap.size + 1 → b < w1.heap.size → V.heap[b]? = w1.heap[b]? := fun b h1 h2 => by
    rw [hV, Below.heap_alloc _ _ _ (by simp; omega), Below.heap_alloc _ _ _ (by simpa using h2), Below.heap_setCell _ _ _ _ h1]
  have rV : V.rowIs (w.heap.size + 1) 50 3 (fun q => if q = 2 then .slice (some ⟨w1.heap.size + 1, 0, none⟩) 1 1 else if q = 1 then .slice ai (a + 1) ci else .slice none 0 0) := by
    rw [hV]
    exact (((r1.set 2 (.slice (some ⟨w1.heap.size + 1, 0, none⟩) 1 1)).alloc _).alloc _)
  have eV : V.heap[w1.heap.size + 1]? = some (.cells #[.int .i64 1, .slice none 0 0] 47) := by
    rw [hV]; exact heap_atL (by simp)
  have fV : V.rowIs w1.heap.size 25 2 (fun q => if q = 0 then .slice av (a + 1) cv else .slice (some ⟨w.heap.size + 1, 0, none⟩) 1 1) := by
    rw [hV]
    have h := (World.rowIs_alloc (w1.setCell ⟨w.heap.size + 1, 2, none⟩ (.slice (some ⟨w1.heap.size + 1, 0, none⟩) 1 1)) #[.slice av (a + 1) cv, .slice (some ⟨w.heap.size + 1, 0, none⟩) 1 1] 25 (fun q => if q = 0 then .slice av (a + 1) cv else .slice (some ⟨w.heap.size + 1, 0, none⟩) 1 1) fun i hi => by
      simp at hi
      match i, hi with | 0, _ => rfl | 1, _ => rfl).alloc (.cells #[.int .i64 1, .slice none 0 0] 47)
    have e : (w1.setCell ⟨w.heap.size + 1, 2, none⟩ (.slice (some ⟨w1.heap.size + 1, 0, none⟩) 1 1)).heap.size = w1.heap.size := by simp
    rw [e] at h
    exact h
  have bV : Below w.heap.size w V := by
    rw [hV]
    exact ((HLS.out.2.setCell (by simp) _).alloc (by simp; exact HLS.out.2.size) _).alloc (by simp; have := HLS.out.2.size; omega) _
  rw [← hV]
  clear hV r1 c2 z2 LB l1' d1
  obtain ⟨F, hF⟩ : ∃ F, F = w1.heap.size := ⟨_, rfl⟩
  rw [← hF] at rV eV fV ⊢
  have hFV : F < V.heap.size := by omega
  have hMF : w.heap.size + 1 + 1 < F := by omega
  have HKV : Hid (∀ b, b ≠ w.heap.size + 1 → b < w1.heap.size → V.heap[b]? = w1.heap[b]?) := kV
  have HVZ : Hid (V.heap.size = F + 1 + 1 ∧ F = w1.heap.size) := ⟨by omega, hF⟩
  have own : V.ownsRow (w.heap.size + 1) 50 3 (.slice (some ⟨w.heap.size + 1, 0, none⟩) 1 1) 1 [.slice none 0 0, .slice ai (a + 1) ci, .slice (some ⟨F + 1, 0, none⟩) 1 1] := by
    obtain ⟨cc, hc, hs, hx⟩ := rV
    refine ⟨rfl, Or.inr ⟨w.heap.size + 1, 1, cc, rfl, Nat.le_refl _, hc, by omega, by unfold maxLen; omega, by omega, ?_⟩⟩
    have h0 := hx 0 (by omega)
    have h1 := hx 1 (by omega)
    have h2 := hx 2 (by omega)
    obtain ⟨l⟩ := cc
    match l, hs with
    | [x, y, z], _ =>
      simp at h0 h1 h2
      simp [h0, h1, h2]
  have f1 : V.cell? ⟨F, 1, none⟩ = some (.slice (some ⟨w.heap.size + 1, 0, none⟩) 1 1) := fV.cell (i := 1) (by omega)
  have fz := fV.frozen 1
  have oA := (own.alloc (.cells #[.int .i64 1, .slice none 0 0] 47)).alloc (.cells #[.slice none 0 0, .slice none 0 0, .slice (some ⟨V.heap.size, 0, none⟩) 1 1] 50)
  have HN : ∀ j u, ([.slice none 0 0, .slice none 0 0, .slice (some ⟨V.heap.size, 0, none⟩) 1 1] : List Value)[j]? = some u → ((V.alloc (.cells #[.int .i64 1, .slice none 0 0] 47)).alloc (.cells #[.slice none 0 0, .slice none 0 0, .slice (some ⟨V.heap.size, 0, none⟩) 1 1] 50)).cell? ((⟨V.heap.size + 1, 0, none⟩ : Addr).add j) = some u := World.news_of_block (cs := #[.slice none 0 0, .slice none 0 0, .slice (some ⟨V.heap.size, 0, none⟩) 1 1]) (t := 50) (fr := (0, 0)) (heap_atL (by simp))
  have HN' : Hid (∀ j u, ([.slice none 0 0, .slice none 0 0, .slice (some ⟨V.heap.size, 0, none⟩) 1 1] : List Value)[j]? = some u → ((V.alloc (.cells #[.int .i64 1, .slice none 0 0] 47)).alloc (.cells #[.slice none 0 0, .slice none 0 0, .slice (some ⟨V.heap.size, 0, none⟩) 1 1] 50)).cell? ((⟨V.heap.size + 1, 0, none⟩ : Addr).add j) = some u) := HN
  have h1c : ∀ u ∈ ([.slice none 0 0, .slice none 0 0, .slice (some ⟨V.heap.size, 0, none⟩) 1 1] : List Value), u.oneCell' = true := by intro u hu; simp at hu; rcases hu with rfl | rfl <;> rfl
  have hMV : w.heap.size + 1 ≤ V.heap.size := by omega
  clear HN zV kV hF hsz l1
  go_wp2_with (at_builtin; go_must (refine wpList_append_lies _ rfl _ _ 23 rfl (w.heap.size + 1) 50 i30 _ 3 72 Try.underlying23 hi30 hz30 hz301 hz302 rfl (by omega) (.slice (some ⟨w.heap.size + 1, 0, none⟩) 1 1) 1 _ (by rfl) oA ⟨V.heap.size + 1, 0, none⟩ 1 1 [.slice none 0 0, .slice none 0 0, .slice (some ⟨V.heap.size, 0, none⟩) 1 1] (by rfl) (by rfl) HN'.out h1c (by omega) (by unfold maxLen; omega) (by omega) (by simp; omega) (V.heap.size + 1 + 1) (by simp) ?_))
  intro g cap wb hown hgrow hat hgl
  have hzb := hgrow.size
  simp at hzb
  have hg : g = w.heap.size + 1 ∨ g = V.heap.size + 1 + 1 := by
    rcases hat with h | h
    · left; simpa [Value.ownBlock] using h.symm
    · right; exact h
  obtain ⟨A2, hA2⟩ : ∃ A2, A2 = (V.alloc (.cells #[.int .i64 1, .slice none 0 0] 47)).alloc (.cells #[.slice none 0 0, .slice none 0 0, .slice (some ⟨V.heap.size, 0, none⟩) 1 1] 50) := ⟨_, rfl⟩
  have zA : A2.heap.size = V.heap.size + 1 + 1 := by rw [hA2]; simp
  have kA : ∀ b, b < V.heap.size → A2.heap[b]? = V.heap[b]? := fun b hb => by
    rw [hA2, Below.heap_alloc _ _ _ (by simp; omega), Below.heap_alloc _ _ _ hb]
  have eA : A2.heap[V.heap.size]? = some (.cells #[.int .i64 1, .slice none 0 0] 47) := by
    rw [hA2, Below.heap_alloc _ _ _ (by simp)]
    exact heap_atL rfl
  rw [← hA2] at hgrow
  have kB : ∀ b, b ≠ w.heap.size + 1 → b < V.heap.size + 1 + 1 → wb.heap[b]? = A2.heap[b]? := fun b h1 h2 => hgrow.block b (by omega) (by simp [Value.ownBlock]; exact h1)
  have fB : wb.rowIs F 25 2 (fun q => if q = 0 then .slice av (a + 1) cv else .slice (some ⟨w.heap.size + 1, 0, none⟩) 1 1) := fV.of_block ((kB F (by omega) (by omega)).trans (kA F hFV))
  obtain ⟨W, hW⟩ : ∃ W, W = wb.setCell ⟨F, 1, none⟩ (.slice (some ⟨g, 0, none⟩) 2 cap) := ⟨_, rfl⟩
  have kW : ∀ b, b ≠ F → W.heap[b]? = wb.heap[b]? := fun b hb => by rw [hW]; exact Below.heap_setCell _ _ _ _ hb
  have fW : W.rowIs F 25 2 (fun q => if q = 0 then .slice av (a + 1) cv else .slice (some ⟨g, 0, none⟩) 2 cap) := by
    rw [hW]
    refine (fB.set 1 _).congr fun q hq => ?_
    match q, hq with | 0, _ => rfl | 1, _ => rfl
  have hkeep : ∀ b, b ≠ w.heap.size + 1 → b ≠ F → b < V.heap.size → W.heap[b]? = V.heap[b]? := fun b h1 h2 h3 => (kW b h2).trans ((kB b h1 (by omega)).trans (kA b h3))
  have hZ := HVZ.out
  have hparts := HLS.out.1.parts (W := W) (by omega) (fun b h1 h2 => (hkeep b (by omega) (by omega) (by omega)).trans (HKV.out b (by omega) h2))
  have hownW : W.ownsRow (w.heap.size + 1) 50 3 (.slice (some ⟨g, 0, none⟩) 2 cap) 2 ([.slice none 0 0, .slice ai (a + 1) ci, .slice (some ⟨F + 1, 0, none⟩) 1 1] ++ [.slice none 0 0, .slice none 0 0, .slice (some ⟨V.heap.size, 0, none⟩) 1 1]) := own_keep hown fun b hb _ _ => kW b (by simp [Value.ownBlock] at hb; omega)
  obtain ⟨g', cap', hgv, _, _, hcells, _⟩ := own_rowL hownW (by omega)
  simp only [Value.slice.injEq, Option.some.injEq, Addr.mk.injEq, and_true, true_and] at hgv
  obtain ⟨rfl, rfl⟩ := hgv
  have E0 : SlOf W 2 (REdg W) (.slice (some ⟨F + 1, 0, none⟩) 1 1) [⟨1, []⟩] := SlOf_one [.int .i64 1, .slice none 0 0] rfl ⟨_, rfl, SlOf_nil _ _ _ _ _⟩ (cells2 (blk_cellL ((hkeep _ (by omega) (by omega) (by omega)).trans eV) 0 (by simp)) (blk_cellL ((hkeep _ (by omega) (by omega) (by omega)).trans eV) 1 (by simp)))
  have eW : W.heap[V.heap.size]? = some (.cells #[.int .i64 1, .slice none 0 0] 47) := (kW _ (by omega)).trans ((kB _ (by omega) (by omega)).trans eA)
  have E1 : SlOf W 2 (REdg W) (.slice (some ⟨V.heap.size, 0, none⟩) 1 1) [⟨1, []⟩] := SlOf_one [.int .i64 1, .slice none 0 0] rfl ⟨_, rfl, SlOf_nil _ _ _ _ _⟩ (cells2 (blk_cellL eW 0 (by simp)) (blk_cellL eW 1 (by simp)))
  have hblk : SlOf W 3 (RBlk W) (.slice (some ⟨g, 0, none⟩) 2 cap) (slF (a + 1)).blocks := SlOf_two' [.slice none 0 0, .slice ai (a + 1) ci, .slice (some ⟨F + 1, 0, none⟩) 1 1] [.slice none 0 0, .slice none 0 0, .slice (some ⟨V.heap.size, 0, none⟩) 1 1] rfl rfl ⟨_, _, _, rfl, SlOf_nil _ _ _ _ _, hparts.2, E0⟩ ⟨_, _, _, rfl, SlOf_nil _ _ _ _ _, SlOf_nil _ _ _ _ _, E1⟩ (cells3 (hcells 0 (by simp)) (hcells 1 (by simp)) (hcells 2 (by simp))) (cells3 (hcells 3 (by simp)) (hcells 4 (by simp)) (hcells 5 (by simp)))
  have hBW : Below w.heap.size w W := by
    have hbA : Below w.heap.size w A2 := by rw [hA2]; exact (bV.alloc bV.size _).alloc (by simp; have := bV.size; omega) _
    rw [hW]
    exact Below.setCell (hbA.grown hgrow (by omega) fun k hk => by simp [Value.ownBlock] at hk; omega) (by show w.heap.size ≤ F; omega) _
  have HBW : Hid (Below w.heap.size w W) := hBW
  obtain ⟨hl1, hl2⟩ := sf_len (a + 1)
  have HDC : Hid (∀ w', Below W.heap.size W w' → Calls Try.prog 10 #[.agg #[.slice av (a + 1) cv, .slice (some ⟨g, 0, none⟩) 2 cap], .agg #[.int .i64 10, .int .i64 10]] w' fun e w'' => ∃ a' b c n1 n2 n3 c1 c2 c3, e = .returned (.tuple #[.agg #[.slice a' n1 c1, .slice b n2 c2, .slice c n3 c3], .int .i64 0]) ∧ TreeV (slF (a + 1)) 1 0 w'.heap.size w'' (.agg #[.slice a' n1 c1, .slice b n2 c2, .slice c n3 c3]) ∧ Below w'.heap.size w' w'') := fun w' hh => by
    have h := dom_is (slF (a + 1)) 1 10 10 av (some ⟨g, 0, none⟩) cv cap 0 (sf_err a ha) w' (by rw [hl1]; exact hparts.1.below hh fun _ _ h => h) (by rw [hl2]; exact hblk.below hh (RBlk.below hh)) (fun _ => flowIn_of (sf_in a ha))
    rw [hl1, hl2] at h
    exact h
  have f0 : W.cell? ⟨F, 0, none⟩ = some (.slice av (a + 1) cv) := fW.cell (i := 0) (by omega)
  have f1' : W.cell? ⟨F, 1, none⟩ = some (.slice (some ⟨g, 0, none⟩) 2 cap) := fW.cell (i := 1) (by omega)
  have hfl : F < W.heap.size := block_lt f0
  have HS : Hid (∀ w', Below W.heap.size W w' → (fun w' => w'.cell? ⟨F, 0, none⟩ = some (.slice av (a + 1) cv) ∧ w'.cell? ⟨F, 1, none⟩ = some (.slice (some ⟨g, 0, none⟩) 2 cap)) w') := fun w' hh => ⟨(hh.cell (p := ⟨F, 0, none⟩) hfl).trans f0, (hh.cell (p := ⟨F, 1, none⟩) hfl).trans f1'⟩
  have g1 : wb.cell? ⟨F, 1, none⟩ = some (.slice (some ⟨w.heap.size + 1, 0, none⟩) 1 1) := fB.cell (i := 1) (by omega)
  have gz := fB.frozen 1
  have hbD : Below W.heap.size W W.drew := (Below.refl _ _).drew
  have HW : Hid (W = wb.setCell ⟨F, 1, none⟩ (.slice (some ⟨g, 0, none⟩) 2 cap)) := hW
  clear hW kW fW hkeep hZ hparts hownW hcells E0 E1 eW hblk hBW hl1 hl2 hown hgrow hat hgl hzb hg hA2 zA kA eA kB fB own oA f1 fz HN' h1c fV rV eV bV HLS HKV HVZ hMV hFV hMF
  go_upto_region 4 with fail
  rw [← HW.out]
  clear g1 gz HW
  go_cut [4, 5] (fun x y wz => TreeCut (slF (a + 1)) 1 0 W x y wz)
  case first =>
    refine wp_region_X (fun w' => w'.cell? ⟨F, 0, none⟩ = some (.slice av (a + 1) cv) ∧ w'.cell? ⟨F, 1, none⟩ = some (.slice (some ⟨g, 0, none⟩) 2 cap)) 99 (by kernel_rfl) ⟨f0, f1'⟩ (fun hHeld => ?_)
    refine wpX_takeg0 (v := ?_) (by kernel_rfl) (fun _ _ _ h => h) (by rfl) ?_ hHeld ?_
    rotate_left
    · intro w' hSw
      go_simp <;> with_reducible rfl
    try simp only [Act.put, List.setIfInBounds_toArray, List.set_cons_zero, List.set_cons_succ]
    refine wpAnyX_both (i := 1) (k := 6) rfl rfl (by kernel_rfl) (fun K hK => ?_) (fun K hK => ?_)
    · go_simp
      refine (big_is _ W hbD).mono ?_
      rintro e u ⟨rfl, hbu⟩
      refine hK.out _ _ (HS.out _ hbu) (fun hHeld => ?_)
      clear hK K
      try simp only [Act.put, List.setIfInBounds_toArray, List.set_cons_zero, List.set_cons_succ]
      refine wpAnyX_both (i := 2) (k := 6) rfl rfl (by kernel_rfl) (fun K hK => ?_) (fun K hK => ?_)
      · go_simp
        refine (HDC.out _ hbu).mono ?_
        rintro e w3 ⟨a', b, c', n1, n2, n3, c1, c2, c3, rfl, hT, hb3⟩
        have hW3 : Below W.heap.size W w3 := Below.trans hbu (hb3.mono (hbu).size)
        refine hK.out _ _ (HS.out _ hW3) (fun hHeld => ?_)
        clear hK K
        try simp only [Act.put, List.setIfInBounds_toArray, List.set_cons_zero, List.set_cons_succ]
        refine wpX_takeg3 (v := ?_) (by kernel_rfl) (fun _ _ _ h => h) (by rfl) ?_ hHeld ?_
        rotate_left
        · intro w' hSw
          go_simp <;> with_reducible rfl
        try simp only [Act.put, List.setIfInBounds_toArray, List.set_cons_zero, List.set_cons_succ]
        refine wpX_takeg4 (v := ?_) (by kernel_rfl) (fun _ _ _ h => h) (by rfl) ?_ hHeld ?_
        rotate_left
        · intro w' hSw
          go_simp <;> with_reducible rfl
        try simp only [Act.put, List.setIfInBounds_toArray, List.set_cons_zero, List.set_cons_succ]
        refine wpX_takeg5 (v := ?_) (by kernel_rfl) (fun _ _ _ h => h) (by rfl) ?_ hHeld ?_
        rotate_left
        · intro w' hSw
          go_simp <;> with_reducible rfl
        try simp only [Act.put, List.setIfInBounds_toArray, List.set_cons_zero, List.set_cons_succ]
        refine wpX_step6 (by kernel_rfl) (fun K hK => ?_)
        go_simp
        refine hK.out _ _ (HS.out _ (hW3.alloc hW3.size _)) (fun hHeld => ?_)
        clear hK K
        try simp only [Act.put, List.setIfInBounds_toArray, List.set_cons_zero, List.set_cons_succ]
        refine wpX_step7 (by kernel_rfl) (fun K hK => ?_)
        go_simp
        refine hK.out _ _ (HS.out _ (hW3.alloc hW3.size _)) (fun hHeld => ?_)
        clear hK K
        try simp only [Act.put, List.setIfInBounds_toArray, List.set_cons_zero, List.set_cons_succ]
        refine wpX_step8 (by kernel_rfl) (fun K hK => ?_)
        go_simp
        refine hK.out _ _ (HS.out _ (hW3.alloc hW3.size _)) (fun hHeld => ?_)
        clear hK K
        try simp only [Act.put, List.setIfInBounds_toArray, List.set_cons_zero, List.set_cons_succ]
        refine wpAnyX_done (by kernel_rfl) ?_ _
        go_wp2
        go_meet
        exact treeCut_new hT (by first | exact hbu.size | (simp; exact hbu.size)) hW3
      · go_simp
        have hWa : Below W.heap.size W (u.alloc (.cells #[.slice none 0 0, .slice none 0 0, .slice none 0 0] 33)) := ((hbu).alloc (hbu).size _)
        refine hK.out _ _ (HS.out _ hWa) (fun hHeld => ?_)
        clear hK K
        try simp only [Act.put, List.setIfInBounds_toArray, List.set_cons_zero, List.set_cons_succ]
        refine wpX_step2 (by kernel_rfl) (fun K hK => ?_)
        go_simp
        refine (HDC.out _ hWa).mono ?_
        rintro e w3 ⟨a', b, c', n1, n2, n3, c1, c2, c3, rfl, hT, hb3⟩
        have hW3 : Below W.heap.size W w3 := Below.trans hWa (hb3.mono (hWa).size)
        refine hK.out _ _ (HS.out _ hW3) (fun hHeld => ?_)
        clear hK K
        try simp only [Act.put, List.setIfInBounds_toArray, List.set_cons_zero, List.set_cons_succ]
        refine wpX_takeg3 (v := ?_) (by kernel_rfl) (fun _ _ _ h => h) (by rfl) ?_ hHeld ?_
        rotate_left
        · intro w' hSw
          go_simp <;> with_reducible rfl
        try simp only [Act.put, List.setIfInBounds_toArray, List.set_cons_zero, List.set_cons_succ]
        refine wpX_takeg4 (v := ?_) (by kernel_rfl) (fun _ _ _ h => h) (by rfl) ?_ hHeld ?_
        rotate_left
        · intro w' hSw
          go_simp <;> with_reducible rfl
        try simp only [Act.put, List.setIfInBounds_toArray, List.set_cons_zero, List.set_cons_succ]
        refine wpX_takeg5 (v := ?_) (by kernel_rfl) (fun _ _ _ h => h) (by rfl) ?_ hHeld ?_
        rotate_left
        · intro w' hSw
          go_simp <;> with_reducible rfl
        try simp only [Act.put, List.setIfInBounds_toArray, List.set_cons_zero, List.set_cons_succ]
        have hrz : (u.alloc (.cells #[.slice none 0 0, .slice none 0 0, .slice none 0 0] 33)).rowIs u.heap.size 33 3 (fun _ => .slice none 0 0) := World.rowIs_alloc _ _ _ _ fun i hi => by
          simp at hi
          match i, hi with | 0, _ => rfl | 1, _ => rfl | 2, _ => rfl
        have hr3 := hrz.of_block (hb3.block _ hrz.lt)
        have k0 := hr3.cell (i := 0) (by omega)
        have k1 := hr3.cell (i := 1) (by omega)
        have k2 := hr3.cell (i := 2) (by omega)
        have z0 := hr3.frozen 0
        have z1 := hr3.frozen 1
        have z2 := hr3.frozen 2
        have HCUT : Hid (TreeCut _ _ _ _ _ _ _) := treeCut_set hT hWa.size hW3 hr3 hbu.size (by simp)
        have hX0 : Below W.heap.size W (((w3.setCell ⟨u.heap.size, 0, none⟩ (.slice a' n1 c1)).setCell ⟨u.heap.size, 1, none⟩ (.slice b n2 c2)).setCell ⟨u.heap.size, 2, none⟩ (.slice c' n3 c3)) := ((hW3.setCell hbu.size _).setCell hbu.size _).setCell hbu.size _
        clear hr3 hrz hT
        refine wpX_step7 (by kernel_rfl) (fun K hK => ?_)
        go_simp
        refine hK.out _ _ (HS.out _ hX0) (fun hHeld => ?_)
        clear hK K
        try simp only [Act.put, List.setIfInBounds_toArray, List.set_cons_zero, List.set_cons_succ]
        refine wpX_step8 (by kernel_rfl) (fun K hK => ?_)
        go_simp
        refine hK.out _ _ (HS.out _ hX0) (fun hHeld => ?_)
        clear hK K
        try simp only [Act.put, List.setIfInBounds_toArray, List.set_cons_zero, List.set_cons_succ]
        refine wpAnyX_done (by kernel_rfl) ?_ _
        go_wp2
        go_meet
        exact HCUT.out
    · go_simp
      have hWa : Below W.heap.size W (W.alloc (.cells #[.slice none 0 0, .slice none 0 0, .slice none 0 0] 33)).drew := (((Below.refl W.heap.size W)).alloc ((Below.refl W.heap.size W)).size _).drew
      refine hK.out _ _ (HS.out _ hWa) (fun hHeld => ?_)
      clear hK K
      try simp only [Act.put, List.setIfInBounds_toArray, List.set_cons_zero, List.set_cons_succ]
      refine wpX_step1 (by kernel_rfl) (fun K hK => ?_)
      go_simp
      refine (big_any _).mono ?_
      rintro e u ⟨rfl, hbu2⟩
      have hbu : Below W.heap.size W u := hWa.trans (hbu2.mono hWa.size)
      have hlt : W.heap.size < u.heap.size := by have := hbu2.size; simp at this; omega
      refine hK.out _ _ (HS.out _ hbu) (fun hHeld => ?_)
      clear hK K
      try simp only [Act.put, List.setIfInBounds_toArray, List.set_cons_zero, List.set_cons_succ]
      refine wpX_step2 (by kernel_rfl) (fun K hK => ?_)
      go_simp
      refine (HDC.out _ hbu).mono ?_
      rintro e w3 ⟨a', b, c', n1, n2, n3, c1, c2, c3, rfl, hT, hb3⟩
      have hW3 : Below W.heap.size W w3 := Below.trans hbu (hb3.mono (hbu).size)
      refine hK.out _ _ (HS.out _ hW3) (fun hHeld => ?_)
      clear hK K
      try simp only [Act.put, List.setIfInBounds_toArray, List.set_cons_zero, List.set_cons_succ]
      refine wpX_takeg3 (v := ?_) (by kernel_rfl) (fun _ _ _ h => h) (by rfl) ?_ hHeld ?_
      rotate_left
      · intro w' hSw
        go_simp <;> with_reducible rfl
      try simp only [Act.put, List.setIfInBounds_toArray, List.set_cons_zero, List.set_cons_succ]
      refine wpX_takeg4 (v := ?_) (by kernel_rfl) (fun _ _ _ h => h) (by rfl) ?_ hHeld ?_
      rotate_left
      · intro w' hSw
        go_simp <;> with_reducible rfl
      try simp only [Act.put, List.setIfInBounds_toArray, List.set_cons_zero, List.set_cons_succ]
      refine wpX_takeg5 (v := ?_) (by kernel_rfl) (fun _ _ _ h => h) (by rfl) ?_ hHeld ?_
      rotate_left
      · intro w' hSw
        go_simp <;> with_reducible rfl
      try simp only [Act.put, List.setIfInBounds_toArray, List.set_cons_zero, List.set_cons_succ]
      have hrz : (W.alloc (.cells #[.slice none 0 0, .slice none 0 0, .slice none 0 0] 33)).drew.rowIs W.heap.size 33 3 (fun _ => .slice none 0 0) := World.rowIs_alloc _ _ _ _ fun i hi => by
        simp at hi
        match i, hi with | 0, _ => rfl | 1, _ => rfl | 2, _ => rfl
      have hr2 := hrz.of_block (hbu2.block _ hrz.lt)
      have hr3 := hr2.of_block (hb3.block _ hr2.lt)
      have k0 := hr3.cell (i := 0) (by omega)
      have k1 := hr3.cell (i := 1) (by omega)
      have k2 := hr3.cell (i := 2) (by omega)
      have z0 := hr3.frozen 0
      have z1 := hr3.frozen 1
      have z2 := hr3.frozen 2
      have HCUT : Hid (TreeCut _ _ _ _ _ _ _) := treeCut_set hT hbu.size hW3 hr3 (Nat.le_refl _) hlt
      have hX0 : Below W.heap.size W (((w3.setCell ⟨W.heap.size, 0, none⟩ (.slice a' n1 c1)).setCell ⟨W.heap.size, 1, none⟩ (.slice b n2 c2)).setCell ⟨W.heap.size, 2, none⟩ (.slice c' n3 c3)) := ((hW3.setCell (Nat.le_refl _) _).setCell (Nat.le_refl _) _).setCell (Nat.le_refl _) _
      clear hr3 hrz hT
      refine wpX_step7 (by kernel_rfl) (fun K hK => ?_)
      go_simp
      refine hK.out _ _ (HS.out _ hX0) (fun hHeld => ?_)
      clear hK K
      try simp only [Act.put, List.setIfInBounds_toArray, List.set_cons_zero, List.set_cons_succ]
      refine wpX_step8 (by kernel_rfl) (fun K hK => ?_)
      go_simp
      refine hK.out _ _ (HS.out _ hX0) (fun hHeld => ?_)
      clear hK K
      try simp only [Act.put, List.setIfInBounds_toArray, List.set_cons_zero, List.set_cons_succ]
      refine wpAnyX_done (by kernel_rfl) ?_ _
      go_wp2
      go_meet
      exact HCUT.out
  case rest =>
    obtain ⟨X, a', b, c', n1, n2, n3, c1, c2, c3, rfl, rfl, hrow, hWz, hT⟩ := hcut
    obtain ⟨g', ib, db, co, ev, _, _, _, h1, h2, h3⟩ := hT.1 (by first | rfl | trivial)
    obtain ⟨hl1, hl2⟩ := sf_len (a + 1)
    rw [hl2] at ev h1 h2 h3
    simp only [Value.agg.injEq, Array.mk.injEq, List.cons.injEq, Value.slice.injEq, and_true] at ev
    obtain ⟨⟨rfl, rfl, rfl⟩, ⟨rfl, rfl, rfl⟩, ⟨rfl, rfl, rfl⟩⟩ := ev
    have y1 : wc.cell? ⟨X, 1, none⟩ = some (.slice (some ⟨ib, 0, none⟩) 2 2) := hrow.cell (i := 1) (by omega)
    have y2 : wc.cell? ⟨X, 2, none⟩ = some (.slice (some ⟨db, 0, none⟩) 2 2) := hrow.cell (i := 2) (by omega)
    have hXl : X < wc.heap.size := hrow.lt
    have hbe : Below w.heap.size w wc := HBW.out.trans (hWz.mono HBW.out.size)
    have htr := sf_tree a ha
    rw [htr.1] at h2
    rw [htr.2] at h3
    have HD : Hid (SlOf wc 1 RInt (.slice (some ⟨ib, 0, none⟩) 2 2) [-1, 0] ∧ SlOf wc 1 RInt (.slice (some ⟨db, 0, none⟩) 2 2) [0, 1] ∧ Below w.heap.size w wc) := ⟨h2, h3, hbe⟩
    clear h1 h2 h3 hT hrow hWz hbe HDC HS HBW f0 f1' htr hl1 hl2
    generalize wc = D at *
    have hA2 : Below D.heap.size D (D.alloc (.cells #[.int .i64 0, .int .i64 1] 3)) := (Below.refl _ _).alloc (Nat.le_refl _) _
    have HC2 := sameInts_true [0, 1] (some ⟨db, 0, none⟩) (some ⟨D.heap.size, 0, none⟩) 2 2 2 (D.alloc (.cells #[.int .i64 0, .int .i64 1] 3)) rfl (HD.out.2.1.below hA2 fun _ _ h => h) (two_sl D 0 1 3)
    go_wp2_with fail
    refine HC2.mono ?_
    rintro e F ⟨rfl, hF⟩
    have hDF : Below D.heap.size D F := hA2.trans (hF.mono hA2.size)
    clear HC2 y2 hF hA2
    have y1' := (hDF.cell (p := ⟨X, 1, none⟩) hXl).trans y1
    have hA3 : Below F.heap.size F (F.alloc (.cells #[.int .i64 (-1), .int .i64 0] 3)) := (Below.refl _ _).alloc (Nat.le_refl _) _
    have hDA := hDF.trans (hA3.mono hDF.size)
    have HC3 := sameInts_true [-1, 0] (some ⟨ib, 0, none⟩) (some ⟨F.heap.size, 0, none⟩) 2 2 2 (F.alloc (.cells #[.int .i64 (-1), .int .i64 0] 3)) rfl (HD.out.1.below hDA fun _ _ h => h) (two_sl F (-1) 0 3)
    go_wp2_with fail
    refine HC3.mono ?_
    rintro e G ⟨rfl, hG⟩
    have hDG : Below D.heap.size D G := hDA.trans (hG.mono hDA.size)
    clear HC3 y1 y1'
    go_wp2
    go_ret
    exact ⟨rfl, HD.out.2.2.trans (hDG.mono HD.out.2.2.size)⟩
end Go.Proofs.Ytengmgdnpojfjaa
