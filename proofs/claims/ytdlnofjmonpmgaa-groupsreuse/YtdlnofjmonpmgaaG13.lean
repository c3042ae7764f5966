/-
  A line whose instructions reuse what they read: its groups, by computing and step by step; how it lies.
-/
import Derived.Test.YtdlnofjmonpmgaaG11
import Derived.Test.YtdlnofjmonpmgaaG12
import Derived.Test.YtdlnofjmonpmgaaN6
import Derived.Test.YtdlnofjmonpmgaaN1
namespace Go.Proofs.Ytdlnofjmonpmgaa
open Go.RowKit
set_option linter.unusedVariables false

def rvO (i : Nat) : List Opr := if i = 0 then [⟨2, 0, true, 1, 0⟩] else [⟨1, (i : Int) - 1, false, 1, 0⟩, ⟨2, i, true, 5, 0⟩]
def rvI (i : Nat) : Ins := ⟨((i % 256 : Nat) : Int), rvO i, []⟩
def rvL : Ins := ⟨0, [⟨1, 0, false, 1, 0⟩], []⟩
def rvB (j : Nat) (late : Bool) : Blk := ⟨[], (List.range (j + 2)).map rvI ++ (if late = true then [rvL] else []), []⟩
def rvF (j : Nat) (late : Bool) : Fn := ⟨List.replicate (j + 2) 0, [rvB j late]⟩
def rvS (j : Nat) (late : Bool) (v : Nat) : List Sp := stepL [] (stayM (rvB j late) noT noT 0 (j + 2) 0 v)
set_option maxRecDepth 100000 in
theorem rv_flow : ∀ j : Nat, j < 10 → ∀ late : Bool, flowE (rvF j late) 10 10 (1 * 1 + 1) = 0 := by decide +kernel
set_option maxRecDepth 100000 in
theorem rv_made : ∀ j : Nat, j < 10 → ∀ late : Bool, ∀ v : Nat, v < j + 2 → (v : Int) ∈ makersOf (rvB j late) := by decide +kernel
set_option maxRecDepth 100000 in
theorem rv_apart : ∀ j : Nat, j < 10 → ∀ late : Bool, ∀ x : Nat, x < j + 2 → ∀ y : Nat, y < x → (y = 0 → late = false) → meetL (rvS j late x) (rvS j late y) = false := by decide +kernel
set_option maxRecDepth 100000 in
theorem rv_meets : ∀ j : Nat, j < 10 → meetL (rvS j true 1) (rvS j true 0) = true := by decide +kernel
theorem one_blockG {x : Blk} (hx : x.edges = []) {nv : Nat} {I O : Tb} (h : (∀ b v, v < nv → (I b v = true ↔ NeedIn [x] b v)) ∧ ∀ b v, v < nv → (O b v = true ↔ NeedOut [x] b v)) (hm : ∀ v : Nat, v < nv → (v : Int) ∈ makersOf x) (i : Nat) : spansM [x] nv I O 1 i = stepL [] (stayM x noT noT 0 nv 0 i) := by
  have hI : ∀ v, v < nv → I 0 v = false := fun v hv => by
    cases e : I 0 v
    · rfl
    · have := NeedIn.iff.1 ((h.1 0 v hv).1 e)
      exact absurd (hm v hv) this.2.1
  have hO : ∀ v, v < nv → O 0 v = false := fun v hv => by
    cases e : O 0 v
    · rfl
    · obtain ⟨_, h1 | ⟨t, h1, _⟩⟩ := (h.2 0 v hv).1 e
      · have : blkA [x] 0 = x := rfl
        rw [this, hx] at h1
        cases h1
      · have : succM [x] 0 = x.edges.map fun e => e.block.toNat := rfl
        rw [this, hx] at h1
        cases h1
  have e1 : stIn I 0 0 nv = stIn noT 0 0 nv := by
    funext v
    unfold stIn noT
    by_cases hv : v < nv
    · simp [hI v hv]
    · simp [hv]
  have e2 : ∀ fin s, stOut O 0 fin s nv = stOut noT 0 fin s nv := fun fin s => by
    funext v
    unfold stOut noT
    by_cases hv : v < nv
    · simp [hO v hv]
    · simp [hv]
  show stepL [] (stayM x I O 0 nv (startM [x] 0) i) = _
  have e3 : startM [x] 0 = 0 := rfl
  rw [e3]
  unfold stayM stMid
  rw [e1, e2]
/-- Groups behind t instructions. -/
def rvQ (late : Bool) (t v : Nat) : Nat := if t ≤ v then v else if late = true ∧ v ≠ 0 then 1 else 0
theorem rvQ_hi {late : Bool} {t v : Nat} (h : t ≤ v) : rvQ late t v = v := by unfold rvQ; rw [if_pos h]
theorem rvQ_z {late : Bool} {t : Nat} (h : 0 < t) : rvQ late t 0 = 0 := by unfold rvQ; rw [if_neg (by omega), if_neg (fun h => h.2 rfl)]
theorem rvQ_n {t v : Nat} (h : v < t) : rvQ false t v = 0 := by unfold rvQ; rw [if_neg (by omega), if_neg (fun h => by cases h.1)]
theorem rvQ_l {t v : Nat} (h : v < t) (h0 : v ≠ 0) : rvQ true t v = 1 := by unfold rvQ; rw [if_neg (by omega), if_pos ⟨rfl, h0⟩]
theorem rv_upto {j : Nat} (hj : j < 10) (late : Bool) : ∀ t, 1 ≤ t → t ≤ j + 2 → insG (j + 2) (rvS j late) ((List.range t).map rvI) id = rvQ late t
  | 0, h, _ => by omega
  | 1, _, _ => by
    rw [insG_none (by decide)]
    funext v
    unfold rvQ
    split
    · rfl
    · show v = _
      rw [if_neg (by rintro ⟨_, h⟩; omega)]
      omega
  | i + 2, _, hi => by
    have ih := rv_upto hj late (i + 1) (by omega) (by omega)
    have e0 : insG (j + 2) (rvS j late) ((List.range (i + 2)).map rvI) id = reuseG (j + 2) (rvS j late) (rvO (i + 1)) (insG (j + 2) (rvS j late) ((List.range (i + 1)).map rvI) id) := by
      rw [List.range_succ, List.map_append]
      unfold insG
      rw [List.foldl_append]
      rfl
    have e1 : rvO (i + 1) = [⟨1, ((i + 1 : Nat) : Int) - 1, false, 1, 0⟩, ⟨2, ((i + 1 : Nat) : Int), true, 5, 0⟩] := by unfold rvO; rw [if_neg (by omega)]
    have e2 : ∀ q, reuseG (j + 2) (rvS j late) (rvO (i + 1)) q = joinG (j + 2) (rvS j late) q (i + 1) i := fun q => by
      rw [e1]
      show joinG (j + 2) (rvS j late) q ((i + 1 : Nat) : Int).toNat (((i + 1 : Nat) : Int) - 1).toNat = _
      rw [Int.toNat_natCast, show (((i + 1 : Nat) : Int) - 1).toNat = i by omega]
    rw [e0, e2, ih]
    have q1 : rvQ late (i + 1) (i + 1) = i + 1 := by unfold rvQ; rw [if_pos (Nat.le_refl _)]
    have q2 : rvQ late (i + 1) i = if late = true ∧ i ≠ 0 then 1 else 0 := by unfold rvQ; rw [if_neg (by omega)]
    by_cases hl : late = true ∧ i = 0
    · obtain ⟨rfl, rfl⟩ := hl
      have hm := rv_meets j hj
      have e3 : joinG (j + 2) (rvS j true) (rvQ true (0 + 1)) (0 + 1) 0 = rvQ true (0 + 1) := by
        unfold joinG
        rw [if_pos (Or.inr ⟨1, 0, by omega, by omega, rfl, rfl, hm⟩)]
      rw [e3]
      funext v
      unfold rvQ
      by_cases h0 : v = 0
      · subst h0; rfl
      · by_cases h1 : v = 1
        · subst h1; rfl
        · rw [if_pos (by omega), if_pos (by omega)]
    · cases late
      · have q3 : rvQ false (i + 1) i = 0 := rvQ_n (by omega)
        have e3 : joinG (j + 2) (rvS j false) (rvQ false (i + 1)) (i + 1) i = uniG (rvQ false (i + 1)) (i + 1) i := joinG_not (by rw [q1, q3]; omega) fun x y hx hy h1 h2 => by
          rw [q1] at h1
          rw [q3] at h2
          have hxi : x = i + 1 := by
            by_cases e : i + 1 ≤ x
            · rw [rvQ_hi e] at h1; exact h1
            · rw [rvQ_n (by omega)] at h1; omega
          have hyi : y < i + 1 := by
            by_cases e : i + 1 ≤ y
            · rw [rvQ_hi e] at h2; omega
            · omega
          rw [hxi]
          exact rv_apart j hj false (i + 1) (by omega) y (by omega) fun _ => rfl
        rw [e3]
        funext v
        unfold uniG
        rw [q1, q3, show max (i + 1) 0 = i + 1 by omega, show min (i + 1) 0 = 0 by omega]
        by_cases h0 : i + 1 ≤ v
        · rw [rvQ_hi h0]
          by_cases h1 : v = i + 1
          · rw [if_pos h1, rvQ_n (by omega)]
          · rw [if_neg h1, rvQ_hi (by omega)]
        · rw [rvQ_n (by omega), if_neg (by omega), rvQ_n (by omega)]
      · have hi0 : i ≠ 0 := fun e => hl ⟨rfl, e⟩
        have q3 : rvQ true (i + 1) i = 1 := rvQ_l (by omega) hi0
        have e3 : joinG (j + 2) (rvS j true) (rvQ true (i + 1)) (i + 1) i = uniG (rvQ true (i + 1)) (i + 1) i := joinG_not (by rw [q1, q3]; omega) fun x y hx hy h1 h2 => by
          rw [q1] at h1
          rw [q3] at h2
          have hxi : x = i + 1 := by
            by_cases e : i + 1 ≤ x
            · rw [rvQ_hi e] at h1; exact h1
            · by_cases e0 : x = 0
              · rw [e0, rvQ_z (by omega)] at h1; omega
              · rw [rvQ_l (by omega) e0] at h1; omega
          have hyi : y < i + 1 ∧ y ≠ 0 := by
            by_cases e : i + 1 ≤ y
            · rw [rvQ_hi e] at h2; omega
            · refine ⟨by omega, fun e0 => ?_⟩
              rw [e0, rvQ_z (by omega)] at h2
              omega
          rw [hxi]
          exact rv_apart j hj true (i + 1) (by omega) y (by omega) fun e => absurd e hyi.2
        rw [e3]
        funext v
        unfold uniG
        rw [q1, q3, show max (i + 1) 1 = i + 1 by omega, show min (i + 1) 1 = 1 by omega]
        by_cases h0 : i + 1 ≤ v
        · rw [rvQ_hi h0]
          by_cases h1 : v = i + 1
          · rw [if_pos h1, rvQ_l (by omega) (by omega)]
          · rw [if_neg h1, rvQ_hi (by omega)]
        · by_cases e0 : v = 0
          · rw [e0, rvQ_z (by omega), if_neg (by omega), rvQ_z (by omega)]
          · rw [rvQ_l (by omega) e0, if_neg (by omega), rvQ_l (by omega) e0]
theorem rv_groups {j : Nat} (hj : j < 10) (late : Bool) {I O : Tb} (h : (∀ b v, v < j + 2 → (I b v = true ↔ NeedIn (rvF j late).blocks b v)) ∧ ∀ b v, v < j + 2 → (O b v = true ↔ NeedOut (rvF j late).blocks b v)) (v : Nat) (hv : v < j + 2) : groupsM (j + 2) (spansM (rvF j late).blocks (j + 2) I O 1) (rvF j late).blocks v = if late = true ∧ v ≠ 0 then 1 else 0 := by
  have e1 : spansM (rvF j late).blocks (j + 2) I O 1 = rvS j late := by
    funext i
    exact one_blockG rfl h (rv_made j hj late) i
  rw [e1]
  have e2 : groupsM (j + 2) (rvS j late) (rvF j late).blocks = rvQ late (j + 2) := by
    show insG (j + 2) (rvS j late) ((List.range (j + 2)).map rvI ++ (if late = true then [rvL] else [])) id = _
    unfold insG
    rw [List.foldl_append]
    have e3 := rv_upto hj late (j + 2) (by omega) (Nat.le_refl _)
    unfold insG at e3
    rw [e3]
    have e4 : insG (j + 2) (rvS j late) (if late = true then [rvL] else []) (rvQ late (j + 2)) = rvQ late (j + 2) := insG_none (by cases late <;> decide)
    unfold insG at e4
    exact e4
  rw [e2]
  unfold rvQ
  rw [if_neg (by omega)]
/-- The operands of a line of which t instructions reuse already. -/
def lnB (t i : Nat) : List Opr := if 1 ≤ i ∧ i < t then rvO i else lnO i
theorem lnB_len (t i : Nat) : (lnB t i).length = (lnO i).length := by
  unfold lnB rvO lnO
  split
  · rw [if_neg (by omega), if_neg (by omega)]; rfl
  · rfl
theorem lnB_all (n i : Nat) (h : i < n) : lnB n i = rvO i := by
  unfold lnB
  by_cases e : 1 ≤ i
  · rw [if_pos ⟨e, h⟩]
  · rw [if_neg (by omega)]
    unfold rvO lnO
    rw [if_pos (by omega), if_pos (by omega)]
structure ObT (w : World) (M i : Nat) (vv vi : Value) (ob : Nat → Nat) (t k : Nat) : Prop where
  base : M + 1 + 1 + 1 ≤ ob k
  lt : ob k < w.heap.size
  nv : vv.ownBlock ≠ some (ob k)
  ni : vi.ownBlock ≠ some (ob k)
  blk : w.heap[ob k]? = some (.cells ((lnB t k).flatMap cO).toArray 51)
structure LineT (M n t : Nat) (vv vi : Value) (ob : Nat → Nat) (w : World) : Prop where
  r1 : w.rowIs (M + 1) 44 3 (fun q => if q = 1 then vi else .slice none 0 0)
  ov : w.ownsRow (M + 1 + 1 + 1) 3 1 vv n ((List.replicate n (0 : Int)).flatMap cI)
  oi : w.ownsRow (M + 1 + 1 + 1) 55 3 vi n (lnXs ob n)
  ap : apartW vv vi
  obs : ∀ k, k < n → ObT w M n vv vi ob t k
  inj : ∀ j k, j < n → k < n → ob j = ob k → j = k
theorem LineT.of {M n : Nat} {vv vi : Value} {ob : Nat → Nat} {w : World} (h : LineSt M n n vv vi ob w) : LineT M n 1 vv vi ob w :=
  ⟨h.r1, h.ov, h.oi, h.ap, fun k hk => ⟨(h.obs k hk).base, (h.obs k hk).lt, (h.obs k hk).nv, (h.obs k hk).ni, by
    have e : lnB 1 k = lnO k := by unfold lnB; rw [if_neg (by omega)]
    rw [e]
    exact (h.obs k hk).blk⟩, h.inj⟩
theorem LineT.keep {M n t : Nat} {vv vi : Value} {ob : Nat → Nat} {w w' : World} (h : LineT M n t vv vi ob w) (hz : w.heap.size ≤ w'.heap.size) (hb : ∀ b, M + 1 ≤ b → b < w.heap.size → w'.heap[b]? = w.heap[b]?) : LineT M n t vv vi ob w' := by
  refine ⟨h.r1.of_block (hb _ (Nat.le_refl _) h.r1.lt), own_keep h.ov fun g _ h1 h2 => hb g (by omega) h2, own_keep h.oi fun g _ h1 h2 => hb g (by omega) h2, h.ap, fun k hk => ?_, h.inj⟩
  have K := h.obs k hk
  exact ⟨K.base, Nat.lt_of_lt_of_le K.lt hz, K.nv, K.ni, (hb _ (by have := K.base; omega) K.lt).trans K.blk⟩
theorem LineT.set {M n t : Nat} {vv vi : Value} {ob : Nat → Nat} {w : World} (h : LineT M n t vv vi ob w) (h1 : 1 ≤ t) (ht : t < n) : LineT M n (t + 1) vv vi ob (w.setCell ⟨ob t, 8, none⟩ (.int .i64 5)) := by
  have K := h.obs t ht
  have kept : ∀ b, b ≠ ob t → (w.setCell ⟨ob t, 8, none⟩ (.int .i64 5)).heap[b]? = w.heap[b]? := fun b hb => Below.heap_setCell _ _ _ _ hb
  have hbase := K.base
  refine ⟨h.r1.of_block (kept _ (by omega)), own_keep h.ov fun g hg _ _ => kept g fun e => K.nv (by rw [← e]; exact hg), own_keep h.oi fun g hg _ _ => kept g fun e => K.ni (by rw [← e]; exact hg), h.ap, fun k hk => ?_, h.inj⟩
  have K2 := h.obs k hk
  refine ⟨K2.base, by simpa [World.setCell] using K2.lt, K2.nv, K2.ni, ?_⟩
  by_cases e : k = t
  · subst e
    have e1 : lnB k k = lnO k := by unfold lnB; rw [if_neg (by omega)]
    have e2 : lnB (k + 1) k = rvO k := by unfold lnB; rw [if_pos ⟨h1, by omega⟩]
    have kb := K.blk
    rw [e1] at kb
    rw [e2]
    have e3 : lnO k = [⟨1, (k : Int) - 1, false, 1, 0⟩, ⟨2, k, true, 1, 0⟩] := by unfold lnO; rw [if_neg (by omega)]
    have e4 : rvO k = [⟨1, (k : Int) - 1, false, 1, 0⟩, ⟨2, k, true, 5, 0⟩] := by unfold rvO; rw [if_neg (by omega)]
    rw [e3] at kb
    rw [heap_setCell_same w (ob k) 8 _ 51 (.int .i64 5) kb, e4]
    rfl
  · have e1 : lnB (t + 1) k = lnB t k := by
      unfold lnB
      by_cases h2 : 1 ≤ k ∧ k < t
      · rw [if_pos h2, if_pos ⟨h2.1, by omega⟩]
      · rw [if_neg h2, if_neg (by omega)]
    rw [kept _ (fun e2 => e (h.inj k t hk ht e2)), e1]
    exact K2.blk
theorem LineT.vals {M n t : Nat} {vv vi : Value} {ob : Nat → Nat} {w : World} (h : LineT M n t vv vi ob w) (hn : n ≤ 100000) : SlOf w 1 RInt vv (List.replicate n 0) := own_ints _ h.ov (by unfold longest; omega)
theorem LineT.insR {M n : Nat} {vv vi : Value} {ob : Nat → Nat} {w : World} (h : LineT M n n vv vi ob w) (hn : n ≤ 100000) (cs : List Value) (i : Nat) (hi : i < n) (e : cs = lnX (ob i) i) : RIns w cs (rvI i) := by
  subst e
  have O := h.obs i hi
  have hlen : (lnO i).length ≤ 2 := by unfold lnO; split <;> simp
  have hb := O.blk
  rw [lnB_all n i hi] at hb
  have hl : (rvO i).length = (lnO i).length := by rw [← lnB_all n i hi, lnB_len]
  exact ⟨_, _, rfl, SlOf_blk cO (fun _ => rfl) (fun _ => rfl) (rvO i) hb hl (by unfold longest; omega), SlOf_nil _ _ _ _ _⟩
/-- The line when all reuse. -/
theorem LineT.sl {M j : Nat} {vv vi : Value} {ob : Nat → Nat} {w : World} (h : LineT M (j + 2) (j + 2) vv vi ob w) (hn : j < 100) : SlOf w 1 RInt vv (rvF j false).values ∧ SlOf w 3 (RBlk w) (.slice (some ⟨M + 1, 0, none⟩) 1 1) (rvF j false).blocks := by
  have hi0 : SlOf w 3 (fun cs (i : Nat) => cs = lnX (ob i) i) vi (List.range (j + 2)) := own_sl (k := 3) (fun i => lnX (ob i) i) (fun _ => rfl) (by decide) (fun _ => rfl) _ h.oi (by unfold longest; omega)
  have hi : SlOf w 3 (RIns w) vi ((List.range (j + 2)).map rvI) := hi0.mapR rvI fun cs i hj e => h.insR (by omega) cs i (List.mem_range.1 hj) e
  refine ⟨h.vals (by omega), SlOf_one [.slice none 0 0, vi, .slice none 0 0] rfl ⟨_, _, _, rfl, SlOf_nil _ _ _ _ _, ?_, SlOf_nil _ _ _ _ _⟩ (cells3 ?_ ?_ ?_)⟩
  · show SlOf w 3 (RIns w) vi ((List.range (j + 2)).map rvI ++ [])
    rw [List.append_nil]
    exact hi
  · exact h.r1.cell (i := 0) (by omega)
  · exact h.r1.cell (i := 1) (by omega)
  · exact h.r1.cell (i := 2) (by omega)
/-- The line with an instruction more, behind all. -/
theorem LineT.slL {M j g cap u : Nat} {vv vi : Value} {ob : Nat → Nat} {w w1 : World} (h : LineT M (j + 2) (j + 2) vv vi ob w) (hn : j < 100) (hz : w.heap.size ≤ w1.heap.size) (hk : ∀ b, b < w.heap.size → b ≠ M + 1 → vi.ownBlock ≠ some b → w1.heap[b]? = w.heap[b]?) (ho : w1.ownsRow (M + 1 + 1 + 1) 55 3 (.slice (some ⟨g, 0, none⟩) (j + 2 + 1) cap) (j + 2 + 1) (lnXs ob (j + 2) ++ [.int .i64 0, .slice (some ⟨u, 0, none⟩) 1 1, .slice none 0 0])) (hu : w1.heap[u]? = some (.cells #[.int .i64 1, .int .i64 0, .bool false, .int .i64 1, .int .i64 0] 51)) (hr : w1.rowIs (M + 1) 44 3 (fun q => if q = 1 then .slice (some ⟨g, 0, none⟩) (j + 2 + 1) cap else .slice none 0 0)) :
    SlOf w1 1 RInt vv (rvF j true).values ∧ SlOf w1 3 (RBlk w1) (.slice (some ⟨M + 1, 0, none⟩) 1 1) (rvF j true).blocks := by
  have hv : SlOf w1 1 RInt vv (rvF j true).values := own_ints _ (own_keep h.ov fun g hg h1 h2 => hk g h2 (by omega) (h.ap g hg)) (by unfold longest; omega)
  have e0 : lnXs ob (j + 2) ++ [.int .i64 0, .slice (some ⟨u, 0, none⟩) 1 1, .slice none 0 0] = (List.range (j + 2 + 1)).flatMap fun i => if i = j + 2 then [.int .i64 0, .slice (some ⟨u, 0, none⟩) 1 1, .slice none 0 0] else lnX (ob i) i := by
    rw [List.range_succ, List.flatMap_append]
    congr 1
    · unfold lnXs
      simp only [List.flatMap_def]
      congr 1
      refine List.map_congr_left fun k hk => ?_
      have : k < j + 2 := List.mem_range.1 hk
      rw [if_neg (by omega)]
    · simp
  rw [e0] at ho
  have hi0 : SlOf w1 3 (fun cs (i : Nat) => cs = if i = j + 2 then [.int .i64 0, .slice (some ⟨u, 0, none⟩) 1 1, .slice none 0 0] else lnX (ob i) i) (.slice (some ⟨g, 0, none⟩) (j + 2 + 1) cap) (List.range (j + 2 + 1)) := own_sl (k := 3) (fun i => if i = j + 2 then [.int .i64 0, .slice (some ⟨u, 0, none⟩) 1 1, .slice none 0 0] else lnX (ob i) i) (fun i => by show (if i = j + 2 then _ else _ : List Value).length = 3; split <;> rfl) (by decide) (fun _ => rfl) _ ho (by unfold longest; omega)
  have hT : ∀ i, i < j + 2 → w1.heap[ob i]? = some (.cells ((rvO i).flatMap cO).toArray 51) := fun i hi => by
    have O := h.obs i hi
    have hb := O.blk
    rw [lnB_all _ i hi] at hb
    exact (hk _ O.lt (by have := O.base; omega) O.ni).trans hb
  have hi : SlOf w1 3 (RIns w1) (.slice (some ⟨g, 0, none⟩) (j + 2 + 1) cap) ((List.range (j + 2 + 1)).map fun i => if i = j + 2 then rvL else rvI i) := hi0.mapR _ fun cs i hj e => by
    have hjl := List.mem_range.1 hj
    subst e
    by_cases e : i = j + 2
    · rw [if_pos e, if_pos e]
      refine ⟨_, _, rfl, SlOf_one [.int .i64 1, .int .i64 0, .bool false, .int .i64 1, .int .i64 0] rfl rfl ?_, SlOf_nil _ _ _ _ _⟩
      intro q hq
      rw [Nat.zero_add]
      have : q < 5 := by simpa using hq
      simp only [World.cell?, hu]
      match q, this with | 0, _ => rfl | 1, _ => rfl | 2, _ => rfl | 3, _ => rfl | 4, _ => rfl
    · rw [if_neg e, if_neg e]
      have hil : i < j + 2 := by omega
      have hlen : (lnO i).length ≤ 2 := by unfold lnO; split <;> simp
      have hl : (rvO i).length = (lnO i).length := by rw [← lnB_all (j + 2) i hil, lnB_len]
      exact ⟨_, _, rfl, SlOf_blk cO (fun _ => rfl) (fun _ => rfl) (rvO i) (hT i hil) hl (by unfold longest; omega), SlOf_nil _ _ _ _ _⟩
  have e1 : ((List.range (j + 2 + 1)).map fun i => if i = j + 2 then rvL else rvI i) = (rvB j true).instrs := by
    show _ = (List.range (j + 2)).map rvI ++ [rvL]
    rw [List.range_succ, List.map_append]
    congr 1
    · refine List.map_congr_left fun k hk => ?_
      have : k < j + 2 := List.mem_range.1 hk
      rw [if_neg (by omega)]
    · simp
  rw [e1] at hi
  refine ⟨hv, SlOf_one [.slice none 0 0, .slice (some ⟨g, 0, none⟩) (j + 2 + 1) cap, .slice none 0 0] rfl ⟨_, _, _, rfl, SlOf_nil _ _ _ _ _, hi, SlOf_nil _ _ _ _ _⟩ (cells3 ?_ ?_ ?_)⟩
  · exact hr.cell (i := 0) (by omega)
  · exact hr.cell (i := 1) (by omega)
  · exact hr.cell (i := 2) (by omega)
end Go.Proofs.Ytdlnofjmonpmgaa
