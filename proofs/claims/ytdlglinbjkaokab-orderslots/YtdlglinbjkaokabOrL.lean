/-
  The contract of 'work.turn': the moves of a ring, one by one.
-/
import Derived.Test.YtdlglinbjkaokabOrI
import Derived.Test.YtdlglinbjkaokabOrK
namespace Go.Proofs.Ytdlglinbjkaokab
open Go.RowKit Go.Lib
set_option linter.unusedVariables false

theorem execO_slice {P : Program} {o : Oper} {a : Act} {w : World} (x : Operand) (t : TypeId) (lo hi mx : Option Operand) (ho : o.op = .slice t x lo hi mx) {e : TypeId} (ht : P.underlying t = some (.slice e)) {v1 v : Value} {vl vh vm : Option Value} (h1 : a.eval x = v1) (h2 : lo.map a.eval = vl) (h3 : hi.map a.eval = vh) (h4 : mx.map a.eval = vm) (hr : (Instr.slice t v1 vl vh vm).run P w = .ok v w) : (execOp a.eval o).run P w = .ok (.value v) w := by
  subst h2
  subst h3
  subst h4
  unfold execOp
  simp [ho, h1, hr, Instr.sliceAt, run_underlying ht, Result.andThen]
theorem size_mv (w : World) : (Go.sizeOf 29).run Try.prog w = .ok 6 w := by kernel_rfl
def dropA (g c i : Nat) : Option Addr := if c = i + 1 then some ⟨g, 0, none⟩ else some ⟨g, (i + 1) * 6, none⟩
theorem slice_drop (g n c i : Nat) (w : World) (h : i + 1 ≤ n) (hc : n ≤ c) : (Instr.slice 23 (.slice (some ⟨g, 0, none⟩) n c) (some (.int .i64 ((i : Int) + 1))) none none).run Try.prog w = .ok (.slice (dropA g c i) (n - (i + 1)) (c - (i + 1))) w := by
  have e : ((i : Int) + 1).toNat = i + 1 := by omega
  have hb : (0 : Int) ≤ (i : Int) + 1 ∧ (i : Int) + 1 ≤ (n : Int) := by omega
  unfold Instr.slice Instr.sliceBounds
  simp [run_underlying Try.underlying23, Instr.sliceBound, asIntOf, hb, e, Result.andThen]
  unfold dropA
  split <;> simp [addO]
theorem slice_take (g n c i : Nat) (w : World) (h : i ≤ c) : (Instr.slice 23 (.slice (some ⟨g, 0, none⟩) n c) none (some (.int .i64 (i : Int))) none).run Try.prog w = .ok (.slice (some ⟨g, 0, none⟩) i c) w := by
  have hb : (i : Int) ≤ (c : Int) := by omega
  unfold Instr.slice Instr.sliceBounds
  simp [run_underlying Try.underlying23, Instr.sliceBound, asIntOf, h, Result.andThen]
  simp [addO]
theorem mvs_drop {w : World} {g n c i : Nat} {l : List Mv} (h : SlOf w 6 RMv (.slice (some ⟨g, 0, none⟩) n c) l) (hn : l.length = n) (hi : i + 1 ≤ n) (hc : n ≤ c) : SlOf w 6 RMv (.slice (dropA g c i) (n - (i + 1)) (c - (i + 1))) (l.drop (i + 1)) := by
  obtain ⟨a0, c0, hv, hlg, h⟩ := h
  simp only [Value.slice.injEq] at hv
  obtain ⟨rfl, _, rfl⟩ := hv
  have hl : (l.drop (i + 1)).length = n - (i + 1) := by simp [hn]
  refine ⟨_, _, by rw [hl], by rw [hl]; omega, ?_⟩
  by_cases e : c = i + 1
  · left
    exact List.length_eq_zero_iff.1 (by rw [hl]; omega)
  · rcases h with rfl | ⟨b, off, ha, h⟩
    · exact Or.inl (by simp)
    · right
      simp only [Option.some.injEq, Addr.mk.injEq, and_true] at ha
      obtain ⟨rfl, rfl⟩ := ha
      refine ⟨g, (i + 1) * 6, by unfold dropA; rw [if_neg e], fun k hk => ?_⟩
      rw [hl] at hk
      obtain ⟨cs, h1, h2, h3⟩ := h (i + 1 + k) (by omega)
      refine ⟨cs, h1, by simpa using h2, fun j hj => ?_⟩
      have h4 := h3 j hj
      have e2 : 0 + (i + 1 + k) * 6 + j = (i + 1) * 6 + k * 6 + j := by omega
      rw [e2] at h4
      exact h4
theorem mvs_take {w : World} {g n c i : Nat} {l : List Mv} (h : SlOf w 6 RMv (.slice (some ⟨g, 0, none⟩) n c) l) (hn : l.length = n) (hi : i ≤ n) : SlOf w 6 RMv (.slice (some ⟨g, 0, none⟩) i c) (l.take i) := by
  obtain ⟨a0, c0, hv, hlg, h⟩ := h
  simp only [Value.slice.injEq] at hv
  obtain ⟨rfl, _, rfl⟩ := hv
  have hl : (l.take i).length = i := by simp; omega
  refine ⟨_, _, by rw [hl], by rw [hl]; omega, ?_⟩
  rcases h with rfl | ⟨b, off, ha, h⟩
  · exact Or.inl (by simp)
  · refine Or.inr ⟨b, off, ha, fun k hk => ?_⟩
    rw [hl] at hk
    obtain ⟨cs, h1, h2, h3⟩ := h k (by omega)
    exact ⟨cs, h1, by simpa using h2, h3⟩
/-- While the moves of a ring are done. -/
structure TuI (X bc bl br B : Nat) (r0 r1 fr : Int) (nC : Nat) (fC : Pl → Option Value) (nL nR : Nat) (left : Pl → Option Pl) (rd : Pl → Int) (w0 : World) (vd0 : Value) (done : List Mv) (w : World) : Prop where
  ex : ∃ vd, WoS X bc bl br B r0 r1 fr nC fC nL nR left rd vd done w ∧ Kq X bl br vd0 vd w0 w
set_option maxHeartbeats 16000000 in
theorem turn_any {X bc bl br B : Nat} {r0 r1 fr : Int} {nC : Nat} {fC : Pl → Option Value} {nL nR : Nat} {left : Pl → Option Pl} {rd : Pl → Int} {vd : Value} {done : List Mv} {w : World} (cl : Pl → Int) (ring : List Mv) (vr : Value) (Bq : Nat) (k : WoS X bc bl br B r0 r1 fr nC fC nL nR left rd vd done w) (hown : w.ownsRow Bq 29 6 vr ring.length (ring.flatMap cMv)) (hBq : B ≤ Bq) (hvv : ∀ g, vr.ownBlock = some g → vd.ownBlock ≠ some g) (hne : ring ≠ []) (hl5 : ring.length ≤ 5000) (hd5 : done.length ≤ 50000) (hR : ∀ m ∈ ring, PlWf m.dst ∧ (cl m.dst = 0 ∨ cl m.dst = 1) ∧ fC m.dst = some (.int .i64 (cl m.dst))) :
    Calls Try.prog 21 #[.pointer (some ⟨X, 0, none⟩), vr] w fun e w' => e = .returned (.tuple #[]) ∧ ∃ (l1 l2 : List Mv) (x0 : Mv) (aside : Pl) (vd' : Value), ring = l1 ++ x0 :: l2 ∧ AsideP r0 r1 fr cl x0 (l2 ++ l1) aside ∧ WoS X bc bl br B r0 r1 fr nC fC nL nR left rd vd' (done ++ stepsOf (regsR r0 r1) (cl x0.dst) ⟨x0.src, aside⟩ ++ ((l2 ++ l1).flatMap fun y => stepsOf (regsR r0 r1) (cl y.dst) y) ++ stepsOf (regsR r0 r1) (cl x0.dst) ⟨aside, x0.dst⟩) w' ∧ Kq X bl br vd vd' w w' := by
  obtain ⟨g, c, hvr, hgB, hnc⟩ : ∃ g c, vr = .slice (some ⟨g, 0, none⟩) ring.length c ∧ Bq ≤ g ∧ ring.length ≤ c := by
    rcases hown.2 with ⟨_, h⟩ | ⟨g, cap, cur, h1, h2, _, h3, _⟩
    · exact absurd (List.length_eq_zero_iff.1 h) hne
    · exact ⟨g, cap, h1, h2, h3⟩
  have hsl : SlOf w 6 RMv vr ring := own_sl cMv (fun _ => rfl) (by decide) (fun _ => rfl) ring hown (by unfold longest; omega)
  have HPT := parting_any cl ring vr k hsl hne hl5 hR
  subst hvr
  obtain ⟨n, hn⟩ : ∃ n, ring.length = n := ⟨_, rfl⟩
  rw [hn] at hsl hown hnc HPT hvv ⊢
  have hgw : g < w.heap.size := by
    have := own_base hown (g := g) rfl
    exact this.2
  have hvg : vd.ownBlock ≠ some g := hvv g rfl
  have lt1 := k.l1
  have lt2 := k.l2
  have lt3 := k.l3
  have lt4 := k.l4
  have HK : Hid (WoS X bc bl br B r0 r1 fr nC fC nL nR left rd vd done w) := k
  have HL : Hid (SlOf w 6 RMv (.slice (some ⟨g, 0, none⟩) n c) ring ∧ ring.length = n ∧ ∀ m ∈ ring, PlWf m.dst ∧ (cl m.dst = 0 ∨ cl m.dst = 1) ∧ fC m.dst = some (.int .i64 (cl m.dst))) := ⟨hsl, hn, hR⟩
  have hn5 : n ≤ 5000 := by omega
  clear hown hvv hne hl5 hR hsl hn k
  go_enter Try.func21, Try.ntmps21
  go_wp2_with fail
  refine HPT.mono ?_
  clear HPT
  rintro e w1 ⟨hb1, i, aside, x0, rfl, hx0, ha0⟩
  --CUT1
  obtain ⟨hi, hxe⟩ := List.getElem?_eq_some_iff.1 hx0
  have hin : i < n := by have := HL.out.2.1; omega
  obtain ⟨hwx, hcx, hfx⟩ := HL.out.2.2 x0 (by rw [← hxe]; exact List.getElem_mem hi)
  obtain ⟨cc, hcc⟩ : ∃ cc, cl x0.dst = cc := ⟨_, rfl⟩
  have HA : Hid (AsideP r0 r1 fr cl x0 (ring.drop (i + 1) ++ ring.take i) aside ∧ ring = ring.take i ++ x0 :: ring.drop (i + 1) ∧ cl x0.dst = cc) := by
    refine ⟨ha0, ?_, hcc⟩
    rw [← hxe, ← List.drop_eq_getElem_cons hi, List.take_append_drop]
  rw [hcc] at hcx hfx
  obtain ⟨A, hA⟩ : ∃ A, w1.heap.size = A := ⟨_, rfl⟩
  obtain ⟨M, hM⟩ : ∃ M, A + 1 = M := ⟨_, rfl⟩
  obtain ⟨W2, hW2⟩ : ∃ W2, W2 = (w1.alloc (.cells #[.int .i64 aside.kind, .int .i64 aside.cls, .int .i64 aside.n] 26)).alloc (.cells #[.int .i64 x0.src.kind, .int .i64 x0.src.cls, .int .i64 x0.src.n, .int .i64 x0.dst.kind, .int .i64 x0.dst.cls, .int .i64 x0.dst.n] 29) := ⟨_, rfl⟩
  have hb2 : Below w1.heap.size w1 W2 := by rw [hW2]; exact ((Below.refl _ _).alloc (Nat.le_refl _) _).alloc (by simp) _
  obtain ⟨t0, t1⟩ := twoO w1 #[.int .i64 aside.kind, .int .i64 aside.cls, .int .i64 aside.n] #[.int .i64 x0.src.kind, .int .i64 x0.src.cls, .int .i64 x0.src.n, .int .i64 x0.dst.kind, .int .i64 x0.dst.cls, .int .i64 x0.dst.n] 26 29
  rw [← hW2, hA] at t0 t1
  rw [hM] at t1
  have zM : W2.heap.size = M + 1 := by rw [hW2, ← hM, ← hA]; simp
  obtain ⟨b8, off8, hg8, hb8, e0, e1, e2, e3, e4, e5⟩ := mv_at HL.out.1 i hi
  rw [hxe] at e0 e1 e2 e3 e4 e5
  simp only [Option.some.injEq, Addr.mk.injEq, and_true] at hg8
  obtain ⟨hg8a, hg8b⟩ := hg8
  subst hg8a
  subst hg8b
  rw [Nat.zero_add] at e0 e1 e2 e3 e4 e5
  replace e0 := (hb1.cell (p := ⟨g, _, none⟩) hb8).trans e0
  replace e1 := (hb1.cell (p := ⟨g, _, none⟩) hb8).trans e1
  replace e2 := (hb1.cell (p := ⟨g, _, none⟩) hb8).trans e2
  replace e3 := (hb1.cell (p := ⟨g, _, none⟩) hb8).trans e3
  replace e4 := (hb1.cell (p := ⟨g, _, none⟩) hb8).trans e4
  replace e5 := (hb1.cell (p := ⟨g, _, none⟩) hb8).trans e5
  have hlow2 : Below w.heap.size w W2 := hb1.trans (hb2.mono hb1.size)
  have k2 := HK.out.below hlow2
  have hz1 := hb1.size
  have HW2 : Hid (W2 = (w1.alloc (.cells #[.int .i64 aside.kind, .int .i64 aside.cls, .int .i64 aside.n] 26)).alloc (.cells #[.int .i64 x0.src.kind, .int .i64 x0.src.cls, .int .i64 x0.src.n, .int .i64 x0.dst.kind, .int .i64 x0.dst.cls, .int .i64 x0.dst.n] 29)) := hW2
  have HAM : Hid (w1.heap.size = A ∧ A + 1 = M) := ⟨hA, hM⟩
  have hlk := (k2.below ((Below.refl W2.heap.size W2).drew)).mc.look Try.underlying40 (zeroI W2.drew) hwx
  rw [hfx] at hlk
  have kx3 : W2.cell? ⟨X, 3, none⟩ = some (.map (some bc)) := k2.bx.cell (i := 3) (by omega)
  have a0' : W2.cell? ⟨A, 0, none⟩ = some (.int .i64 aside.kind) := t0 0
  have a1' : W2.cell? ⟨A, 1, none⟩ = some (.int .i64 aside.cls) := t0 1
  have a2' : W2.cell? ⟨A, 2, none⟩ = some (.int .i64 aside.n) := t0 2
  have m0 : W2.cell? ⟨M, 0, none⟩ = some (.int .i64 x0.src.kind) := t1 0
  have m1 : W2.cell? ⟨M, 1, none⟩ = some (.int .i64 x0.src.cls) := t1 1
  have m2 : W2.cell? ⟨M, 2, none⟩ = some (.int .i64 x0.src.n) := t1 2
  have m3 : W2.cell? ⟨M, 3, none⟩ = some (.int .i64 x0.dst.kind) := t1 3
  have m4 : W2.cell? ⟨M, 4, none⟩ = some (.int .i64 x0.dst.cls) := t1 4
  have m5 : W2.cell? ⟨M, 5, none⟩ = some (.int .i64 x0.dst.n) := t1 5
  have HS2 : Hid ((fun w' => w'.cell? ⟨X, 3, none⟩ = some (.map (some bc)) ∧ w'.cell? ⟨M, 0, none⟩ = some (.int .i64 x0.src.kind) ∧ w'.cell? ⟨M, 1, none⟩ = some (.int .i64 x0.src.cls) ∧ w'.cell? ⟨M, 2, none⟩ = some (.int .i64 x0.src.n) ∧ w'.cell? ⟨M, 3, none⟩ = some (.int .i64 x0.dst.kind) ∧ w'.cell? ⟨M, 4, none⟩ = some (.int .i64 x0.dst.cls) ∧ w'.cell? ⟨M, 5, none⟩ = some (.int .i64 x0.dst.n) ∧ (Instr.lookup 40 (.map (some bc)) (.agg #[.int .i64 x0.dst.kind, .int .i64 x0.dst.cls, .int .i64 x0.dst.n]) false).run Try.prog w' = .ok (.int .i64 cc) w') W2.drew) := ⟨kx3, m0, m1, m2, m3, m4, m5, hlk⟩
  have hg1 : g < w1.heap.size := by omega
  clear hW2 hA hM t0 t1 hb2 hlk hcc ha0
  go_upto_region 2 with fail
  rw [← HW2.out, HAM.out.1, HAM.out.2]
  clear HW2 e0 e1 e2 e3 e4 e5
  --CUT2
  refine wp_region_X (fun w' => w'.cell? ⟨X, 3, none⟩ = some (.map (some bc)) ∧ w'.cell? ⟨M, 0, none⟩ = some (.int .i64 x0.src.kind) ∧ w'.cell? ⟨M, 1, none⟩ = some (.int .i64 x0.src.cls) ∧ w'.cell? ⟨M, 2, none⟩ = some (.int .i64 x0.src.n) ∧ w'.cell? ⟨M, 3, none⟩ = some (.int .i64 x0.dst.kind) ∧ w'.cell? ⟨M, 4, none⟩ = some (.int .i64 x0.dst.cls) ∧ w'.cell? ⟨M, 5, none⟩ = some (.int .i64 x0.dst.n) ∧ (Instr.lookup 40 (.map (some bc)) (.agg #[.int .i64 x0.dst.kind, .int .i64 x0.dst.cls, .int .i64 x0.dst.n]) false).run Try.prog w' = .ok (.int .i64 cc) w') 99 (by kernel_rfl) HS2.out (fun hHeld => ?_)
  refine wpXt (v := ?_) 0 rfl (by kernel_rfl) (fun _ _ _ h => h) (by rfl) ?_ hHeld ?_
  rotate_left
  · intro w' hSw
    go_simp <;> with_reducible rfl
  try simp only [Act.put, List.setIfInBounds_toArray, List.set_cons_zero, List.set_cons_succ]
  refine wpXt (v := ?_) 1 rfl (by kernel_rfl) (fun _ _ _ h => h) (by rfl) ?_ hHeld ?_
  rotate_left
  · intro w' hSw
    go_simp <;> with_reducible rfl
  try simp only [Act.put, List.setIfInBounds_toArray, List.set_cons_zero, List.set_cons_succ]
  refine wpXt (v := ?_) 2 rfl (by kernel_rfl) (fun _ _ _ h => h) (by rfl) ?_ hHeld ?_
  rotate_left
  · intro w' hSw
    go_simp <;> with_reducible rfl
  try simp only [Act.put, List.setIfInBounds_toArray, List.set_cons_zero, List.set_cons_succ]
  refine wpXt (v := ?_) 3 rfl (by kernel_rfl) (fun _ _ _ h => h) (by rfl) ?_ hHeld ?_
  rotate_left
  · intro w' hSw
    go_simp <;> with_reducible rfl
  try simp only [Act.put, List.setIfInBounds_toArray, List.set_cons_zero, List.set_cons_succ]
  refine wpXt (v := ?_) 4 rfl (by kernel_rfl) (fun _ _ _ h => h) (by rfl) ?_ hHeld ?_
  rotate_left
  · intro w' hSw
    go_simp <;> with_reducible rfl
  try simp only [Act.put, List.setIfInBounds_toArray, List.set_cons_zero, List.set_cons_succ]
  refine wpXt (v := ?_) 5 rfl (by kernel_rfl) (fun _ _ _ h => h) (by rfl) ?_ hHeld ?_
  rotate_left
  · intro w' hSw
    go_simp <;> with_reducible rfl
  try simp only [Act.put, List.setIfInBounds_toArray, List.set_cons_zero, List.set_cons_succ]
  refine wpXt (v := .int .i64 cc) 6 rfl (by kernel_rfl) (fun _ _ _ h => h) (by rfl) ?_ hHeld ?_
  · intro w' hSw
    exact execO_lookup _ _ _ _ rfl rfl rfl hSw.2.2.2.2.2.2.2
  try simp only [Act.put, List.setIfInBounds_toArray, List.set_cons_zero, List.set_cons_succ]
  refine wpXt (v := ?_) 7 rfl (by kernel_rfl) (fun _ _ _ h => h) (by rfl) ?_ hHeld ?_
  rotate_left
  · intro w' hSw
    go_simp <;> with_reducible rfl
  try simp only [Act.put, List.setIfInBounds_toArray, List.set_cons_zero, List.set_cons_succ]
  refine wpAnyX_done (by kernel_rfl) ?_ _
  have k2d := k2.below ((Below.refl W2.heap.size W2).drew)
  have HMV := move_any k2d x0.src aside cc hcx (by omega)
  --CUT3
  go_wp2_with fail
  refine HMV.mono ?_
  clear HMV
  rintro e w3 ⟨rfl, vd3, k3, q3⟩
  --CUT4
  have hvA : vd.ownBlock ≠ some A := HK.out.noff (by have := HAM.out; omega)
  have hvM : vd.ownBlock ≠ some M := HK.out.noff (by have := HAM.out; omega)
  have hBA : B ≤ w.heap.size := HK.out.lB
  have hAw : w.heap.size ≤ A := by have := HAM.out; omega
  have hMA1 : A < M := by have := HAM.out; omega
  have hMA2 : M ≤ A + 1 := by have := HAM.out; omega
  have keep3 : ∀ x, x < W2.heap.size → x ≠ X → x ≠ bl → x ≠ br → vd.ownBlock ≠ some x → w3.heap[x]? = W2.heap[x]? := fun x h1 h2 h3 h4 h5 => q3.block x h1 h2 h3 h4 h5
  have kpA := keep3 A (by omega) (by omega) (by omega) (by omega) hvA
  have kpM := keep3 M (by omega) (by omega) (by omega) (by omega) hvM
  have kpg := keep3 g (by have := hlow2.size; omega) (by omega) (by omega) (by omega) hvg
  have hvA3 := q3.off (Z := A) (by show A < W2.heap.size; omega) hvA
  have hvM3 := q3.off (Z := M) (by show M < W2.heap.size; omega) hvM
  have hsl3 : SlOf w3 6 RMv (.slice (some ⟨g, 0, none⟩) n c) ring := by
    have h2 : SlOf W2 6 RMv (.slice (some ⟨g, 0, none⟩) n c) ring := HL.out.1.below hlow2 fun _ _ h => h
    obtain ⟨a9, c9, hv9, hlg9, h9⟩ := h2
    refine ⟨a9, c9, hv9, hlg9, h9.imp id ?_⟩
    rintro ⟨b, off, ha, h⟩
    refine ⟨b, off, ha, fun q hq => ?_⟩
    obtain ⟨cs, h1, h2, h3⟩ := h q hq
    have hbg : b = g := by
      simp only [Value.slice.injEq] at hv9
      rw [← hv9.1] at ha
      simp at ha
      exact ha.1.symm
    subst hbg
    exact ⟨cs, h1, h2, fun j hj => (World.cell?_of_block (a := ⟨b, off + q * 6 + j, none⟩) kpg).trans (h3 j hj)⟩
  have hd3 : Below w3.heap.size w3 w3.drew := (Below.refl _ _).drew
  have hwi : IntKind.i64.wrap ((i : Int) + 1) = (i : Int) + 1 := by rw [IntKind.wrap_i64]; omega
  have hs1 := slice_drop g n c i
  have hs2 := slice_take g n c i
  have hl2 := mvs_drop hsl3 HL.out.2.1 (show i + 1 ≤ n by omega) hnc
  have hl1 := mvs_take hsl3 HL.out.2.1 (show i ≤ n by omega)
  have le2 : (ring.drop (i + 1)).length = n - (i + 1) := by rw [List.length_drop, HL.out.2.1]
  have le1 : (ring.take i).length = i := by rw [List.length_take, HL.out.2.1]; omega
  obtain ⟨G, hG⟩ : ∃ G, w3.heap.size = G := ⟨_, rfl⟩
  obtain ⟨W4, hW4⟩ : ∃ W4, W4 = (w3.alloc (.cells #[.slice (dropA g c i) (n - (i + 1)) (c - (i + 1)), .slice (some ⟨g, 0, none⟩) i c] 23)).drew := ⟨_, rfl⟩
  have hb4 : Below w3.heap.size w3 W4 := by rw [hW4]; exact ((Below.refl _ _).alloc (Nat.le_refl _) _).drew
  have t4 := topO w3 #[.slice (dropA g c i) (n - (i + 1)) (c - (i + 1)), .slice (some ⟨g, 0, none⟩) i c] 23
  have t40 : W4.cell? ⟨G, 0, none⟩ = some (.slice (dropA g c i) (n - (i + 1)) (c - (i + 1))) := by rw [hW4, ← hG]; exact t4 0
  have t41 : W4.cell? ⟨G, 1, none⟩ = some (.slice (some ⟨g, 0, none⟩) i c) := by rw [hW4, ← hG]; exact t4 1
  have HCC := concat_any G (dropA g c i) (some ⟨g, 0, none⟩) (n - (i + 1)) i (c - (i + 1)) c (ring.drop (i + 1)) (ring.take i) W4 (hl2.below hb4 fun _ _ h => h) (hl1.below hb4 fun _ _ h => h) le2 le1 (by omega) (by omega) t40 t41
  have HW4 : Hid (W4 = (w3.alloc (.cells #[.slice (dropA g c i) (n - (i + 1)) (c - (i + 1)), .slice (some ⟨g, 0, none⟩) i c] 23)).drew) := hW4
  have HGG : Hid (w3.heap.size = G) := hG
  have k4 := k3.below hb4
  have hnr : n - (i + 1) + i = n - 1 := by omega
  rw [hnr] at HCC
  have hsA := kpA
  clear hl1 hl2 t4 hW4 hsl3
  go_upto_region 4 with fail
  --CUT5
  refine wp_region_X (fun _ => True) 99 (by kernel_rfl) trivial (fun hHeld => ?_)
  refine wpXt (v := ?_) 0 rfl (by kernel_rfl) (fun _ _ _ h => h) (by rfl) ?_ hHeld ?_
  rotate_left
  · intro w' hSw
    go_simp <;> with_reducible rfl
  try simp only [Act.put, List.setIfInBounds_toArray, List.set_cons_zero, List.set_cons_succ]
  refine wpXt (v := ?_) 1 rfl (by kernel_rfl) (fun _ _ _ h => h) (by rfl) ?_ hHeld ?_
  rotate_left
  · intro w' hSw
    go_simp <;> with_reducible rfl
  try simp only [Act.put, List.setIfInBounds_toArray, List.set_cons_zero, List.set_cons_succ]
  refine wpXt (v := ?_) 2 rfl (by kernel_rfl) (fun _ _ _ h => h) (by rfl) ?_ hHeld ?_
  rotate_left
  · intro w' hSw
    go_simp <;> with_reducible rfl
  try simp only [Act.put, List.setIfInBounds_toArray, List.set_cons_zero, List.set_cons_succ]
  refine wpXt (v := .slice (dropA g c i) (n - (i + 1)) (c - (i + 1))) 3 rfl (by kernel_rfl) (fun _ _ _ h => h) (by rfl) ?_ hHeld ?_
  · intro w' hSw
    exact execO_slice (v1 := .slice (some ⟨g, 0, none⟩) n c) (vl := some (.int .i64 ((i : Int) + 1))) (vh := none) (vm := none) _ _ _ _ _ rfl Try.underlying23 rfl rfl rfl rfl (hs1 w' (by omega) hnc)
  try simp only [Act.put, List.setIfInBounds_toArray, List.set_cons_zero, List.set_cons_succ]
  refine wpXt (v := ?_) 4 rfl (by kernel_rfl) (fun _ _ _ h => h) (by rfl) ?_ hHeld ?_
  rotate_left
  · intro w' hSw
    go_simp <;> with_reducible rfl
  try simp only [Act.put, List.setIfInBounds_toArray, List.set_cons_zero, List.set_cons_succ]
  refine wpXt (v := ?_) 5 rfl (by kernel_rfl) (fun _ _ _ h => h) (by rfl) ?_ hHeld ?_
  rotate_left
  · intro w' hSw
    go_simp <;> with_reducible rfl
  try simp only [Act.put, List.setIfInBounds_toArray, List.set_cons_zero, List.set_cons_succ]
  refine wpXt (v := .slice (some ⟨g, 0, none⟩) i c) 6 rfl (by kernel_rfl) (fun _ _ _ h => h) (by rfl) ?_ hHeld ?_
  · intro w' hSw
    exact execO_slice (v1 := .slice (some ⟨g, 0, none⟩) n c) (vl := none) (vh := some (.int .i64 (i : Int))) (vm := none) _ _ _ _ _ rfl Try.underlying23 rfl rfl rfl rfl (hs2 w' (by omega))
  try simp only [Act.put, List.setIfInBounds_toArray, List.set_cons_zero, List.set_cons_succ]
  refine wpXt (v := ?_) 10 rfl (by kernel_rfl) (fun _ _ _ h => h) (by rfl) ?_ hHeld ?_
  rotate_left
  · intro w' hSw
    go_simp <;> with_reducible rfl
  try simp only [Act.put, List.setIfInBounds_toArray, List.set_cons_zero, List.set_cons_succ]
  refine wpXs 7 rfl (by kernel_rfl) (fun K hK => ?_)
  go_simp
  refine hK.out _ _ trivial (fun hHeld => ?_)
  clear hK K
  try simp only [Act.put, List.setIfInBounds_toArray, List.set_cons_zero, List.set_cons_succ]
  refine wpXs 8 rfl (by kernel_rfl) (fun K hK => ?_)
  go_simp
  rw [← HW4.out]
  refine HCC.mono ?_
  clear HCC
  rintro e w5 ⟨v5, rfl, ho5, hb5⟩
  have hv5 : ∃ a5 c5, v5 = .slice a5 (n - 1) c5 := by
    rcases ho5.2 with ⟨h, h0⟩ | ⟨q, cap, cur, h, _⟩
    · exact ⟨none, 0, by rw [h, h0]⟩
    · exact ⟨_, cap, h⟩
  obtain ⟨a5, c5, rfl⟩ := hv5
  refine hK.out _ _ trivial (fun hHeld => ?_)
  clear hK K
  try simp only [Act.put, List.setIfInBounds_toArray, List.set_cons_zero, List.set_cons_succ]
  refine wpXt (v := ?_) 9 rfl (by kernel_rfl) (fun _ _ _ h => h) (by rfl) ?_ hHeld ?_
  rotate_left
  · intro w' hSw
    go_simp <;> with_reducible rfl
  try simp only [Act.put, List.setIfInBounds_toArray, List.set_cons_zero, List.set_cons_succ]
  refine wpAnyX_done (by kernel_rfl) ?_ _
  --CUT6
  obtain ⟨rest, hrest⟩ : ∃ rest, rest = ring.drop (i + 1) ++ ring.take i := ⟨_, rfl⟩
  rw [← hrest] at ho5
  have hrl : rest.length = n - 1 := by rw [hrest, List.length_append, le2, le1]; omega
  have hb35 : Below w3.heap.size w3 w5 := hb4.trans (hb5.mono hb4.size)
  have k5 := k3.below hb35
  have hz35 := hb35.size
  have lA3 : A < w3.heap.size := by have := q3.size; have : W2.drew.heap.size = W2.heap.size := rfl; omega
  have lM3 : M < w3.heap.size := by have := q3.size; have : W2.drew.heap.size = W2.heap.size := rfl; omega
  have hA5 : w5.heap[A]? = W2.heap[A]? := (hb35.block A lA3).trans kpA
  have hM5 : w5.heap[M]? = W2.heap[M]? := (hb35.block M lM3).trans kpM
  have aA0 := (World.cell?_of_block (a := ⟨A, 0, none⟩) hA5).trans a0'
  have aA1 := (World.cell?_of_block (a := ⟨A, 1, none⟩) hA5).trans a1'
  have aA2 := (World.cell?_of_block (a := ⟨A, 2, none⟩) hA5).trans a2'
  have aM3 := (World.cell?_of_block (a := ⟨M, 3, none⟩) hM5).trans m3
  have aM4 := (World.cell?_of_block (a := ⟨M, 4, none⟩) hM5).trans m4
  have aM5 := (World.cell?_of_block (a := ⟨M, 5, none⟩) hM5).trans m5
  have hslr : SlOf w5 6 RMv (.slice a5 (n - 1) c5) rest := by
    have h := ho5
    rw [← hrl] at h
    have h2 := own_sl cMv (fun _ => rfl) (by decide) (R := RMv) (fun _ => rfl) rest h (by unfold longest; omega)
    rw [← hrl]
    exact h2
  have hzW4 : w3.heap.size ≤ W4.heap.size := hb4.size
  have HQ : Hid (∀ q, (Value.slice a5 (n - 1) c5).ownBlock = some q → w3.heap.size ≤ q ∧ q < w5.heap.size) := fun q hq => by
    have := own_base ho5 hq
    omega
  have HSR : Hid (SlOf w5 6 RMv (.slice a5 (n - 1) c5) rest ∧ rest.length = n - 1 ∧ ∀ m ∈ rest, PlWf m.dst ∧ (cl m.dst = 0 ∨ cl m.dst = 1) ∧ fC m.dst = some (.int .i64 (cl m.dst))) := by
    refine ⟨hslr, hrl, fun m hm => HL.out.2.2 m ?_⟩
    rw [hrest] at hm
    rcases List.mem_append.1 hm with h | h
    · exact List.mem_of_mem_drop h
    · exact List.mem_of_mem_take h
  have HV3 : Hid (∀ q, vd3.ownBlock = some q → q < w3.heap.size) := fun q hq => (own_base k3.own hq).2
  obtain ⟨D1, hD1⟩ : ∃ D1, D1 = done ++ stepsOf (regsR r0 r1) cc ⟨x0.src, aside⟩ := ⟨_, rfl⟩
  rw [← hD1] at k3 k5
  have hD1l : D1.length ≤ 50002 := by
    have := stepsOf_len (regsR r0 r1) cc ⟨x0.src, aside⟩
    rw [hD1, List.length_append]
    omega
  have HD1 : Hid (D1 = done ++ stepsOf (regsR r0 r1) cc ⟨x0.src, aside⟩) := hD1
  have HRE : Hid (rest = ring.drop (i + 1) ++ ring.take i) := hrest
  have HQ3 : Hid (Kq X bl br vd vd3 w w5) := ((Kq.of_below hlow2).trans ((Kq.of_below ((Below.refl W2.heap.size W2).drew)).trans q3)).trans (Kq.of_below hb35)
  have HT0 : Hid (TuI X bc bl br B r0 r1 fr nC fC nL nR left rd w5 vd3 (D1 ++ (rest.take 0).flatMap fun y => stepsOf (regsR r0 r1) (cl y.dst) y) w5) := ⟨_, by simpa using k5, Kq.refl _ _ _ _ _⟩
  have HAA : Hid (w5.cell? ⟨A, 0, none⟩ = some (.int .i64 aside.kind) ∧ w5.cell? ⟨A, 1, none⟩ = some (.int .i64 aside.cls) ∧ w5.cell? ⟨A, 2, none⟩ = some (.int .i64 aside.n) ∧ w5.cell? ⟨M, 3, none⟩ = some (.int .i64 x0.dst.kind) ∧ w5.cell? ⟨M, 4, none⟩ = some (.int .i64 x0.dst.cls) ∧ w5.cell? ⟨M, 5, none⟩ = some (.int .i64 x0.dst.n)) := ⟨aA0, aA1, aA2, aM3, aM4, aM5⟩
  have hA5l : A < w5.heap.size := by omega
  have hM5l : M < w5.heap.size := by omega
  have hB3 : B ≤ w3.heap.size := k3.lB
  clear ho5 hrl hb35 k5 hA5 hM5 aA0 aA1 aA2 aM3 aM4 aM5 hslr hD1 hrest k3 q3 k4 hb5 hb4 kpA kpM kpg keep3 hs1 hs2 hHeld k2 k2d a0' a1' a2' m0 m1 m2 m3 m4 m5 kx3 t40 t41 hlow2 hsA hwi le1 le2
  go_wp2
  --CUT7
  go_loopw [43] (fun i wr => ∃ j : Nat, j ≤ n - 1 ∧ i = .int .i64 j ∧ Hid (TuI X bc bl br B r0 r1 fr nC fC nL nR left rd w5 vd3 (D1 ++ (rest.take j).flatMap fun y => stepsOf (regsR r0 r1) (cl y.dst) y) wr)) (fun i _ => n - 1 - (intOf i).toNat)
  case atStart => exact ⟨0, Nat.zero_le _, rfl, HT0⟩
  case round =>
    clear HT0
    obtain ⟨j, hj, rfl, HI⟩ := hrel
    obtain ⟨vd6, k6, q6⟩ := HI.out.ex
    have hz6 := q6.size
    by_cases hlt : j < n - 1
    · have hjl : j < rest.length := by rw [HSR.out.2.1]; exact hlt
      obtain ⟨b9, off9, ha5, hb9, e0, e1, e2, e3, e4, e5⟩ := mv_at HSR.out.1 j hjl
      have hq9 := HQ.out b9 (by rw [ha5]; rfl)
      have hv9 : vd3.ownBlock ≠ some b9 := fun e => by have := HV3.out b9 e; omega
      have kb9 := q6.block b9 hb9 (by omega) (by omega) (by omega) hv9
      replace e0 := (World.cell?_of_block (a := ⟨b9, _, none⟩) kb9).trans e0
      replace e1 := (World.cell?_of_block (a := ⟨b9, _, none⟩) kb9).trans e1
      replace e2 := (World.cell?_of_block (a := ⟨b9, _, none⟩) kb9).trans e2
      replace e3 := (World.cell?_of_block (a := ⟨b9, _, none⟩) kb9).trans e3
      replace e4 := (World.cell?_of_block (a := ⟨b9, _, none⟩) kb9).trans e4
      replace e5 := (World.cell?_of_block (a := ⟨b9, _, none⟩) kb9).trans e5
      subst ha5
      obtain ⟨y, hy⟩ : ∃ y, rest[j] = y := ⟨_, rfl⟩
      obtain ⟨hwy, hcy, hfy⟩ := HSR.out.2.2 y (by rw [← hy]; exact List.getElem_mem hjl)
      rw [hy] at e0 e1 e2 e3 e4 e5
      have HT : Hid (rest.take (j + 1) = rest.take j ++ [y]) := by show _ = _; rw [← hy]; exact List.take_succ_eq_append_getElem hjl
      obtain ⟨cy, hcye⟩ : ∃ cy, cl y.dst = cy := ⟨_, rfl⟩
      rw [hcye] at hcy hfy
      have HCY : Hid (cl y.dst = cy) := hcye
      obtain ⟨V, hV⟩ : ∃ V, wr.heap.size = V := ⟨_, rfl⟩
      obtain ⟨W7, hW7⟩ : ∃ W7, W7 = wr.alloc (.cells #[.int .i64 y.src.kind, .int .i64 y.src.cls, .int .i64 y.src.n, .int .i64 y.dst.kind, .int .i64 y.dst.cls, .int .i64 y.dst.n] 29) := ⟨_, rfl⟩
      have hb7 : Below wr.heap.size wr W7 := by rw [hW7]; exact (Below.refl _ _).alloc (Nat.le_refl _) _
      have t7 := topO wr #[.int .i64 y.src.kind, .int .i64 y.src.cls, .int .i64 y.src.n, .int .i64 y.dst.kind, .int .i64 y.dst.cls, .int .i64 y.dst.n] 29
      rw [← hW7, hV] at t7
      have k7d := k6.below (hb7.drew)
      have hlk := k7d.mc.look Try.underlying40 (zeroI W7.drew) hwy
      rw [hfy] at hlk
      have HS7 : Hid ((fun w' => w'.cell? ⟨X, 3, none⟩ = some (.map (some bc)) ∧ w'.cell? ⟨V, 0, none⟩ = some (.int .i64 y.src.kind) ∧ w'.cell? ⟨V, 1, none⟩ = some (.int .i64 y.src.cls) ∧ w'.cell? ⟨V, 2, none⟩ = some (.int .i64 y.src.n) ∧ w'.cell? ⟨V, 3, none⟩ = some (.int .i64 y.dst.kind) ∧ w'.cell? ⟨V, 4, none⟩ = some (.int .i64 y.dst.cls) ∧ w'.cell? ⟨V, 5, none⟩ = some (.int .i64 y.dst.n) ∧ (Instr.lookup 40 (.map (some bc)) (.agg #[.int .i64 y.dst.kind, .int .i64 y.dst.cls, .int .i64 y.dst.n]) false).run Try.prog w' = .ok (.int .i64 cy) w') W7.drew) := ⟨k7d.bx.cell (i := 3) (by omega), t7 0, t7 1, t7 2, t7 3, t7 4, t7 5, hlk⟩
      have hdl : (D1 ++ (rest.take j).flatMap fun y => stepsOf (regsR r0 r1) (cl y.dst) y).length ≤ 100000 := by
        have h1 := flat_len (regsR r0 r1) cl (rest.take j)
        have h2 : (rest.take j).length ≤ 5000 := by rw [List.length_take]; omega
        rw [List.length_append]
        omega
      have HMV := move_any k7d y.src y.dst cy hcy hdl
      have HW7 : Hid (W7 = wr.alloc (.cells #[.int .i64 y.src.kind, .int .i64 y.src.cls, .int .i64 y.src.n, .int .i64 y.dst.kind, .int .i64 y.dst.cls, .int .i64 y.dst.n] 29)) := hW7
      have HVV : Hid (wr.heap.size = V) := hV
      have hzV : V < W7.heap.size := by rw [hW7, ← hV]; simp
      have hV5 : w5.heap.size ≤ V := by omega
      have HQ7 : Hid (Kq X bl br vd3 vd6 w5 W7.drew) := q6.trans (Kq.of_below hb7.drew)
      have hvV : vd6.ownBlock ≠ some V := k6.noff (by omega)
      have rV : W7.drew.heap[V]? = W7.heap[V]? := rfl
      clear hW7 hV hcye hlk k6 q6 HI hb7 hy hz6
      go_upto_region 7 with fail
      rw [← HW7.out, HVV.out]
      clear HW7 e0 e1 e2 e3 e4 e5
      --CUT8
      refine wp_region_X (fun w' => w'.cell? ⟨X, 3, none⟩ = some (.map (some bc)) ∧ w'.cell? ⟨V, 0, none⟩ = some (.int .i64 y.src.kind) ∧ w'.cell? ⟨V, 1, none⟩ = some (.int .i64 y.src.cls) ∧ w'.cell? ⟨V, 2, none⟩ = some (.int .i64 y.src.n) ∧ w'.cell? ⟨V, 3, none⟩ = some (.int .i64 y.dst.kind) ∧ w'.cell? ⟨V, 4, none⟩ = some (.int .i64 y.dst.cls) ∧ w'.cell? ⟨V, 5, none⟩ = some (.int .i64 y.dst.n) ∧ (Instr.lookup 40 (.map (some bc)) (.agg #[.int .i64 y.dst.kind, .int .i64 y.dst.cls, .int .i64 y.dst.n]) false).run Try.prog w' = .ok (.int .i64 cy) w') 99 (by kernel_rfl) HS7.out (fun hHeld => ?_)
      refine wpXt (v := ?_) 0 rfl (by kernel_rfl) (fun _ _ _ h => h) (by rfl) ?_ hHeld ?_
      rotate_left
      · intro w' hSw
        go_simp <;> with_reducible rfl
      try simp only [Act.put, List.setIfInBounds_toArray, List.set_cons_zero, List.set_cons_succ]
      refine wpXt (v := ?_) 1 rfl (by kernel_rfl) (fun _ _ _ h => h) (by rfl) ?_ hHeld ?_
      rotate_left
      · intro w' hSw
        go_simp <;> with_reducible rfl
      try simp only [Act.put, List.setIfInBounds_toArray, List.set_cons_zero, List.set_cons_succ]
      refine wpXt (v := ?_) 2 rfl (by kernel_rfl) (fun _ _ _ h => h) (by rfl) ?_ hHeld ?_
      rotate_left
      · intro w' hSw
        go_simp <;> with_reducible rfl
      try simp only [Act.put, List.setIfInBounds_toArray, List.set_cons_zero, List.set_cons_succ]
      refine wpXt (v := ?_) 3 rfl (by kernel_rfl) (fun _ _ _ h => h) (by rfl) ?_ hHeld ?_
      rotate_left
      · intro w' hSw
        go_simp <;> with_reducible rfl
      try simp only [Act.put, List.setIfInBounds_toArray, List.set_cons_zero, List.set_cons_succ]
      refine wpXt (v := ?_) 4 rfl (by kernel_rfl) (fun _ _ _ h => h) (by rfl) ?_ hHeld ?_
      rotate_left
      · intro w' hSw
        go_simp <;> with_reducible rfl
      try simp only [Act.put, List.setIfInBounds_toArray, List.set_cons_zero, List.set_cons_succ]
      refine wpXt (v := ?_) 5 rfl (by kernel_rfl) (fun _ _ _ h => h) (by rfl) ?_ hHeld ?_
      rotate_left
      · intro w' hSw
        go_simp <;> with_reducible rfl
      try simp only [Act.put, List.setIfInBounds_toArray, List.set_cons_zero, List.set_cons_succ]
      refine wpXt (v := ?_) 6 rfl (by kernel_rfl) (fun _ _ _ h => h) (by rfl) ?_ hHeld ?_
      rotate_left
      · intro w' hSw
        go_simp <;> with_reducible rfl
      try simp only [Act.put, List.setIfInBounds_toArray, List.set_cons_zero, List.set_cons_succ]
      refine wpXt (v := ?_) 7 rfl (by kernel_rfl) (fun _ _ _ h => h) (by rfl) ?_ hHeld ?_
      rotate_left
      · intro w' hSw
        go_simp <;> with_reducible rfl
      try simp only [Act.put, List.setIfInBounds_toArray, List.set_cons_zero, List.set_cons_succ]
      refine wpXt (v := ?_) 8 rfl (by kernel_rfl) (fun _ _ _ h => h) (by rfl) ?_ hHeld ?_
      rotate_left
      · intro w' hSw
        go_simp <;> with_reducible rfl
      try simp only [Act.put, List.setIfInBounds_toArray, List.set_cons_zero, List.set_cons_succ]
      refine wpXt (v := ?_) 9 rfl (by kernel_rfl) (fun _ _ _ h => h) (by rfl) ?_ hHeld ?_
      rotate_left
      · intro w' hSw
        go_simp <;> with_reducible rfl
      try simp only [Act.put, List.setIfInBounds_toArray, List.set_cons_zero, List.set_cons_succ]
      refine wpXt (v := ?_) 10 rfl (by kernel_rfl) (fun _ _ _ h => h) (by rfl) ?_ hHeld ?_
      rotate_left
      · intro w' hSw
        go_simp <;> with_reducible rfl
      try simp only [Act.put, List.setIfInBounds_toArray, List.set_cons_zero, List.set_cons_succ]
      refine wpXt (v := .int .i64 cy) 11 rfl (by kernel_rfl) (fun _ _ _ h => h) (by rfl) ?_ hHeld ?_
      · intro w' hSw
        exact execO_lookup _ _ _ _ rfl rfl rfl hSw.2.2.2.2.2.2.2
      try simp only [Act.put, List.setIfInBounds_toArray, List.set_cons_zero, List.set_cons_succ]
      refine wpXs 12 rfl (by kernel_rfl) (fun K hK => ?_)
      go_simp
      refine HMV.mono ?_
      clear HMV
      rintro e w8 ⟨rfl, vd8, k8, q8⟩
      have kV8 := q8.block V (by show V < W7.heap.size; exact hzV) (by omega) (by omega) (by omega) hvV
      obtain ⟨s0, s1, s2, s3, s4, s5, s6, s7⟩ := HS7.out
      have HS8 : Hid ((fun w' => w'.cell? ⟨X, 3, none⟩ = some (.map (some bc)) ∧ w'.cell? ⟨V, 0, none⟩ = some (.int .i64 y.src.kind) ∧ w'.cell? ⟨V, 1, none⟩ = some (.int .i64 y.src.cls) ∧ w'.cell? ⟨V, 2, none⟩ = some (.int .i64 y.src.n) ∧ w'.cell? ⟨V, 3, none⟩ = some (.int .i64 y.dst.kind) ∧ w'.cell? ⟨V, 4, none⟩ = some (.int .i64 y.dst.cls) ∧ w'.cell? ⟨V, 5, none⟩ = some (.int .i64 y.dst.n) ∧ (Instr.lookup 40 (.map (some bc)) (.agg #[.int .i64 y.dst.kind, .int .i64 y.dst.cls, .int .i64 y.dst.n]) false).run Try.prog w' = .ok (.int .i64 cy) w') w8) := by
        refine ⟨k8.bx.cell (i := 3) (by omega), (World.cell?_of_block (a := ⟨V, 0, none⟩) kV8).trans s1, (World.cell?_of_block (a := ⟨V, 1, none⟩) kV8).trans s2, (World.cell?_of_block (a := ⟨V, 2, none⟩) kV8).trans s3, (World.cell?_of_block (a := ⟨V, 3, none⟩) kV8).trans s4, (World.cell?_of_block (a := ⟨V, 4, none⟩) kV8).trans s5, (World.cell?_of_block (a := ⟨V, 5, none⟩) kV8).trans s6, ?_⟩
        have h := k8.mc.look Try.underlying40 (zeroI w8) hwy
        rw [hfy] at h
        exact h
      have HE : Hid (TuI X bc bl br B r0 r1 fr nC fC nL nR left rd w5 vd3 (D1 ++ (rest.take (j + 1)).flatMap fun y => stepsOf (regsR r0 r1) (cl y.dst) y) w8) := by
        refine ⟨vd8, ?_, HQ7.out.trans q8⟩
        rw [HT.out, List.flatMap_append, ← List.append_assoc]
        have e : ([y].flatMap fun y => stepsOf (regsR r0 r1) (cl y.dst) y) = stepsOf (regsR r0 r1) cy ⟨y.src, y.dst⟩ := by
          rw [List.flatMap_cons, List.flatMap_nil, List.append_nil, HCY.out]
        rw [e]
        exact k8
      refine hK.out _ _ HS8.out (fun hHeld => ?_)
      clear hK K
      try simp only [Act.put, List.setIfInBounds_toArray, List.set_cons_zero, List.set_cons_succ]
      refine wpAnyX_done (by kernel_rfl) ?_ _
      --CUT9
      go_wp2
      exact ⟨⟨j + 1, by omega, by simp, HE.out⟩, by simp [intOf]; omega⟩
    · have hjn : j = n - 1 := by omega
      subst hjn
      have hA3 : vd3.ownBlock ≠ some A := hvA3
      have hM3 : vd3.ownBlock ≠ some M := hvM3
      have kA := q6.block A hA5l (by omega) (by omega) (by omega) hA3
      have kM := q6.block M hM5l (by omega) (by omega) (by omega) hM3
      obtain ⟨u0, u1, u2, u3, u4, u5⟩ := HAA.out
      have x0' := (World.cell?_of_block (a := ⟨A, 0, none⟩) kA).trans u0
      have x1' := (World.cell?_of_block (a := ⟨A, 1, none⟩) kA).trans u1
      have x2' := (World.cell?_of_block (a := ⟨A, 2, none⟩) kA).trans u2
      have x3' := (World.cell?_of_block (a := ⟨M, 3, none⟩) kM).trans u3
      have x4' := (World.cell?_of_block (a := ⟨M, 4, none⟩) kM).trans u4
      have x5' := (World.cell?_of_block (a := ⟨M, 5, none⟩) kM).trans u5
      have htk : rest.take (n - 1) = rest := List.take_of_length_le (by rw [HSR.out.2.1]; exact Nat.le_refl _)
      rw [htk] at k6
      have hdl : (D1 ++ rest.flatMap fun y => stepsOf (regsR r0 r1) (cl y.dst) y).length ≤ 100000 := by
        have h1 := flat_len (regsR r0 r1) cl rest
        have h2 := HSR.out.2.1
        rw [List.length_append]
        omega
      have HMV := move_any k6 aside x0.dst cc hcx hdl
      have HQ6 : Hid (Kq X bl br vd vd6 w wr) := HQ3.out.trans q6
      clear HI k6 q6 kA kM u0 u1 u2 u3 u4 u5 htk
      --CUTa
      go_wp2_with (go_at_call 20; refine HMV.mono ?_; clear HMV; rintro e w8 ⟨rfl, vd8, k8, q8⟩)
      --CUTb
      first | go_end0 | refine bodyPost_ret (results_none rfl _ _ _) rfl ?_
      refine ⟨rfl, ring.take i, ring.drop (i + 1), x0, aside, vd8, HA.out.2.1, HA.out.1, ?_, HQ6.out.trans q8⟩
      rw [HA.out.2.2, ← HD1.out, ← HRE.out]
      exact k8
end Go.Proofs.Ytdlglinbjkaokab
