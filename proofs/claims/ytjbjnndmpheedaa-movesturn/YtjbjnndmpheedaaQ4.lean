/-
  The contract of mach's 'spoils' (P5.4): what is not kept has the next junk.
-/
import Derived.Test.YtjbjnndmpheedaaQ3
namespace Go.Proofs.Ytjbjnndmpheedaa
open Go.RowKit
set_option linter.unusedVariables false

def nxJ (nj k : Nat) : Nat := if nj = 0 then k else (k + 1) % nj
/-- The next junk is laid at a place. -/
def junkAt (jl : List Int) (s : Pm) (p : Pl) : Pm := putP { s with nx := nxJ jl.length s.nx } p (jl.getD s.nx 0)
def spoilD (jl : List Int) (s : Pm) (x : Opr × Pl) : Pm := if x.1.kind = 2 ∧ x.1.late = false then junkAt jl s x.2 else s
def spoilR (jl : List Int) (s : Pm) (r : Rg) : Pm := junkAt jl s ⟨1, r.cls, r.n⟩
/-- The junk: where its list lies, and that the next one is one of it. -/
structure JkS (wb : World) (h : Nat → Value) (aj : Option Addr) (nj cj : Nat) (jl : List Int) : Prop where
  h29 : h 29 = .slice aj nj cj
  sl : SlOf wb 1 RInt (.slice aj nj cj) jl
  len : jl.length = nj
  few : nj ≤ 64
def NxOk (jl : List Int) (s : Pm) : Prop := jl.length = 0 ∨ s.nx < jl.length
theorem putP_nx (s : Pm) (p : Pl) (v : Int) : (putP s p v).nx = s.nx := by unfold putP; split <;> rfl
theorem nx_next {jl : List Int} {s : Pm} (h : NxOk jl s) (p : Pl) : NxOk jl (junkAt jl s p) := by
  unfold NxOk junkAt
  rw [putP_nx]
  unfold nxJ
  rcases h with h | h
  · exact Or.inl h
  · right
    rw [if_neg (by omega)]
    exact Nat.mod_lt _ (by omega)
theorem nx_spoilD {jl : List Int} {s : Pm} (h : NxOk jl s) (x : Opr × Pl) : NxOk jl (spoilD jl s x) := by
  unfold spoilD
  split
  · exact nx_next h _
  · exact h
theorem mjunk_any {wb : World} {X G fr nj cj : Nat} {h : Nat → Value} {s : Pm} {left : Int} {ve : Value} {aj : Option Addr} {jl : List Int} {w : World} (k : MwS wb X G fr h s left ve w) (hj : JkS wb h aj nj cj jl) (hn : NxOk jl s) :
    Calls Try.prog 41 #[.pointer (some ⟨X, 6, none⟩)] w fun e w' => e = .returned (.int .i64 (jl.getD s.nx 0)) ∧ MwS wb X G fr h { s with nx := nxJ jl.length s.nx } left ve w' ∧ Kp X G w w' := by
  have f29 : mwF h s left ve (6 + 23) = .slice aj nj cj := by
    unfold mwF
    rw [if_neg (by omega), if_neg (by omega), if_neg (by omega), if_neg (by omega), hj.h29]
  have f30 : mwF h s left ve (6 + 24) = .int .i64 (s.nx : Int) := by
    unfold mwF
    rw [if_neg (by omega), if_neg (by omega), if_pos (by omega)]
  have hn' : nj = 0 ∨ s.nx < nj := by have := hj.len; unfold NxOk at hn; omega
  refine (nextJunk_any X 6 s.nx nj cj 88 32 aj jl _ w k.bx (by omega) f29 f30 (hj.sl.below k.low fun _ _ h => h) hj.len hn' hj.few).mono ?_
  rintro e w' ⟨rfl, hr, hg⟩
  refine ⟨rfl, ⟨hr.congr fun i hi => ?_, k.sl.of_block (hg.block _ k.sl.lt (fun e => k.xg (by simpa using e.symm))), k.h28, k.low.trans (mg_low hg k.low.size k.hX), k.hX, k.hG, k.xg⟩, ⟨hg.size, fun q h1 h2 _ => hg.block q h1 (fun e => h2 (by simpa using e))⟩⟩
  unfold mwF nxJ
  rw [hj.len]
  by_cases e : i = 30
  · subst e
    simp
  · by_cases e5 : i = 5
    · subst e5
      simp
    · by_cases e6 : 6 ≤ i ∧ i < 28
      · simp [e, e5, e6]
      · simp [e, e5, e6]
theorem rg_at {w : World} {a : Option Addr} {n c : Nat} {l : List Rg} (h : SlOf w 2 RRg (.slice a n c) l) (i : Nat) (hi : i < l.length) : ∃ b off, a = some ⟨b, off, none⟩ ∧ b < w.heap.size ∧ w.cell? ⟨b, off + i * 2, none⟩ = some (.int .i64 l[i].cls) ∧ w.cell? ⟨b, off + i * 2 + 1, none⟩ = some (.int .i64 l[i].n) := by
  obtain ⟨b, off, cs, h1, h2, h3, h4⟩ := h.at i hi
  unfold RRg at h3
  subst h3
  have c0 := h4 0 (by simp)
  have c1 := h4 1 (by simp)
  exact ⟨b, off, h1, block_lt c0, c0, c1⟩

set_option maxRecDepth 4000 in
set_option maxHeartbeats 8000000 in
theorem mspoils_any (wb : World) (X G fr : Nat) (h : Nat → Value) (s0 : Pm) (left : Int) (ve : Value) (op : Int) (ao ap asp : Option Addr) (no co cp nsp csp : Nat) (os : List Opr) (ps : List Pl) (w : World) (k0 : MwS wb X G fr h s0 left ve w) (hfr : fr ≤ 1000) (hos : SlOf wb 5 ROpr (.slice ao no co) os) (hon : os.length = no) (hps : SlOf wb 3 RPl (.slice ap no cp) ps) (hpn : ps.length = no) (hno : no ≤ 1000) (hok : ∀ p ∈ ps, PlOk fr p) (aj : Option Addr) (nj cj : Nat) (jl : List Int) (sp : List Rg) (hj : JkS wb h aj nj cj jl) (hnx : NxOk jl s0) (hsp : SlOf wb 2 RRg (.slice asp nsp csp) sp) (hsn : sp.length = nsp) (hsf : ∀ r ∈ sp, (r.cls = 0 ∨ r.cls = 1) ∧ 0 ≤ r.n ∧ r.n < 11) :
    Calls Try.prog 64 #[.pointer (some ⟨X, 0, none⟩), .agg #[.int .i64 op, .slice ao no co, .slice asp nsp csp], .slice ap no cp] w fun e w' => e = .returned (.tuple #[]) ∧ MwS wb X G fr h (sp.foldl (spoilR jl) ((os.zip ps).foldl (spoilD jl) s0)) left ve w' ∧ NxOk jl (sp.foldl (spoilR jl) ((os.zip ps).foldl (spoilD jl) s0)) ∧ Kp X G w w' := by
  obtain ⟨Z, hZ⟩ : ∃ Z, w.heap.size = Z := ⟨_, rfl⟩
  obtain ⟨W, hW⟩ : ∃ W, W = w.alloc (.cells #[.int .i64 op, .slice ao no co, .slice asp nsp csp] 45) := ⟨_, rfl⟩
  have hbw : Below w.heap.size w W := by rw [hW]; exact (Below.refl _ _).alloc (Nat.le_refl _) _
  have t0 := top_at w #[.int .i64 op, .slice ao no co, .slice asp nsp csp] 45
  rw [← hW, hZ] at t0
  have lZ : Z < W.heap.size := block_lt (t0 0)
  have hZX : Z ≠ X := by have := k0.bx.lt; omega
  have hZG : Z ≠ G := by have := k0.sl.lt; omega
  have HZ : Hid (∀ w', Kp X G W w' → w'.cell? ⟨Z, 0, none⟩ = some (.int .i64 op) ∧ w'.cell? ⟨Z, 1, none⟩ = some (.slice ao no co) ∧ w'.cell? ⟨Z, 2, none⟩ = some (.slice asp nsp csp) ∧ Z < w'.heap.size) := fun w' hh => ⟨hh.cell hZX hZG (t0 0), hh.cell hZX hZG (t0 1), hh.cell hZX hZG (t0 2), Nat.lt_of_lt_of_le lZ hh.size⟩
  have HWK : Hid (Kp X G w W) := Kp.below hbw
  have HOS : Hid (SlOf wb 5 ROpr (.slice ao no co) os ∧ os.length = no) := ⟨hos, hon⟩
  have HPS : Hid (SlOf wb 3 RPl (.slice ap no cp) ps ∧ ps.length = no) := ⟨hps, hpn⟩
  have HPK : Hid (∀ p ∈ ps, PlOk fr p) := hok
  have HW : Hid (W = w.alloc (.cells #[.int .i64 op, .slice ao no co, .slice asp nsp csp] 45)) := hW
  have HZZ : Hid (w.heap.size = Z) := hZ
  obtain ⟨x0, x1, x2, lZ'⟩ := HZ.out W (Kp.refl _ _ _)
  have HK0 : Hid (MwS wb X G fr h (((os.zip ps).take 0).foldl (spoilD jl) s0) left ve W ∧ NxOk jl (((os.zip ps).take 0).foldl (spoilD jl) s0) ∧ Kp X G W W) := ⟨k0.below hbw, hnx, Kp.refl _ _ _⟩
  have HJ : Hid (JkS wb h aj nj cj jl) := hj
  have HSP : Hid (SlOf wb 2 RRg (.slice asp nsp csp) sp ∧ sp.length = nsp) := ⟨hsp, hsn⟩
  have HSO : Hid (∀ r ∈ sp, (r.cls = 0 ∨ r.cls = 1) ∧ 0 ≤ r.n ∧ r.n < 11) := hsf
  have HWB : Hid (wb.heap.size ≤ X ∧ wb.heap.size ≤ G) := ⟨k0.hX, k0.hG⟩
  have lsp : nsp ≤ 140737488355328 := by obtain ⟨_, _, _, hh⟩ := hsp.out; rw [hsn] at hh; exact hh
  clear k0 hos hon hps hpn hok hW hZ t0 lZ hbw hj hnx hsp hsn hsf
  go_enter Try.func64, Try.ntmps64
  go_upto_region 1 with fail
  rw [← HW.out, HZZ.out]
  go_wp2_with fail
  clear HW HZZ x0 x1 x2 lZ'
  go_loopw [13] (fun i wr => ∃ j : Nat, j ≤ no ∧ i = .int .i64 j ∧ Hid (MwS wb X G fr h (((os.zip ps).take j).foldl (spoilD jl) s0) left ve wr ∧ NxOk jl (((os.zip ps).take j).foldl (spoilD jl) s0) ∧ Kp X G W wr)) (fun i _ => no - (intOf i).toNat)
  case atStart => exact ⟨0, Nat.zero_le _, rfl, HK0.out⟩
  case round =>
    clear HK0
    obtain ⟨j, hj, rfl, HI⟩ := hrel
    by_cases hlt : j < no
    · skip
      have hjo : j < os.length := by rw [HOS.out.2]; exact hlt
      have hjp : j < ps.length := by rw [HPS.out.2]; exact hlt
      have hji : (j : Int) < (no : Int) := by omega
      obtain ⟨b8, off8, rfl, hb8, o0, o1, o2, o3, o4⟩ := opr_at (HOS.out.1.below HI.out.1.low fun _ _ h => h) j hjo
      obtain ⟨bp, offp, rfl, hbp, d0, d1, d2⟩ := pl_cell (HPS.out.1.below HI.out.1.low fun _ _ h => h) j hjp
      have HPO : Hid (PlOk fr ps[j]) := HPK.out _ (List.getElem_mem hjp)
      have hbw8 : bp < wb.heap.size := by
        obtain ⟨b', off', he, hb', _, _, _⟩ := pl_cell HPS.out.1 j hjp
        simp only [Option.some.injEq, Addr.mk.injEq] at he
        rw [he.1]; exact hb'
      have hz : j < (os.zip ps).length := by rw [List.length_zip]; omega
      have ez : (os.zip ps)[j] = (os[j], ps[j]) := by simp
      have HT : Hid (((os.zip ps).take (j + 1)).foldl (spoilD jl) s0 = spoilD jl (((os.zip ps).take j).foldl (spoilD jl) s0) (os[j], ps[j])) := by
        show _ = _
        rw [List.take_succ_eq_append_getElem hz, List.foldl_append, ez]
        rfl
      clear ez hz
      generalize os[j] = o at *
      generalize ps[j] = p at *
      generalize ((os.zip ps).take j).foldl (spoilD jl) s0 = s at *
      obtain ⟨okd, ovl, olt, olm, onn⟩ := o
      simp only at o0 o1 o2 o3 o4
      have HNX : Hid (NxOk jl s) := HI.out.2.1
      obtain ⟨W5, hW5⟩ : ∃ W5, W5 = wr.alloc (.cells #[.int .i64 okd, .int .i64 ovl, .bool olt, .int .i64 olm, .int .i64 onn] 78) := ⟨_, rfl⟩
      obtain ⟨M, hM⟩ : ∃ M, wr.heap.size = M := ⟨_, rfl⟩
      have b5 : Below wr.heap.size wr W5 := by rw [hW5]; exact (Below.refl _ _).alloc (Nat.le_refl _) _
      have m0 : W5.cell? ⟨M, 0, none⟩ = some (.int .i64 okd) := by rw [hW5, ← hM]; simp
      have m2 : W5.cell? ⟨M, 2, none⟩ = some (.bool olt) := by rw [hW5, ← hM]; simp
      have lM : M < W5.heap.size := by rw [hW5, ← hM]; simp
      have HK5 : Hid (MwS wb X G fr h s left ve W5) := HI.out.1.below b5
      have HQ5 : Hid (Kp X G W W5) := HI.out.2.2.trans (Kp.below b5)
      have HW5 : Hid (W5 = wr.alloc (.cells #[.int .i64 okd, .int .i64 ovl, .bool olt, .int .i64 olm, .int .i64 onn] 78)) := hW5
      have HMM : Hid (wr.heap.size = M) := hM
      by_cases hk1 : okd = 2 ∧ olt = false
      · obtain ⟨hk2, hk3⟩ := hk1
        have q : (okd == 2) = true := by simp [hk2]
        have HE : Hid (((os.zip ps).take (j + 1)).foldl (spoilD jl) s0 = junkAt jl s p) := by
          have h1 := HT.out
          unfold spoilD at h1
          rw [if_pos ⟨hk2, hk3⟩] at h1
          exact h1
        subst hk3
        have HSF : Hid (∀ w', Kp X G W5 w' → (fun w' => w'.cell? ⟨bp, offp + j * 3, none⟩ = some (.int .i64 p.kind) ∧ w'.cell? ⟨bp, offp + j * 3 + 1, none⟩ = some (.int .i64 p.cls) ∧ w'.cell? ⟨bp, offp + j * 3 + 1 + 1, none⟩ = some (.int .i64 p.n)) w') := fun w' hh => by
          have hx := HWB.out.1
          have hg := HWB.out.2
          have n1 : bp ≠ X := by omega
          have n2 : bp ≠ G := by omega
          exact ⟨hh.cell n1 n2 ((b5.cell hbp).trans d0), hh.cell n1 n2 ((b5.cell hbp).trans d1), hh.cell n1 n2 ((b5.cell hbp).trans d2)⟩
        have HC1 := at_any HK5.out hfr p HPO.out W5.drew (Below.refl _ _).drew
        clear hW5 hM hk2 HI HT
        go_upto_region 4 with fail
        try rw [← HW5.out]
        try rw [HMM.out]
        go_upto_region 5 with fail
        clear HW5 HMM o0 o1 o2 o3 o4 hb8 d0 d1 d2 hbp m0 m2 lM b5
        refine wp_region_X (fun w' => w'.cell? ⟨bp, offp + j * 3, none⟩ = some (.int .i64 p.kind) ∧ w'.cell? ⟨bp, offp + j * 3 + 1, none⟩ = some (.int .i64 p.cls) ∧ w'.cell? ⟨bp, offp + j * 3 + 1 + 1, none⟩ = some (.int .i64 p.n)) 13 (by kernel_rfl) (HSF.out _ (Kp.below (Below.refl _ _).drew)) (fun hHeld => ?_)
        refine wpXt (v := ?_) 0 rfl (by kernel_rfl) (fun _ _ _ h => h) (by rfl) ?_ hHeld ?_
        rotate_left
        · intro w' hSw
          go_simp <;> with_reducible rfl
        try simp only [Act.put, List.setIfInBounds_toArray, List.set_cons_zero, List.set_cons_succ]
        refine wpXt (v := ?_) 1 rfl (by kernel_rfl) (fun _ _ _ h => h) (by rfl) ?_ hHeld ?_
        rotate_left
        · intro w' hSw
          go_simp <;> with_reducible rfl
        try simp only [Act.put, List.setIfInBounds_toArray, List.set_cons_zero, List.set_cons_succ]
        refine wpXt (v := ?_) 2 rfl (by kernel_rfl) (fun _ _ _ h => h) (by rfl) ?_ hHeld ?_
        rotate_left
        · intro w' hSw
          go_simp <;> with_reducible rfl
        try simp only [Act.put, List.setIfInBounds_toArray, List.set_cons_zero, List.set_cons_succ]
        refine wpXt (v := ?_) 3 rfl (by kernel_rfl) (fun _ _ _ h => h) (by rfl) ?_ hHeld ?_
        rotate_left
        · intro w' hSw
          go_simp <;> with_reducible rfl
        try simp only [Act.put, List.setIfInBounds_toArray, List.set_cons_zero, List.set_cons_succ]
        refine wpXt (v := ?_) 4 rfl (by kernel_rfl) (fun _ _ _ h => h) (by rfl) ?_ hHeld ?_
        rotate_left
        · intro w' hSw
          go_simp <;> with_reducible rfl
        try simp only [Act.put, List.setIfInBounds_toArray, List.set_cons_zero, List.set_cons_succ]
        refine wpXt (v := ?_) 5 rfl (by kernel_rfl) (fun _ _ _ h => h) (by rfl) ?_ hHeld ?_
        rotate_left
        · intro w' hSw
          go_simp <;> with_reducible rfl
        try simp only [Act.put, List.setIfInBounds_toArray, List.set_cons_zero, List.set_cons_succ]
        refine wpXt (v := ?_) 6 rfl (by kernel_rfl) (fun _ _ _ h => h) (by rfl) ?_ hHeld ?_
        rotate_left
        · intro w' hSw
          go_simp <;> with_reducible rfl
        try simp only [Act.put, List.setIfInBounds_toArray, List.set_cons_zero, List.set_cons_succ]
        refine wpXt (v := ?_) 8 rfl (by kernel_rfl) (fun _ _ _ h => h) (by rfl) ?_ hHeld ?_
        rotate_left
        · intro w' hSw
          go_simp <;> with_reducible rfl
        try simp only [Act.put, List.setIfInBounds_toArray, List.set_cons_zero, List.set_cons_succ]
        refine wpXt (v := ?_) 9 rfl (by kernel_rfl) (fun _ _ _ h => h) (by rfl) ?_ hHeld ?_
        rotate_left
        · intro w' hSw
          go_simp <;> with_reducible rfl
        try simp only [Act.put, List.setIfInBounds_toArray, List.set_cons_zero, List.set_cons_succ]
        refine wpXt (v := ?_) 10 rfl (by kernel_rfl) (fun _ _ _ h => h) (by rfl) ?_ hHeld ?_
        rotate_left
        · intro w' hSw
          go_simp <;> with_reducible rfl
        try simp only [Act.put, List.setIfInBounds_toArray, List.set_cons_zero, List.set_cons_succ]
        refine wpXs 7 rfl (by kernel_rfl) (fun K hK => ?_)
        go_simp
        refine HC1.mono ?_
        clear HC1
        rintro e w6 ⟨rfl, hb6⟩
        have HB6 : Hid (Below W5.heap.size W5 w6) := ((Below.refl _ _).drew).trans hb6
        clear hb6
        refine hK.out _ _ (HSF.out _ (Kp.below HB6.out)) (fun hHeld => ?_)
        clear hK K
        try simp only [Act.put, List.setIfInBounds_toArray, List.set_cons_zero, List.set_cons_succ]
        refine wpXs 11 rfl (by kernel_rfl) (fun K hK => ?_)
        go_simp
        refine (mjunk_any (HK5.out.below HB6.out) HJ.out HNX.out).mono ?_
        rintro e w7 ⟨rfl, hk7, hq7⟩
        have HQ7 : Hid (Kp X G W5 w7) := (Kp.below HB6.out).trans hq7
        have HK7 : Hid (MwS wb X G fr h { s with nx := nxJ jl.length s.nx } left ve w7) := hk7
        clear hk7 hq7
        obtain ⟨p1, p2, p3⟩ := HK7.out.get HPO.out
        refine hK.out _ _ (HSF.out _ HQ7.out) (fun hHeld => ?_)
        clear hK K
        try simp only [Act.put, List.setIfInBounds_toArray, List.set_cons_zero, List.set_cons_succ]
        refine wpXs 12 rfl (by kernel_rfl) (fun K hK => ?_)
        go_simp
        refine hK.out _ _ (HSF.out _ HQ7.out) (fun hHeld => ?_)
        clear hK K
        try simp only [Act.put, List.setIfInBounds_toArray, List.set_cons_zero, List.set_cons_succ]
        refine wpXl 13 rfl (by kernel_rfl) rfl (by kernel_rfl) (fun K hK => ?_)
        go_simp
        refine hK.out _ _ ?_
        clear hK K

        have HR3 : Hid (MwS wb X G fr h (((os.zip ps).take (j + 1)).foldl (spoilD jl) s0) left ve (w7.setCell ⟨adB X G p, adO p, none⟩ (.int .i64 (jl.getD s.nx 0))) ∧ NxOk jl (((os.zip ps).take (j + 1)).foldl (spoilD jl) s0) ∧ Kp X G W (w7.setCell ⟨adB X G p, adO p, none⟩ (.int .i64 (jl.getD s.nx 0)))) := by
          rw [HE.out]
          exact ⟨HK7.out.put HPO.out _, nx_next HNX.out p, (HQ5.out.trans HQ7.out).trans (Kp.set (adB_or X G p))⟩
        clear p1 p2 p3 HK7 HQ7 HB6 HK5 HSF
        go_wp2
        go_roundw
        case rel => exact ⟨j + 1, by omega, by go_num, HR3⟩
        case measure => simp [intOf]; omega
      · have HR3 : Hid (MwS wb X G fr h (((os.zip ps).take (j + 1)).foldl (spoilD jl) s0) left ve W5 ∧ NxOk jl (((os.zip ps).take (j + 1)).foldl (spoilD jl) s0) ∧ Kp X G W W5) := by
          have h1 := HT.out
          unfold spoilD at h1
          rw [if_neg hk1] at h1
          unfold spoilD
          rw [h1]
          exact ⟨HK5.out, HNX.out, HQ5.out⟩
        rw [hW5] at HR3
        by_cases hk2 : okd = 2
        · have q : (okd == 2) = true := by simp [hk2]
          have q2 : olt = true := by
            cases olt
            · exact absurd ⟨hk2, rfl⟩ hk1
            · rfl
          subst q2
          clear hW5 hM hk1 hk2 HI HT HK5 HQ5 HW5 HMM m0 m2 lM b5
          go_wp2
          go_roundw
          case rel => exact ⟨j + 1, by omega, by go_num, HR3⟩
          case measure => simp [intOf]; omega
        · have q : (okd == 2) = false := by simpa using hk2
          clear hW5 hM hk1 hk2 HI HT HK5 HQ5 HW5 HMM m0 m2 lM b5
          go_wp2
          go_roundw
          case rel => exact ⟨j + 1, by omega, by go_num, HR3⟩
          case measure => simp [intOf]; omega
    · obtain ⟨s1, hs1⟩ : ∃ s1, (os.zip ps).foldl (spoilD jl) s0 = s1 := ⟨_, rfl⟩
      have HE1 : Hid ((os.zip ps).foldl (spoilD jl) s0 = s1) := hs1
      have HI1 : Hid (MwS wb X G fr h ((sp.take 0).foldl (spoilR jl) s1) left ve wr ∧ NxOk jl ((sp.take 0).foldl (spoilR jl) s1) ∧ Kp X G W wr) := by
        have h1 := HI.out
        rw [List.take_of_length_le (by rw [List.length_zip]; have := HOS.out.2; omega), hs1] at h1
        exact h1
      obtain ⟨x0, x1, x2, lZ'⟩ := HZ.out _ HI.out.2.2
      clear HI hs1
      go_wp2_with fail
      clear x0 x1 x2 lZ'
      go_loopw [43] (fun i wr => ∃ j : Nat, j ≤ nsp ∧ i = .int .i64 j ∧ Hid (MwS wb X G fr h ((sp.take j).foldl (spoilR jl) s1) left ve wr ∧ NxOk jl ((sp.take j).foldl (spoilR jl) s1) ∧ Kp X G W wr)) (fun i _ => nsp - (intOf i).toNat)
      case atStart => exact ⟨0, Nat.zero_le _, rfl, HI1.out⟩
      case round =>
        clear HI1
        obtain ⟨i, hi, rfl, HI⟩ := hrel
        by_cases hlti : i < nsp
        · have his : i < sp.length := by rw [HSP.out.2]; exact hlti
          have hii : (i : Int) < (nsp : Int) := by omega
          obtain ⟨b8, off8, rfl, hb8, o0, o1⟩ := rg_at (HSP.out.1.below HI.out.1.low fun _ _ h => h) i his
          have HRO := HSO.out _ (List.getElem_mem his)
          have HT : Hid ((sp.take (i + 1)).foldl (spoilR jl) s1 = spoilR jl ((sp.take i).foldl (spoilR jl) s1) sp[i]) := by
            show _ = _
            rw [List.take_succ_eq_append_getElem his, List.foldl_append]
            rfl
          generalize sp[i] = r at *
          generalize (sp.take i).foldl (spoilR jl) s1 = s at *
          obtain ⟨rc, rn⟩ := r
          simp only at o0 o1 HRO
          obtain ⟨cn, hcn⟩ : ∃ cn : Nat, rc = (cn : Int) := ⟨rc.toNat, by omega⟩
          obtain ⟨nn, hnn⟩ : ∃ nn : Nat, rn = (nn : Int) := ⟨rn.toNat, by omega⟩
          subst hcn hnn
          have hc2 : (cn : Int) < 2 := by omega
          have hn2 : (nn : Int) < 11 := by omega
          have hc3 : cn < 2 := by omega
          have hn3 : nn < 11 := by omega
          have HPO : Hid (PlOk fr ⟨1, (cn : Int), (nn : Int)⟩) := Or.inl ⟨rfl, HRO.1, HRO.2⟩
          have had1 : adB X G ⟨1, (cn : Int), (nn : Int)⟩ = X := rfl
          have had2 : adO ⟨1, (cn : Int), (nn : Int)⟩ = 6 + cn * 11 + nn := by
            unfold adO regI
            simp
            omega
          have HNX : Hid (NxOk jl s) := HI.out.2.1
          obtain ⟨W5, hW5⟩ : ∃ W5, W5 = wr.alloc (.cells #[.int .i64 (cn : Int), .int .i64 (nn : Int)] 62) := ⟨_, rfl⟩
          obtain ⟨M, hM⟩ : ∃ M, wr.heap.size = M := ⟨_, rfl⟩
          have b5 : Below wr.heap.size wr W5 := by rw [hW5]; exact (Below.refl _ _).alloc (Nat.le_refl _) _
          have m0 : W5.cell? ⟨M, 0, none⟩ = some (.int .i64 (cn : Int)) := by rw [hW5, ← hM]; simp
          have m1 : W5.cell? ⟨M, 1, none⟩ = some (.int .i64 (nn : Int)) := by rw [hW5, ← hM]; simp
          have HK5 : Hid (MwS wb X G fr h s left ve W5) := HI.out.1.below b5
          have HQ5 : Hid (Kp X G W W5) := HI.out.2.2.trans (Kp.below b5)
          have HW5 : Hid (W5 = wr.alloc (.cells #[.int .i64 (cn : Int), .int .i64 (nn : Int)] 62)) := hW5
          have HMM : Hid (wr.heap.size = M) := hM
          have nMX : M ≠ X := by have := HI.out.1.bx.lt; omega
          have nMG : M ≠ G := by have := HI.out.1.sl.lt; omega
          have HSF : Hid (∀ w', Kp X G W5 w' → (fun w' => w'.cell? ⟨M, 0, none⟩ = some (.int .i64 (cn : Int)) ∧ w'.cell? ⟨M, 1, none⟩ = some (.int .i64 (nn : Int))) w') := fun w' hh => ⟨hh.cell nMX nMG m0, hh.cell nMX nMG m1⟩
          clear hW5 hM HI HRO b5 m0 m1
          go_upto_region 10 with fail
          rw [← HW5.out, HMM.out]
          clear HW5 HMM o0 o1 hb8
          refine wp_region_X (fun w' => w'.cell? ⟨M, 0, none⟩ = some (.int .i64 (cn : Int)) ∧ w'.cell? ⟨M, 1, none⟩ = some (.int .i64 (nn : Int))) 99 (by kernel_rfl) (HSF.out _ (Kp.below (Below.refl _ _).drew)) (fun hHeld => ?_)
          refine wpXt (v := ?_) 0 rfl (by kernel_rfl) (fun _ _ _ h => h) (by rfl) ?_ hHeld ?_
          rotate_left
          · intro w' hSw
            go_simp <;> with_reducible rfl
          try simp only [Act.put, List.setIfInBounds_toArray, List.set_cons_zero, List.set_cons_succ]
          refine wpXt (v := ?_) 1 rfl (by kernel_rfl) (fun _ _ _ h => h) (by rfl) ?_ hHeld ?_
          rotate_left
          · intro w' hSw
            go_simp <;> with_reducible rfl
          try simp only [Act.put, List.setIfInBounds_toArray, List.set_cons_zero, List.set_cons_succ]
          refine wpXt (v := ?_) 2 rfl (by kernel_rfl) (fun _ _ _ h => h) (by rfl) ?_ hHeld ?_
          rotate_left
          · intro w' hSw
            go_simp <;> with_reducible rfl
          try simp only [Act.put, List.setIfInBounds_toArray, List.set_cons_zero, List.set_cons_succ]
          refine wpXt (v := ?_) 3 rfl (by kernel_rfl) (fun _ _ _ h => h) (by rfl) ?_ hHeld ?_
          rotate_left
          · intro w' hSw
            go_simp <;> with_reducible rfl
          try simp only [Act.put, List.setIfInBounds_toArray, List.set_cons_zero, List.set_cons_succ]
          refine wpXt (v := ?_) 4 rfl (by kernel_rfl) (fun _ _ _ h => h) (by rfl) ?_ hHeld ?_
          rotate_left
          · intro w' hSw
            go_simp <;> with_reducible rfl
          try simp only [Act.put, List.setIfInBounds_toArray, List.set_cons_zero, List.set_cons_succ]
          refine wpXt (v := ?_) 5 rfl (by kernel_rfl) (fun _ _ _ h => h) (by rfl) ?_ hHeld ?_
          rotate_left
          · intro w' hSw
            go_simp <;> with_reducible rfl
          try simp only [Act.put, List.setIfInBounds_toArray, List.set_cons_zero, List.set_cons_succ]
          refine wpXt (v := ?_) 6 rfl (by kernel_rfl) (fun _ _ _ h => h) (by rfl) ?_ hHeld ?_
          rotate_left
          · intro w' hSw
            go_simp <;> with_reducible rfl
          try simp only [Act.put, List.setIfInBounds_toArray, List.set_cons_zero, List.set_cons_succ]
          refine wpXt (v := ?_) 7 rfl (by kernel_rfl) (fun _ _ _ h => h) (by rfl) ?_ hHeld ?_
          rotate_left
          · intro w' hSw
            go_simp <;> with_reducible rfl
          try simp only [Act.put, List.setIfInBounds_toArray, List.set_cons_zero, List.set_cons_succ]
          refine wpXt (v := ?_) 9 rfl (by kernel_rfl) (fun _ _ _ h => h) (by rfl) ?_ hHeld ?_
          rotate_left
          · intro w' hSw
            go_simp <;> with_reducible rfl
          try simp only [Act.put, List.setIfInBounds_toArray, List.set_cons_zero, List.set_cons_succ]
          refine wpXt (v := ?_) 10 rfl (by kernel_rfl) (fun _ _ _ h => h) (by rfl) ?_ hHeld ?_
          rotate_left
          · intro w' hSw
            go_simp <;> with_reducible rfl
          try simp only [Act.put, List.setIfInBounds_toArray, List.set_cons_zero, List.set_cons_succ]
          refine wpXt (v := ?_) 11 rfl (by kernel_rfl) (fun _ _ _ h => h) (by rfl) ?_ hHeld ?_
          rotate_left
          · intro w' hSw
            go_simp <;> with_reducible rfl
          try simp only [Act.put, List.setIfInBounds_toArray, List.set_cons_zero, List.set_cons_succ]
          refine wpXt (v := ?_) 12 rfl (by kernel_rfl) (fun _ _ _ h => h) (by rfl) ?_ hHeld ?_
          rotate_left
          · intro w' hSw
            go_simp <;> with_reducible rfl
          try simp only [Act.put, List.setIfInBounds_toArray, List.set_cons_zero, List.set_cons_succ]
          refine wpXs 8 rfl (by kernel_rfl) (fun K hK => ?_)
          go_simp
          refine (mjunk_any (HK5.out.below (Below.refl _ _).drew) HJ.out HNX.out).mono ?_
          rintro e w7 ⟨rfl, hk7, hq7⟩
          have HQ7 : Hid (Kp X G W5 w7) := (Kp.below (Below.refl _ _).drew).trans hq7
          have HK7 : Hid (MwS wb X G fr h { s with nx := nxJ jl.length s.nx } left ve w7) := hk7
          clear hk7 hq7
          obtain ⟨p1, p2, p3⟩ := HK7.out.get HPO.out
          rw [had1, had2] at p1 p2
          refine hK.out _ _ (HSF.out _ HQ7.out) (fun hHeld => ?_)
          clear hK K
          try simp only [Act.put, List.setIfInBounds_toArray, List.set_cons_zero, List.set_cons_succ]
          refine wpXt (v := ?_) 13 rfl (by kernel_rfl) (fun _ _ _ h => h) (by rfl) ?_ hHeld ?_
          rotate_left
          · intro w' hSw
            go_simp <;> with_reducible rfl
          try simp only [Act.put, List.setIfInBounds_toArray, List.set_cons_zero, List.set_cons_succ]
          refine wpXs 14 rfl (by kernel_rfl) (fun K hK => ?_)
          go_simp
          refine hK.out _ _ (HSF.out _ (HQ7.out.trans (Kp.set (Or.inl rfl)))) (fun hHeld => ?_)
          clear hK K
          try simp only [Act.put, List.setIfInBounds_toArray, List.set_cons_zero, List.set_cons_succ]
          refine wpAnyX_done (by kernel_rfl) ?_ _

          have HR3 : Hid (MwS wb X G fr h ((sp.take (i + 1)).foldl (spoilR jl) s1) left ve (w7.setCell ⟨X, 6 + cn * 11 + nn, none⟩ (.int .i64 (jl.getD s.nx 0))) ∧ NxOk jl ((sp.take (i + 1)).foldl (spoilR jl) s1) ∧ Kp X G W (w7.setCell ⟨X, 6 + cn * 11 + nn, none⟩ (.int .i64 (jl.getD s.nx 0)))) := by
            rw [HT.out]
            have h1 := HK7.out.put HPO.out (jl.getD s.nx 0)
            rw [had1, had2] at h1
            exact ⟨h1, nx_next HNX.out _, (HQ5.out.trans HQ7.out).trans (Kp.set (Or.inl rfl))⟩
          clear p1 p2 p3 HK7 HQ7 HK5 HSF HT had1 had2
          go_wp2
          go_roundw
          case rel => exact ⟨i + 1, by omega, by go_num, HR3⟩
          case measure => simp [intOf]; omega
        · have HE : Hid (MwS wb X G fr h (sp.foldl (spoilR jl) ((os.zip ps).foldl (spoilD jl) s0)) left ve wr ∧ NxOk jl (sp.foldl (spoilR jl) ((os.zip ps).foldl (spoilD jl) s0)) ∧ Kp X G w wr) := by
            have h1 := HI.out
            rw [List.take_of_length_le (by have := HSP.out.2; omega), ← HE1.out] at h1
            exact ⟨h1.1, h1.2.1, HWK.out.trans h1.2.2⟩
          clear HI
          go_wp2
          go_end0
          exact ⟨rfl, HE.out⟩
end Go.Proofs.Ytjbjnndmpheedaa
