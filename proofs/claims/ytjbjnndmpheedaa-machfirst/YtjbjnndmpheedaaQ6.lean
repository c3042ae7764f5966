/-
  The contract of mach's 'does' (P5.4): what an instruction does, whose operands are at these places.
-/
import Derived.Test.YtjbjnndmpheedaaQ5
import Derived.Test.YtjbjnndmpheedaaR1
namespace Go.Proofs.Ytjbjnndmpheedaa
open Go.RowKit
set_option linter.unusedVariables false

/-- What was read, operand by operand, from operand k on. -/
def readP (f : Nat → Int) : Nat → List Opr → List Int
  | _, [] => []
  | k, o :: r => (if o.kind = 1 then [f k] else []) ++ readP f (k + 1) r
theorem readP_take (f : Nat → Int) : ∀ (l : List Opr) (k j : Nat) (h : j < l.length), readP f k (l.take (j + 1)) = if l[j].kind = 1 then readP f k (l.take j) ++ [f (k + j)] else readP f k (l.take j)
  | [], _, _, h => by simp at h
  | x :: r, k, 0, _ => by
    by_cases hx : x.kind = 1 <;> simp [readP, hx]
  | x :: r, k, j + 1, h => by
    have ih := readP_take f r (k + 1) j (by simpa using h)
    rw [List.take_succ_cons, List.take_succ_cons]
    simp only [readP, List.getElem_cons_succ]
    rw [ih, show k + 1 + j = k + (j + 1) by omega]
    have hj : j < r.length := by simpa using h
    by_cases h1 : x.kind = 1 <;> by_cases h2 : r[j].kind = 1 <;> simp [h1, h2]
theorem readP_len (f : Nat → Int) : ∀ (l : List Opr) (k : Nat), (readP f k l).length ≤ l.length
  | [], _ => Nat.le_refl _
  | x :: r, k => by
    have ih := readP_len f r (k + 1)
    simp only [readP, List.length_append, List.length_cons]
    split <;> simp <;> omega
theorem makesP_nx (seed op : Int) (read : List Int) : ∀ (l : List (Opr × Pl)) (k : Nat) (s : Pm), (makesP seed op read k l s).nx = s.nx
  | [], _, _ => rfl
  | x :: r, k, s => by
    unfold makesP
    rw [makesP_nx seed op read r]
    split
    · exact putP_nx _ _ _
    · rfl
/-- What places have when what is spoilt is spoilt; what is seen; what is read; what places have behind it all. -/
def splP (jl : List Int) (s : Pm) (os : List Opr) (ps : List Pl) (sp : List Rg) : Pm := sp.foldl (spoilR jl) ((os.zip ps).foldl (spoilD jl) s)
def seenP (jl : List Int) (s : Pm) (os : List Opr) (ps : List Pl) (sp : List Rg) : Nat → Int := lookP true (splP jl s os ps sp) (os.zip ps) (lookP false s (os.zip ps) (fun _ => 0))
def doesR (jl : List Int) (s : Pm) (os : List Opr) (ps : List Pl) (sp : List Rg) : List Int := readP (seenP jl s os ps sp) 0 os
def doesS (seed op : Int) (jl : List Int) (s : Pm) (os : List Opr) (ps : List Pl) (sp : List Rg) : Pm := makesP seed op (doesR jl s os ps sp) 0 (os.zip ps) (splP jl s os ps sp)
/-- The three boxes of the call are as they were. -/
structure Kq (N : Nat) (W w' : World) : Prop where
  size : W.heap.size ≤ w'.heap.size
  blk : ∀ q, N ≤ q → q < N + 3 → w'.heap[q]? = W.heap[q]?
theorem Kq.kp {N a b : Nat} {W w1 w2 : World} (h : Kq N W w1) (hk : Kp a b w1 w2) (hW : N + 3 ≤ W.heap.size) (ha : a < N ∨ N + 3 ≤ a) (hb : b < N ∨ N + 3 ≤ b) : Kq N W w2 :=
  ⟨Nat.le_trans h.size hk.size, fun q h1 h2 => (hk.blk q (by have := h.size; omega) (by omega) (by omega)).trans (h.blk q h1 h2)⟩
theorem Kq.cell {N : Nat} {W w' : World} (h : Kq N W w') {q i : Nat} {v : Value} (h1 : N ≤ q) (h2 : q < N + 3) (hc : W.cell? ⟨q, i, none⟩ = some v) : w'.cell? ⟨q, i, none⟩ = some v :=
  (World.cell?_of_block (a := ⟨q, i, none⟩) (h.blk q h1 h2)).trans hc
/-- What lies below a bound and elsewhere than in two blocks is as it was. -/
structure Kl (N X G : Nat) (w w' : World) : Prop where
  size : w.heap.size ≤ w'.heap.size
  blk : ∀ q, q < N → q ≠ X → q ≠ G → w'.heap[q]? = w.heap[q]?
theorem Kl.kp {N X G a b : Nat} {w w1 w2 : World} (h : Kl N X G w w1) (hk : Kp a b w1 w2) (hN : N ≤ w.heap.size) (ha : a = X ∨ N ≤ a) (hb : b = G ∨ N ≤ b) : Kl N X G w w2 :=
  ⟨Nat.le_trans h.size hk.size, fun q h1 h2 h3 => (hk.blk q (by have := h.size; omega) (by omega) (by omega)).trans (h.blk q h1 h2 h3)⟩

set_option maxRecDepth 4000 in
set_option maxHeartbeats 8000000 in
theorem does_any (wb : World) (X G fr : Nat) (h : Nat → Value) (s0 : Pm) (left : Int) (ve : Value) (op : Int) (ao ap asp : Option Addr) (no co cp nsp csp : Nat) (os : List Opr) (ps : List Pl) (w : World) (k0 : MwS wb X G fr h s0 left ve w) (hfr : fr ≤ 1000) (hos : SlOf wb 5 ROpr (.slice ao no co) os) (hon : os.length = no) (hps : SlOf wb 3 RPl (.slice ap no cp) ps) (hpn : ps.length = no) (hno : no ≤ 6) (hok : ∀ p ∈ ps, PlOk fr p) (aj : Option Addr) (nj cj : Nat) (jl : List Int) (sp : List Rg) (hj : JkS wb h aj nj cj jl) (hnx : NxOk jl s0) (hsp : SlOf wb 2 RRg (.slice asp nsp csp) sp) (hsn : sp.length = nsp) (hsf : ∀ r ∈ sp, (r.cls = 0 ∨ r.cls = 1) ∧ 0 ≤ r.n ∧ r.n < 11) (seed : Int) (h4 : h 4 = .int .i64 seed) :
    Calls Try.prog 44 #[.pointer (some ⟨X, 0, none⟩), .agg #[.int .i64 op, .slice ao no co, .slice asp nsp csp], .slice ap no cp] w fun e w' => ∃ a n c, e = .returned (.slice a n c) ∧ n = (doesR jl s0 os ps sp).length ∧ SlOf w' 1 RInt (.slice a n c) (doesR jl s0 os ps sp) ∧ (∀ g, (Value.slice a n c).ownBlock = some g → w.heap.size ≤ g ∧ g < w'.heap.size) ∧ MwS wb X G fr h (doesS seed op jl s0 os ps sp) left ve w' ∧ NxOk jl (doesS seed op jl s0 os ps sp) ∧ Kp X G w w' := by
  obtain ⟨i3, hi3, hz3, hz31, hz32⟩ := ru_parts ruInfo
  have hmf : ∀ (fn : Go.Fn) (first cap : Array Value) (w : World), (Instr.makeFunc fn first cap).run Try.prog w = .ok (.func fn first cap) w := fun _ _ _ _ => rfl
  obtain ⟨N, hN⟩ : ∃ N, w.heap.size = N := ⟨_, rfl⟩
  obtain ⟨W, hW⟩ : ∃ W, W = (((w.alloc (.cells #[.pointer (some ⟨X, 0, none⟩)] 110)).alloc (.cells #[.int .i64 op, .slice ao no co, .slice asp nsp csp] 45)).alloc (.cells #[.slice ap no cp] 64)).alloc (.cells #[.int .i64 0, .int .i64 0, .int .i64 0, .int .i64 0, .int .i64 0, .int .i64 0] 132) := ⟨_, rfl⟩
  obtain ⟨W1, hW1⟩ : ∃ W1, W1 = w.alloc (.cells #[.pointer (some ⟨X, 0, none⟩)] 110) := ⟨_, rfl⟩
  obtain ⟨W2, hW2⟩ : ∃ W2, W2 = W1.alloc (.cells #[.int .i64 op, .slice ao no co, .slice asp nsp csp] 45) := ⟨_, rfl⟩
  obtain ⟨W3, hW3⟩ : ∃ W3, W3 = W2.alloc (.cells #[.slice ap no cp] 64) := ⟨_, rfl⟩
  have hW4 : W = W3.alloc (.cells #[.int .i64 0, .int .i64 0, .int .i64 0, .int .i64 0, .int .i64 0, .int .i64 0] 132) := by rw [hW, hW3, hW2, hW1]
  have s1 : W1.heap.size = N + 1 := by rw [hW1, ← hN]; simp
  have s2 : W2.heap.size = N + 2 := by rw [hW2]; simp [s1]
  have s3 : W3.heap.size = N + 3 := by rw [hW3]; simp [s2]
  have hWs : W.heap.size = N + 4 := by rw [hW4]; simp [s3]
  have b1 : Below w.heap.size w W1 := by rw [hW1]; exact (Below.refl _ _).alloc (Nat.le_refl _) _
  have b2 : Below W1.heap.size W1 W2 := by rw [hW2]; exact (Below.refl _ _).alloc (Nat.le_refl _) _
  have b3 : Below W2.heap.size W2 W3 := by rw [hW3]; exact (Below.refl _ _).alloc (Nat.le_refl _) _
  have b4 : Below W3.heap.size W3 W := by rw [hW4]; exact (Below.refl _ _).alloc (Nat.le_refl _) _
  have hbw : Below w.heap.size w W := b1.trans ((b2.trans ((b3.trans (b4.mono (by omega))).mono (by omega))).mono (by omega))
  have t1 := top_at w #[.pointer (some ⟨X, 0, none⟩)] 110
  have t2 := top_at W1 #[.int .i64 op, .slice ao no co, .slice asp nsp csp] 45
  have t3 := top_at W2 #[.slice ap no cp] 64
  rw [← hW1, hN] at t1
  rw [← hW2, s1] at t2
  rw [← hW3, s2] at t3
  have b24 : Below W1.heap.size W1 W := b2.trans ((b3.trans (b4.mono (by omega))).mono (by omega))
  have b34 : Below W2.heap.size W2 W := b3.trans (b4.mono (by omega))
  have c0 : W.cell? ⟨N, 0, none⟩ = some (.pointer (some ⟨X, 0, none⟩)) := (b24.cell (p := ⟨N, 0, none⟩) (show N < _ by omega)).trans (t1 0)
  have c1 : W.cell? ⟨N + 1, 0, none⟩ = some (.int .i64 op) := (b34.cell (p := ⟨N + 1, 0, none⟩) (show N + 1 < _ by omega)).trans (t2 0)
  have c2 : W.cell? ⟨N + 1, 1, none⟩ = some (.slice ao no co) := (b34.cell (p := ⟨N + 1, 1, none⟩) (show N + 1 < _ by omega)).trans (t2 1)
  have c3 : W.cell? ⟨N + 1, 2, none⟩ = some (.slice asp nsp csp) := (b34.cell (p := ⟨N + 1, 2, none⟩) (show N + 1 < _ by omega)).trans (t2 2)
  have c4 : W.cell? ⟨N + 2, 0, none⟩ = some (.slice ap no cp) := (b4.cell (p := ⟨N + 2, 0, none⟩) (show N + 2 < _ by omega)).trans (t3 0)
  have rv : W.rowIs (N + 3) 132 6 (fun i => .int .i64 ((fun _ => 0 : Nat → Int) i)) := by
    rw [hW4, ← s3]
    exact World.rowIs_alloc _ _ _ _ fun i hi => by
      simp at hi
      match i, hi with | 0, _ => rfl | 1, _ => rfl | 2, _ => rfl | 3, _ => rfl | 4, _ => rfl | 5, _ => rfl
  have lX : X < N := by rw [← hN]; exact k0.bx.lt
  have lG : G < N := by rw [← hN]; exact k0.sl.lt
  have lwb : wb.heap.size ≤ N := by rw [← hN]; exact k0.low.size
  have HCL : Hid (∀ w', Kq N W w' → w'.cell? ⟨N, 0, none⟩ = some (.pointer (some ⟨X, 0, none⟩)) ∧ w'.cell? ⟨N + 1, 0, none⟩ = some (.int .i64 op) ∧ w'.cell? ⟨N + 1, 1, none⟩ = some (.slice ao no co) ∧ w'.cell? ⟨N + 1, 2, none⟩ = some (.slice asp nsp csp) ∧ w'.cell? ⟨N + 2, 0, none⟩ = some (.slice ap no cp)) := fun w' hh => ⟨hh.cell (by omega) (by omega) c0, hh.cell (by omega) (by omega) c1, hh.cell (by omega) (by omega) c2, hh.cell (by omega) (by omega) c3, hh.cell (by omega) (by omega) c4⟩
  have HL1 := look_any wb X G fr (N + 3) (N + 1) N (N + 2) h s0 left ve ao ap no co cp os ps (fun _ => 0) false W (k0.below hbw) hfr hos hon hps hpn hno hok c2 c0 c4 rv (by omega) (by omega) (by omega) (by omega) (by omega) (by omega)
  have HKW : Hid (Kl N X G w W) := ⟨hbw.size, fun q h1 _ _ => hbw.block q (by omega)⟩
  have HWS : Hid (W.heap.size = N + 4) := hWs
  have HSL : Hid (SlOf wb 5 ROpr (.slice ao no co) os ∧ os.length = no ∧ SlOf wb 3 RPl (.slice ap no cp) ps ∧ ps.length = no ∧ ∀ p ∈ ps, PlOk fr p) := ⟨hos, hon, hps, hpn, hok⟩
  have HSP : Hid (SlOf wb 2 RRg (.slice asp nsp csp) sp ∧ sp.length = nsp ∧ ∀ r ∈ sp, (r.cls = 0 ∨ r.cls = 1) ∧ 0 ≤ r.n ∧ r.n < 11) := ⟨hsp, hsn, hsf⟩
  have HJ : Hid (JkS wb h aj nj cj jl) := hj
  have HNX : Hid (NxOk jl s0) := hnx
  have H4 : Hid (h 4 = .int .i64 seed) := h4
  have HNN : Hid (N ≤ w.heap.size) := Nat.le_of_eq hN.symm
  have HW : Hid (W = (((w.alloc (.cells #[.pointer (some ⟨X, 0, none⟩)] 110)).alloc (.cells #[.int .i64 op, .slice ao no co, .slice asp nsp csp] 45)).alloc (.cells #[.slice ap no cp] 64)).alloc (.cells #[.int .i64 0, .int .i64 0, .int .i64 0, .int .i64 0, .int .i64 0, .int .i64 0] 132)) := hW
  have HZZ : Hid (w.heap.size = N) := hN
  clear hW hN hbw hWs c0 c1 c2 c3 c4 rv hW1 hW2 hW3 hW4 s1 s2 s3 b1 b2 b3 b4 t1 t2 t3 b24 b34 hos hon hps hpn hok hj hnx hsp hsn hsf h4 k0
  go_enter Try.func44, Try.ntmps44
  go_upto_region 3 with fail
  rw [← HW.out, HZZ.out]
  clear HW
  --CUT1
  go_upto_region 4 with (go_at_call 63; refine HL1.mono ?_; rintro e w5 ⟨rfl, k5, r5, q5⟩)
  clear HL1
  have HQ5 : Hid (Kq N W w5 ∧ Kl N X G w w5) := ⟨(Kq.mk (Nat.le_refl _) fun _ _ _ => rfl).kp q5 (by have := HWS.out; omega) (by omega) (by omega), HKW.out.kp q5 HNN.out (by omega) (by omega)⟩
  have HK5 : Hid (MwS wb X G fr h s0 left ve w5) := k5
  have HR5 : Hid (w5.rowIs (N + 3) 132 6 (fun i => .int .i64 (lookP false s0 (os.zip ps) (fun _ => 0) i))) := r5
  obtain ⟨a0, a1, a2, a3, a4⟩ := HCL.out _ HQ5.out.1
  have HSPL := mspoils_any wb X G fr h s0 left ve op ao ap asp no co cp nsp csp os ps w5 HK5.out hfr HSL.out.1 HSL.out.2.1 HSL.out.2.2.1 HSL.out.2.2.2.1 (by omega) HSL.out.2.2.2.2 aj nj cj jl sp HJ.out HNX.out HSP.out.1 HSP.out.2.1 HSP.out.2.2
  clear q5 k5 r5
  go_upto_region 5 with (go_at_call 64; refine HSPL.mono ?_; rintro e w6 ⟨rfl, k6, x6, q6⟩)
  clear HSPL a0 a1 a2 a3 a4
  have HR6 : Hid (w6.rowIs (N + 3) 132 6 (fun i => .int .i64 (lookP false s0 (os.zip ps) (fun _ => 0) i))) := HR5.out.of_block (q6.blk _ HR5.out.lt (by omega) (by omega))
  have HQ6 : Hid (Kq N W w6 ∧ Kl N X G w w6) := ⟨HQ5.out.1.kp q6 (by have := HWS.out; omega) (by omega) (by omega), HQ5.out.2.kp q6 HNN.out (by omega) (by omega)⟩
  have HNX6 : Hid (NxOk jl (splP jl s0 os ps sp)) := x6
  obtain ⟨a0, a1, a2, a3, a4⟩ := HCL.out _ HQ6.out.1
  have HL2 := look_any wb X G fr (N + 3) (N + 1) N (N + 2) h (splP jl s0 os ps sp) left ve ao ap no co cp os ps (lookP false s0 (os.zip ps) (fun _ => 0)) true w6 k6 hfr HSL.out.1 HSL.out.2.1 HSL.out.2.2.1 HSL.out.2.2.2.1 hno HSL.out.2.2.2.2 a2 a0 a4 HR6.out (by omega) (by omega) (by omega) (by omega) (by omega) (by omega)
  clear k6 x6 q6 HR5 HQ5 HK5 a0 a1 a2 a3 a4
  go_upto_region 6 with (go_at_call 63; refine HL2.mono ?_; rintro e w7 ⟨rfl, k7, r7, q7⟩)
  clear HL2
  have HQ7 : Hid (Kq N W w7 ∧ Kl N X G w w7) := ⟨HQ6.out.1.kp q7 (by have := HWS.out; omega) (by omega) (by omega), HQ6.out.2.kp q7 HNN.out (by omega) (by omega)⟩
  have HK7 : Hid (MwS wb X G fr h (splP jl s0 os ps sp) left ve w7) := k7
  have HR7 : Hid (w7.rowIs (N + 3) 132 6 (fun i => .int .i64 (seenP jl s0 os ps sp i))) := r7
  have l7 : N + 4 ≤ w7.heap.size := by have := HQ7.out.1.size; have := HWS.out; omega
  obtain ⟨a0, a1, a2, a3, a4⟩ := HCL.out _ HQ7.out.1
  clear k7 r7 q7 HQ6 HR6 HCL
  obtain ⟨f2, hf2⟩ : ∃ f2, seenP jl s0 os ps sp = f2 := ⟨_, rfl⟩
  have HF2 : Hid (seenP jl s0 os ps sp = f2) := hf2
  rw [hf2] at HR7
  clear hf2
  have HG0 : Hid (GrS w7 w7.heap.size (.slice none 0 0) (readP f2 0 (os.take 0)) w7) := GrS.nil w7
  obtain ⟨N7, hN7⟩ : ∃ N7, w7.heap.size = N7 := ⟨_, rfl⟩
  rw [hN7] at HG0 l7
  have HN7 : Hid (w7.heap.size = N7) := hN7
  have HC7 : Hid (w7.cell? ⟨N, 0, none⟩ = some (.pointer (some ⟨X, 0, none⟩)) ∧ w7.cell? ⟨N + 1, 0, none⟩ = some (.int .i64 op) ∧ w7.cell? ⟨N + 1, 1, none⟩ = some (.slice ao no co) ∧ w7.cell? ⟨N + 1, 2, none⟩ = some (.slice asp nsp csp) ∧ w7.cell? ⟨N + 2, 0, none⟩ = some (.slice ap no cp)) := ⟨a0, a1, a2, a3, a4⟩
  clear hN7 a0 a1 a3 a4
  --CUT2
  go_wp2_with fail
  clear a2
  go_loopw [24, 9] (fun i v wr => ∃ (j n : Nat) (as' : Option Addr) (cs' : Nat), j ≤ no ∧ n ≤ j ∧ i = .int .i64 j ∧ v = .slice as' n cs' ∧ Hid (GrS w7 N7 (.slice as' n cs') (readP f2 0 (os.take j)) wr) ∧ n = (readP f2 0 (os.take j)).length) (fun i _ _ => no - (intOf i).toNat)
  case atStart => exact ⟨0, 0, _, _, Nat.zero_le _, Nat.le_refl _, rfl, rfl, HG0.out, rfl⟩
  case round =>
    clear HG0
    obtain ⟨j, n, as', cs', hj, hnj, rfl, rfl, HI, hln⟩ := hrel
    by_cases hlt : j < no
    · have hjo : j < os.length := by rw [HSL.out.2.1]; exact hlt
      have hji : (j : Int) < (no : Int) := by omega
      have hj6 : j < 6 := by omega
      have hj6i : (j : Int) < 6 := by omega
      have hb7 : Below wb.heap.size wb wr := HK7.out.low.trans (HI.out.low.mono (by omega))
      obtain ⟨b8, off8, rfl, hb8, o0, o1, o2, o3, o4⟩ := opr_at (HSL.out.1.below hb7 fun _ _ h => h) j hjo
      have v7 := HR7.out.cell (i := j) hj6
      have v1 : wr.cell? ⟨N + 3, j, none⟩ = some (.int .i64 (f2 j)) := (HI.out.low.cell (p := ⟨N + 3, j, none⟩) (show N + 3 < N7 by omega)).trans v7
      have HT : Hid (readP f2 0 (os.take (j + 1)) = if os[j].kind = 1 then readP f2 0 (os.take j) ++ [f2 j] else readP f2 0 (os.take j)) := by
        have h1 := readP_take f2 os 0 j hjo
        rw [Nat.zero_add] at h1
        exact h1
      have HLN : Hid ((readP f2 0 (os.take j)).length = n) := hln.symm
      clear v7 hb7 hln
      generalize os[j] = o at *
      generalize f2 j = x at *
      obtain ⟨gl, hgl⟩ : ∃ gl, readP f2 0 (os.take j) = gl := ⟨_, rfl⟩
      rw [hgl] at HI HT HLN
      clear hgl
      obtain ⟨okd, ovl, olt, olm, onn⟩ := o
      simp only at o0 o1 o2 o3 o4
      obtain ⟨W5, hW5⟩ : ∃ W5, W5 = wr.alloc (.cells #[.int .i64 okd, .int .i64 ovl, .bool olt, .int .i64 olm, .int .i64 onn] 78) := ⟨_, rfl⟩
      obtain ⟨M, hM⟩ : ∃ M, wr.heap.size = M := ⟨_, rfl⟩
      have b5 : Below wr.heap.size wr W5 := by rw [hW5]; exact (Below.refl _ _).alloc (Nat.le_refl _) _
      have m0 : W5.cell? ⟨M, 0, none⟩ = some (.int .i64 okd) := by rw [hW5, ← hM]; simp
      have HG5 : Hid (GrS w7 N7 (.slice as' n cs') gl W5) := HI.out.below b5
      have v5 : W5.cell? ⟨N + 3, j, none⟩ = some (.int .i64 x) := (b5.cell (p := ⟨N + 3, j, none⟩) (block_lt v1)).trans v1
      have HW5 : Hid (W5 = wr.alloc (.cells #[.int .i64 okd, .int .i64 ovl, .bool olt, .int .i64 olm, .int .i64 onn] 78)) := hW5
      have HMM : Hid (wr.heap.size = M) := hM
      by_cases hk1 : okd = 1
      · have q : (okd == 1) = true := by simp [hk1]
        have HE : Hid (readP f2 0 (os.take (j + 1)) = gl ++ [x]) := by
          have h1 := HT.out
          rw [if_pos hk1] at h1
          exact h1
        clear hW5 hM hk1 HI HT
        go_upto_region 10 with fail
        try rw [← HW5.out]
        try rw [HMM.out]
        go_upto_region 11 with fail
        clear HW5 HMM o0 o1 o2 o3 o4 hb8 m0 v1 b5 q
        have hle := HG5.out.le
        have own := HG5.out.own
        rw [HLN.out] at own
        have oA := own.alloc (.cells #[.int .i64 x] 3)
        --CUT3
        go_wp2_with (at_builtin; go_must (refine wpList_append_lies _ rfl _ _ 22 rfl N7 3 i3 (.int .i64 0) 1 8 Try.underlying22 hi3 hz3 hz31 hz32 rfl (by omega) (.slice as' n cs') n _ (by rfl) oA ⟨W5.heap.size, 0, none⟩ 1 1 [.int .i64 x] (by rfl) (by rfl) ?e1 ?e2 (by omega) ?e3 ?e4 ?e5 (W5.heap.size + 1) ?e6 ?_))
        rotate_left
        any_goals (first | (exact ru_news rfl) | rfl | (show Value.oneCell' _ = true; simp [Value.oneCell']) | (intro u hu; simp at hu; subst hu; rfl) | (unfold maxLen; omega) | omega | (simp; omega) | (simp; rfl) | (simp; done))
        intro g cap wb2 hown hgrow hat hgl
        have HP : Hid (GrS w7 N7 (.slice (some ⟨g, 0, none⟩) (n + 1) cap) (readP f2 0 (os.take (j + 1))) wb2) := by
          show GrS _ _ _ _ _
          rw [HE.out]
          exact (HG5.out.below ((Below.refl _ _).alloc (Nat.le_refl _) _)).push (by rw [HLN.out]; rfl) hgrow hown
        clear hown hgrow hat hgl oA own v5 hle
        go_wp2
        go_roundw
        case rel => exact ⟨j + 1, n + 1, _, _, by omega, by omega, by go_num, rfl, HP, by rw [HE.out, List.length_append, HLN.out]; rfl⟩
        case measure => simp [intOf]; omega
      · have q : (okd == 1) = false := by simp [hk1]
        have HE : Hid (readP f2 0 (os.take (j + 1)) = gl) := by
          have h1 := HT.out
          rw [if_neg hk1] at h1
          exact h1
        have HP : Hid (GrS w7 N7 (.slice as' n cs') (readP f2 0 (os.take (j + 1))) W5) := by
          show GrS _ _ _ _ _
          rw [HE.out]
          exact HG5.out
        rw [hW5] at HP
        clear hW5 hM hk1 HI HT HW5 HMM HG5 m0 v5 b5 v1
        go_wp2
        go_roundw
        case rel => exact ⟨j + 1, n, _, _, by omega, by omega, by go_num, rfl, HP, by rw [HE.out, HLN.out]⟩
        case measure => simp [intOf]; omega
    · have HGE : Hid (GrS w7 N7 (.slice as' n cs') (readP f2 0 os) wr ∧ (readP f2 0 os).length = n) := by
        have h1 := HI.out
        rw [List.take_of_length_le (by have := HSL.out.2.1; omega)] at h1 hln
        exact ⟨h1, hln.symm⟩
      have hn6 : n ≤ 6 := by omega
      clear HI hln
      have hlow := HGE.out.1.low
      have hc := HC7.out
      obtain ⟨a0, a1, a2, a3, a4⟩ := hc
      have d0 := (hlow.cell (p := ⟨N, 0, none⟩) (show N < N7 by omega)).trans a0
      have d1 := (hlow.cell (p := ⟨N + 1, 0, none⟩) (show N + 1 < N7 by omega)).trans a1
      have d2 := (hlow.cell (p := ⟨N + 1, 1, none⟩) (show N + 1 < N7 by omega)).trans a2
      have d3 := (hlow.cell (p := ⟨N + 1, 2, none⟩) (show N + 1 < N7 by omega)).trans a3
      have d4 := (hlow.cell (p := ⟨N + 2, 0, none⟩) (show N + 2 < N7 by omega)).trans a4
      have HB8 : Hid (Below w7.heap.size w7 wr) := by show Below _ _ _; rw [HN7.out]; exact hlow
      have HOW : Hid (∀ g, (Value.slice as' n cs').ownBlock = some g → g ≠ X ∧ g ≠ G ∧ w.heap.size ≤ g ∧ g < wr.heap.size) := fun g hg => by
        have h1 := own_base HGE.out.1.own hg
        have := HZZ.out
        exact ⟨by omega, by omega, by omega, h1.2⟩
      have HSR : Hid (SlOf wr 1 RInt (.slice as' n cs') (readP f2 0 os)) := HGE.out.1.sl (by rw [HGE.out.2]; unfold longest; omega)
      have HMK := mmakes_any wb X G fr h (splP jl s0 os ps sp) left ve op ao ap asp no co cp nsp csp os ps wr (HK7.out.below HB8.out) hfr HSL.out.1 HSL.out.2.1 HSL.out.2.2.1 HSL.out.2.2.2.1 (by omega) HSL.out.2.2.2.2 seed (readP f2 0 os) as' n cs' H4.out HSR.out HGE.out.2 (Or.inr fun g hg => ⟨(HOW.out g hg).1, (HOW.out g hg).2.1⟩)
      clear a0 a1 a2 a3 a4 hlow
      --CUT4
      go_upto_region 13 with fail
      go_upto_region 14 with (go_at_call 65; refine HMK.mono ?_; rintro e w9 ⟨rfl, k9, q9⟩)
      have HF : Hid (n = (doesR jl s0 os ps sp).length ∧ SlOf w9 1 RInt (.slice as' n cs') (doesR jl s0 os ps sp) ∧ (∀ g, (Value.slice as' n cs').ownBlock = some g → w.heap.size ≤ g ∧ g < w9.heap.size) ∧ MwS wb X G fr h (doesS seed op jl s0 os ps sp) left ve w9 ∧ NxOk jl (doesS seed op jl s0 os ps sp) ∧ Kp X G w w9) := by
        have hq8 : Kl N X G w wr := HQ7.out.2.kp (Kp.below (X := X) (G := G) HB8.out) HNN.out (Or.inl rfl) (Or.inl rfl)
        have hq9 := hq8.kp q9 HNN.out (Or.inl rfl) (Or.inl rfl)
        unfold doesR doesS
        have e2 : doesR jl s0 os ps sp = readP f2 0 os := by unfold doesR; rw [HF2.out]
        rw [e2, HF2.out]
        refine ⟨HGE.out.2.symm, sl_kp HSR.out q9 (Or.inr fun g hg => ⟨(HOW.out g hg).1, (HOW.out g hg).2.1⟩), fun g hg => ⟨(HOW.out g hg).2.2.1, Nat.lt_of_lt_of_le (HOW.out g hg).2.2.2 q9.size⟩, k9, ?_, ⟨hq9.size, fun q h1 h2 h3 => hq9.blk q (by have := HZZ.out; omega) h2 h3⟩⟩
        have := HNX6.out
        unfold NxOk at this ⊢
        rw [makesP_nx]
        exact this
      clear k9 q9 HMK d0 d1 d2 d3 d4
      go_wp2
      go_ret
      exact ⟨_, _, _, rfl, HF.out⟩
end Go.Proofs.Ytjbjnndmpheedaa
