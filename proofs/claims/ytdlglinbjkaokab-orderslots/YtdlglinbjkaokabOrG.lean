/-
  The contract of 'work.ring': a ring of moves that are left.
-/
import Derived.Test.YtdlglinbjkaokabOrF
namespace Go.Proofs.Ytdlglinbjkaokab
open Go.RowKit
set_option linter.unusedVariables false

section
variable {P : Program} {o : Oper} {a : Act} {w w' : World} {K : Act → World → Prop} {Q : Exit → Act → World → Prop}
theorem wpL_append {ops : Array Oper} {rest : List Oper} (hgd : o.guard = none) (s x : Operand) (t : TypeId) (ho : o.op = .call { callee := .builtin .append, args := #[s, x], argTypes := #[t, t] }) {v1 v2 v : Value} (h1 : a.eval s = v1) (h2 : a.eval x = v2) (hr : (Builtin.append_ #[t, t] o.type #[v1, v2]).run P w = .ok v w') (h : wpList P ops Q rest (a.put o.dst v) w') : wpList P ops Q (o :: rest) a w :=
  wpList_plain hgd fun _ hK => wpO_append s x t ho h1 h2 hr (hK _ _ h)
end
section
variable {X bc bl br B : Nat} {r0 r1 fr : Int} {nC : Nat} {fC : Pl → Option Value} {nL nR : Nat} {left : Pl → Option Pl} {rd : Pl → Int} {vd : Value} {done : List Mv} {w w' : World}
theorem WoS.grown {row : Option Nat} (k : WoS X bc bl br B r0 r1 fr nC fC nL nR left rd vd done w) (hg : w.grownBy w' row) (hr : ∀ g, row = some g → B ≤ g ∧ vd.ownBlock ≠ some g) : WoS X bc bl br B r0 r1 fr nC fC nL nR left rd vd done w' := by
  have l1 := k.l1
  have l2 := k.l2
  have l3 := k.l3
  have l4 := k.l4
  have lB := k.lB
  obtain ⟨fR, hR, hR2⟩ := k.mr
  have hb : ∀ q, q < B → w'.heap[q]? = w.heap[q]? := fun q hq => hg.block q (by omega) fun e => by have := (hr q e.symm).1; omega
  exact ⟨k.bx.of_block (hb _ (by omega)), k.mc.of_block (hb _ (by omega)), k.ml.of_block (hb _ (by omega)), ⟨fR, hR.of_block (hb _ (by omega)), hR2⟩, own_keep k.own fun g h1 h2 h3 => hg.block g h3 fun e => (hr g e.symm).2 h1, l1, l2, l3, l4, Nat.le_trans lB hg.size⟩
theorem Kq.grown {va vb : Value} {w0 : World} {row : Option Nat} (h : Kq X bl br va vb w0 w) (hg : w.grownBy w' row) (hr : ∀ g, row = some g → w0.heap.size ≤ g) : Kq X bl br va vb w0 w' :=
  ⟨hg.os.trans h.os, hg.tape.trans h.tape, hg.output.trans h.output, Nat.le_trans h.size hg.size, fun q hq n1 n2 n3 n4 => (hg.block q (by have := h.size; omega) fun e => by have := hr q e.symm; omega).trans (h.block q hq n1 n2 n3 n4), h.own⟩
end
/-- While a ring is walked. -/
structure RgC (X bc bl br B : Nat) (r0 r1 fr : Int) (nC : Nat) (fC : Pl → Option Value) (nL nR : Nat) (left : Pl → Option Pl) (rd : Pl → Int) (vd : Value) (done : List Mv) (w0 : World) (first : Pl) (ring : List Mv) (cur : Pl) (s : Value) (Z : Nat) (w : World) : Prop where
  st : WoS X bc bl br B r0 r1 fr nC fC nL nR (without left ring) rd vd done w
  kq : Kq X bl br vd vd w0 w
  rg : RingG left first ring cur
  own : w.ownsRow w0.heap.size 29 6 s ring.length (ring.flatMap cMv)
  rZ : w.rowIs Z 26 3 (plF cur)
  lZ : w0.heap.size ≤ Z
  oZ : s.ownBlock ≠ some Z
  wf : PlWf cur
def slN : Value → Nat | .slice _ k _ => k | _ => 0
theorem ring_len {r0 r1 fr : Int} {l : List Mv} {cl : Pl → Int} {left : Pl → Option Pl} {done : List Mv} (F : FitO r0 r1 fr l cl) (I : OrI r0 r1 fr l cl left done) {first cur : Pl} {ring : List Mv} (h : RingG left first ring cur) : cntL l left = cntL l (without left ring) + ring.length :=
  cntL_without F ring h.nd (fun x hx e => by rw [h.is x hx] at e; cases e) (fun x hx => by
    obtain ⟨⟨m, hm, hd, _⟩, _⟩ := I.src _ _ (h.is x hx)
    exact ⟨m, hm, hd⟩)
set_option maxHeartbeats 16000000 in
theorem ring_any {X bc bl br B : Nat} {r0 r1 fr : Int} {nC : Nat} {fC : Pl → Option Value} {nR : Nat} {l : List Mv} {cl : Pl → Int} {left : Pl → Option Pl} {rd : Pl → Int} {vd : Value} {done : List Mv} {w : World} (F : FitO r0 r1 fr l cl) (hwf : ∀ m ∈ l, PlWf m.src ∧ PlWf m.dst) (hlen : l.length ≤ 5000) (I : OrI r0 r1 fr l cl left done) (hp : PermL left) (first : Pl) (hf : left first ≠ none) (k : WoS X bc bl br B r0 r1 fr nC fC l.length nR left rd vd done w) :
    Calls Try.prog 22 #[.pointer (some ⟨X, 0, none⟩), .agg #[.int .i64 first.kind, .int .i64 first.cls, .int .i64 first.n]] w fun e w' => ∃ (ring : List Mv) (vr : Value), e = .returned vr ∧ ring ≠ [] ∧ RingG left first ring first ∧ WoS X bc bl br B r0 r1 fr nC fC l.length nR (without left ring) rd vd done w' ∧ Kq X bl br vd vd w w' ∧ w'.ownsRow w.heap.size 29 6 vr ring.length (ring.flatMap cMv) := by
  obtain ⟨N, hN⟩ : ∃ N, w.heap.size = N := ⟨_, rfl⟩
  obtain ⟨W, hW⟩ : ∃ W, W = (w.alloc (.cells #[.int .i64 first.kind, .int .i64 first.cls, .int .i64 first.n] 26)).alloc (.cells #[.int .i64 first.kind, .int .i64 first.cls, .int .i64 first.n] 26) := ⟨_, rfl⟩
  have hbw : Below w.heap.size w W := by rw [hW]; exact ((Below.refl _ _).alloc (Nat.le_refl _) _).alloc (by simp) _
  have z1 : (w.alloc (.cells #[.int .i64 first.kind, .int .i64 first.cls, .int .i64 first.n] 26)).heap.size = N + 1 := by rw [← hN]; simp
  have rZ := pl_row (w.alloc (.cells #[.int .i64 first.kind, .int .i64 first.cls, .int .i64 first.n] 26)) first
  rw [z1, ← hW] at rZ
  have lBw : B ≤ w.heap.size := k.lB
  have lt1 := k.l1
  have lt2 := k.l2
  have lt3 := k.l3
  have lt4 := k.l4
  obtain ⟨pf, hpf⟩ := Option.ne_none_iff_exists'.1 hf
  have hwff : PlWf first := by
    obtain ⟨⟨m, hm, hd, _⟩, _⟩ := I.src _ _ hpf
    rw [← hd]
    exact (hwf m hm).2
  have HS0 : Hid (RgC X bc bl br B r0 r1 fr nC fC l.length nR left rd vd done w first [] first (.slice none 0 0) (N + 1) W) := by
    refine ⟨?_, Kq.of_below hbw, RingG.nil left first, ⟨rfl, Or.inl ⟨rfl, rfl⟩⟩, rZ, by omega, by simp [Value.ownBlock], hwff⟩
    rw [without_nil]
    exact k.below hbw
  have HW : Hid (W = (w.alloc (.cells #[.int .i64 first.kind, .int .i64 first.cls, .int .i64 first.n] 26)).alloc (.cells #[.int .i64 first.kind, .int .i64 first.cls, .int .i64 first.n] 26)) := hW
  have HN : Hid (w.heap.size = N) := hN
  have HF : Hid (FitO r0 r1 fr l cl ∧ (∀ m ∈ l, PlWf m.src ∧ PlWf m.dst) ∧ OrI r0 r1 fr l cl left done ∧ PermL left ∧ left first ≠ none ∧ l.length ≤ 5000) := ⟨F, hwf, I, hp, hf, hlen⟩
  have HVO : Hid (∀ g, vd.ownBlock = some g → g < w.heap.size) := fun g hg => (own_base k.own hg).2
  clear hN hW hbw z1 rZ hpf pf hwff F hwf I hp hf hlen k
  go_enter Try.func22, Try.ntmps22
  go_upto_region 3 with fail
  rw [← HW.out, HN.out]
  clear HW
  --CUT1
  go_loopw [6, 5] (fun v s wr => ∃ (Z : Nat) (q : Pl) (ring : List Mv) (as' : Option Addr) (k' cs' : Nat), v = .pointer (some ⟨Z, 0, none⟩) ∧ s = .slice as' k' cs' ∧ k' ≤ 5000 ∧ Hid (RgC X bc bl br B r0 r1 fr nC fC l.length nR left rd vd done w first ring q (.slice as' k' cs') Z wr ∧ ring.length = k')) (fun _ s _ => 5001 - slN s)
  case atStart => exact ⟨_, _, _, _, _, _, rfl, rfl, by omega, HS0.out, rfl⟩
  case round =>
    clear HS0
    obtain ⟨Z, q, ring, as', k', cs', rfl, rfl, hk5, HI⟩ := hrel
    obtain ⟨hI, hlr⟩ := HI.out
    have lB := hI.st.lB
    have lZ := hI.rZ.lt
    have lw0 := hI.kq.size
    have hlZ := hI.lZ
    obtain ⟨p, hpp⟩ : ∃ p, p = (without left ring q).getD ⟨0, 0, 0⟩ := ⟨_, rfl⟩
    obtain ⟨il, hil⟩ : ∃ il, (without left ring q).isSome = il := ⟨_, rfl⟩
    obtain ⟨V, hV⟩ : ∃ V, wr.heap.size = V := ⟨_, rfl⟩
    have HSA : Hid (∀ w', Below wr.heap.size wr w' → (fun w' => w'.cell? ⟨X, 4, none⟩ = some (.map (some bl)) ∧ w'.cell? ⟨Z, 0, none⟩ = some (.int .i64 q.kind) ∧ w'.cell? ⟨Z, 1, none⟩ = some (.int .i64 q.cls) ∧ w'.cell? ⟨Z, 2, none⟩ = some (.int .i64 q.n) ∧ (Instr.lookup 43 (.map (some bl)) (.agg #[.int .i64 q.kind, .int .i64 q.cls, .int .i64 q.n]) true).run Try.prog w' = .ok (.tuple #[.agg #[.int .i64 p.kind, .int .i64 p.cls, .int .i64 p.n], .bool il]) w') w') := fun w' hh => by
      have kk := hI.st.below hh
      have rr := hI.rZ.of_block (hh.block Z lZ)
      refine ⟨kk.bx.cell (i := 4) (by omega), rr.cell (i := 0) (by omega), rr.cell (i := 1) (by omega), rr.cell (i := 2) (by omega), ?_⟩
      have h := kk.ml.look_ok Try.underlying43 (zeroPl w') hI.wf
      rw [leftV_getD, leftV_some, ← hpp, hil] at h
      exact h
    have HPP : Hid (p = (without left ring q).getD ⟨0, 0, 0⟩) := hpp
    have HIL : Hid ((without left ring q).isSome = il) := hil
    clear hpp hil
    go_upto_region 3 with fail
    --CUT2
    refine wp_region_X (fun w' => w'.cell? ⟨X, 4, none⟩ = some (.map (some bl)) ∧ w'.cell? ⟨Z, 0, none⟩ = some (.int .i64 q.kind) ∧ w'.cell? ⟨Z, 1, none⟩ = some (.int .i64 q.cls) ∧ w'.cell? ⟨Z, 2, none⟩ = some (.int .i64 q.n) ∧ (Instr.lookup 43 (.map (some bl)) (.agg #[.int .i64 q.kind, .int .i64 q.cls, .int .i64 q.n]) true).run Try.prog w' = .ok (.tuple #[.agg #[.int .i64 p.kind, .int .i64 p.cls, .int .i64 p.n], .bool il]) w') 99 (by kernel_rfl) (HSA.out _ ((Below.refl _ _).drew)) (fun hHeld => ?_)
    refine wpXt (v := ?_) 0 rfl (by kernel_rfl) (fun _ _ _ h => h) (by rfl) ?_ hHeld ?_
    rotate_left
    · intro w' hSw
      go_simp <;> with_reducible rfl
    try simp only [Act.put, List.setIfInBounds_toArray, List.set_cons_zero, List.set_cons_succ]
    refine wpXt (v := ?_) 1 rfl (by kernel_rfl) (fun _ _ _ h => h) (by rfl) ?_ hHeld ?_
    rotate_left
    · intro w' hSw
      go_simp <;> with_reducible rfl
    try simp only [Act.put, List.setIfInBounds_toArray, List.set_cons_zero, List.set_cons_succ]
    refine wpXt (v := ?_) 2 rfl (by kernel_rfl) (fun _ _ _ h => h) (by rfl) ?_ hHeld ?_
    rotate_left
    · intro w' hSw
      go_simp <;> with_reducible rfl
    try simp only [Act.put, List.setIfInBounds_toArray, List.set_cons_zero, List.set_cons_succ]
    refine wpXt (v := ?_) 3 rfl (by kernel_rfl) (fun _ _ _ h => h) (by rfl) ?_ hHeld ?_
    rotate_left
    · intro w' hSw
      go_simp <;> with_reducible rfl
    try simp only [Act.put, List.setIfInBounds_toArray, List.set_cons_zero, List.set_cons_succ]
    refine wpXt (v := ?_) 4 rfl (by kernel_rfl) (fun _ _ _ h => h) (by rfl) ?_ hHeld ?_
    rotate_left
    · intro w' hSw
      go_simp <;> with_reducible rfl
    try simp only [Act.put, List.setIfInBounds_toArray, List.set_cons_zero, List.set_cons_succ]
    refine wpXt (v := .tuple #[.agg #[.int .i64 p.kind, .int .i64 p.cls, .int .i64 p.n], .bool il]) 5 rfl (by kernel_rfl) (fun _ _ _ h => h) (by rfl) ?_ hHeld ?_
    · intro w' hSw
      exact execO_lookup _ _ _ _ rfl rfl rfl hSw.2.2.2.2
    try simp only [Act.put, List.setIfInBounds_toArray, List.set_cons_zero, List.set_cons_succ]
    refine wpXt (v := ?_) 6 rfl (by kernel_rfl) (fun _ _ _ h => h) (by rfl) ?_ hHeld ?_
    rotate_left
    · intro w' hSw
      go_simp <;> with_reducible rfl
    try simp only [Act.put, List.setIfInBounds_toArray, List.set_cons_zero, List.set_cons_succ]
    refine wpXt (v := ?_) 7 rfl (by kernel_rfl) (fun _ _ _ h => h) (by rfl) ?_ hHeld ?_
    rotate_left
    · intro w' hSw
      go_simp <;> with_reducible rfl
    try simp only [Act.put, List.setIfInBounds_toArray, List.set_cons_zero, List.set_cons_succ]
    refine wpXt (v := ?_) 8 rfl (by kernel_rfl) (fun _ _ _ h => h) (by rfl) ?_ hHeld ?_
    rotate_left
    · intro w' hSw
      go_simp <;> with_reducible rfl
    try simp only [Act.put, List.setIfInBounds_toArray, List.set_cons_zero, List.set_cons_succ]
    refine wpXs 9 rfl (by kernel_rfl) (fun K hK => ?_)
    go_simp
    refine hK.out _ _ (HSA.out _ (((Below.refl wr.heap.size wr).drew).alloc (Nat.le_refl _) _)) (fun hHeld => ?_)
    clear hK K
    try simp only [Act.put, List.setIfInBounds_toArray, List.set_cons_zero, List.set_cons_succ]
    refine wpXs 10 rfl (by kernel_rfl) (fun K hK => ?_)
    go_simp
    refine hK.out _ _ (HSA.out _ (((Below.refl wr.heap.size wr).drew).alloc (Nat.le_refl _) _)) (fun hHeld => ?_)
    clear hK K
    try simp only [Act.put, List.setIfInBounds_toArray, List.set_cons_zero, List.set_cons_succ]
    refine wpXt (v := ?_) 11 rfl (by kernel_rfl) (fun _ _ _ h => h) (by rfl) ?_ hHeld ?_
    rotate_left
    · intro w' hSw
      go_simp <;> with_reducible rfl
    try simp only [Act.put, List.setIfInBounds_toArray, List.set_cons_zero, List.set_cons_succ]
    refine wpAnyX_done (by kernel_rfl) ?_ _
    obtain ⟨W3, hW3⟩ : ∃ W3, W3 = (wr.alloc (.cells #[.int .i64 p.kind, .int .i64 p.cls, .int .i64 p.n] 26)).drew := ⟨_, rfl⟩
    have hb3 : Below wr.heap.size wr W3 := by rw [hW3]; exact ((Below.refl _ _).alloc (Nat.le_refl _) _).drew
    have rV3 : W3.rowIs V 26 3 (plF p) := by rw [hW3, ← hV]; exact (pl_row wr p).drew
    have rZ3 := hI.rZ.of_block (hb3.block Z lZ)
    have k3 := hI.st.below hb3
    have kq3 := hI.kq.trans (Kq.of_below (X := X) (bl := bl) (br := br) (vd := vd) hb3)
    have own3 : W3.ownsRow w.heap.size 29 6 (.slice as' k' cs') k' (ring.flatMap cMv) := by
      have h := own_keep hI.own fun g _ _ hg => hb3.block g hg
      rw [hlr] at h
      exact h
    have hz3 := hb3.size
    have HW3 : Hid (W3 = (wr.alloc (.cells #[.int .i64 p.kind, .int .i64 p.cls, .int .i64 p.n] 26)).drew) := hW3
    clear hW3 hHeld HSA
    rw [← HW3.out]
    --CUT3
    cases hwi : without left ring q with
    | none =>
      have hilf : il = false := by rw [← HIL.out, hwi]; rfl
      subst hilf
      obtain ⟨e1, e2⟩ := hI.rg.shut HF.out.2.2.2.1 HF.out.2.2.2.2.1 hwi
      have HE : Hid (ring ≠ [] ∧ RingG left first ring first ∧ WoS X bc bl br B r0 r1 fr nC fC l.length nR (without left ring) rd vd done W3 ∧ Kq X bl br vd vd w W3 ∧ W3.ownsRow w.heap.size 29 6 (.slice as' k' cs') ring.length (ring.flatMap cMv)) := by
        rw [← hlr] at own3
        have h := hI.rg
        rw [e1] at h
        exact ⟨e2, h, k3, kq3, by rw [hlr]; rw [hlr] at own3; exact own3⟩
      clear HI hI hlr hwi e1 e2 own3 k3 kq3 rZ3 rV3 hb3 HIL HPP
      go_wp2
      --CUT4
      go_ret
      exact ⟨ring, _, rfl, HE.out⟩
    | some p' =>
      have hilf : il = true := by rw [← HIL.out, hwi]; rfl
      subst hilf
      have hpe : p = p' := by rw [HPP.out, hwi]; rfl
      subst hpe
      have hwp : PlWf p := by
        have h := hwi
        unfold without at h
        split at h
        · cases h
        · obtain ⟨⟨m, hm, _, hs⟩, _⟩ := HF.out.2.2.1.src _ _ h
          rw [← hs]
          exact (HF.out.2.1 m hm).1
      have rg2 := hI.rg.push hwi
      have hrl := ring_len HF.out.1 HF.out.2.2.1 rg2
      have hcl : cntL l left ≤ l.length := List.length_filter_le _ _
      have hl5 := HF.out.2.2.2.2.2
      have hk6 : k' + 1 ≤ 5000 := by
        rw [List.length_append, hlr] at hrl
        simp at hrl
        omega
      have hBs : w.heap.size ≤ W3.heap.size := by omega
      obtain ⟨gg, cap, w5, hr, ho5, hg5, hat⟩ := app_moves (w := W3) own3 hBs [⟨p, q⟩] #[.int .i64 p.kind, .int .i64 p.cls, .int .i64 p.n, .int .i64 q.kind, .int .i64 q.cls, .int .i64 q.n] rfl 1 rfl (by omega) (by omega) 1 23
      have hsown : ∀ g, (Value.slice as' k' cs').ownBlock = some g → w.heap.size ≤ g := fun g hg => (own_base own3 hg).1
      have hvs : ∀ g, (Value.slice as' k' cs').ownBlock = some g → vd.ownBlock ≠ some g := fun g hg e => by
        have := hsown g hg
        have := HVO.out g e
        omega
      have ha3 := (Below.refl W3.heap.size W3).alloc (Nat.le_refl _) (.cells #[.int .i64 p.kind, .int .i64 p.cls, .int .i64 p.n, .int .i64 q.kind, .int .i64 q.cls, .int .i64 q.n] 29)
      have k4 := k3.below ha3
      have k5 := k4.grown hg5 (fun g hg => ⟨by have := hsown g hg; omega, hvs g hg⟩)
      have kq5 := (kq3.trans (Kq.of_below (vd := vd) ha3)).grown hg5 hsown
      have nV : (Value.slice as' k' cs').ownBlock ≠ some V := fun e => by
        have := (own_base hI.own e).2
        omega
      have hlV : V < W3.heap.size := rV3.lt
      have old5 : ∀ x, x < W3.heap.size → (Value.slice as' k' cs').ownBlock ≠ some x → w5.heap[x]? = W3.heap[x]? := fun x hx hn => (hg5.block x (by simp; omega) (fun e => hn e.symm)).trans (ha3.block x hx)
      have rZ5 := rZ3.of_block (old5 Z rZ3.lt hI.oZ)
      have rV5 := rV3.of_block (old5 V hlV nV)
      have hz5 : W3.heap.size ≤ w5.heap.size := by have := hg5.size; have := ha3.size; omega
      have k5d := k5.below ((Below.refl w5.heap.size w5).drew)
      obtain ⟨w6, r6, m6, t6⟩ := k5d.ml.drop (ty := 0) Try.underlying43 hI.wf
      have hwe : without left (ring ++ [⟨p, q⟩]) = updP (without left ring) q none := without_snoc left ring ⟨p, q⟩
      have k6 := k5d.turnL (left' := without left (ring ++ [⟨p, q⟩])) t6 (by rw [hwe, leftV_del]; exact m6)
      have nZl : Z ≠ bl := by omega
      have nVl : V ≠ bl := by omega
      have rZ6 := (rZ5.drew).of_block (turned_block t6 nZl)
      have rV6 := (rV5.drew).of_block (turned_block t6 nVl)
      have HSD1 : Hid ((fun w' => w'.cell? ⟨X, 4, none⟩ = some (.map (some bl)) ∧ w'.cell? ⟨Z, 0, none⟩ = some (.int .i64 q.kind) ∧ w'.cell? ⟨Z, 1, none⟩ = some (.int .i64 q.cls) ∧ w'.cell? ⟨Z, 2, none⟩ = some (.int .i64 q.n) ∧ w'.cell? ⟨V, 0, none⟩ = some (.int .i64 p.kind) ∧ w'.cell? ⟨V, 1, none⟩ = some (.int .i64 p.cls) ∧ w'.cell? ⟨V, 2, none⟩ = some (.int .i64 p.n)) w5.drew) := ⟨k5d.bx.cell (i := 4) (by omega), rZ5.drew.cell (i := 0) (by omega), rZ5.drew.cell (i := 1) (by omega), rZ5.drew.cell (i := 2) (by omega), rV5.drew.cell (i := 0) (by omega), rV5.drew.cell (i := 1) (by omega), rV5.drew.cell (i := 2) (by omega)⟩
      have HSD2 : Hid ((fun w' => w'.cell? ⟨X, 4, none⟩ = some (.map (some bl)) ∧ w'.cell? ⟨Z, 0, none⟩ = some (.int .i64 q.kind) ∧ w'.cell? ⟨Z, 1, none⟩ = some (.int .i64 q.cls) ∧ w'.cell? ⟨Z, 2, none⟩ = some (.int .i64 q.n) ∧ w'.cell? ⟨V, 0, none⟩ = some (.int .i64 p.kind) ∧ w'.cell? ⟨V, 1, none⟩ = some (.int .i64 p.cls) ∧ w'.cell? ⟨V, 2, none⟩ = some (.int .i64 p.n)) w6) := ⟨k6.bx.cell (i := 4) (by omega), rZ6.cell (i := 0) (by omega), rZ6.cell (i := 1) (by omega), rZ6.cell (i := 2) (by omega), rV6.cell (i := 0) (by omega), rV6.cell (i := 1) (by omega), rV6.cell (i := 2) (by omega)⟩
      have c0 : W3.cell? ⟨Z, 0, none⟩ = some (.int .i64 q.kind) := rZ3.cell (i := 0) (by omega)
      have c1 : W3.cell? ⟨Z, 1, none⟩ = some (.int .i64 q.cls) := rZ3.cell (i := 1) (by omega)
      have c2 : W3.cell? ⟨Z, 2, none⟩ = some (.int .i64 q.n) := rZ3.cell (i := 2) (by omega)
      have d0 : W3.cell? ⟨V, 0, none⟩ = some (.int .i64 p.kind) := rV3.cell (i := 0) (by omega)
      have d1 : W3.cell? ⟨V, 1, none⟩ = some (.int .i64 p.cls) := rV3.cell (i := 1) (by omega)
      have d2 : W3.cell? ⟨V, 2, none⟩ = some (.int .i64 p.n) := rV3.cell (i := 2) (by omega)
      have HI' : Hid (RgC X bc bl br B r0 r1 fr nC fC l.length nR left rd vd done w first ring q (.slice as' k' cs') Z wr ∧ ring.length = k') := ⟨hI, hlr⟩
      clear HI HPP HIL
      go_upto_region 6 with fail
      --CUT5
      go_wp2_with (at_builtin; refine wpL_append rfl _ _ _ rfl rfl rfl hr ?_)
      --CUT6
      go_upto_region 7 with fail
      --CUT7
      refine wp_region_X (fun w' => w'.cell? ⟨X, 4, none⟩ = some (.map (some bl)) ∧ w'.cell? ⟨Z, 0, none⟩ = some (.int .i64 q.kind) ∧ w'.cell? ⟨Z, 1, none⟩ = some (.int .i64 q.cls) ∧ w'.cell? ⟨Z, 2, none⟩ = some (.int .i64 q.n) ∧ w'.cell? ⟨V, 0, none⟩ = some (.int .i64 p.kind) ∧ w'.cell? ⟨V, 1, none⟩ = some (.int .i64 p.cls) ∧ w'.cell? ⟨V, 2, none⟩ = some (.int .i64 p.n)) 99 (by kernel_rfl) HSD1.out (fun hHeld => ?_)
      refine wpXt (v := ?_) 0 rfl (by kernel_rfl) (fun _ _ _ h => h) (by rfl) ?_ hHeld ?_
      rotate_left
      · intro w' hSw
        go_simp <;> with_reducible rfl
      try simp only [Act.put, List.setIfInBounds_toArray, List.set_cons_zero, List.set_cons_succ]
      refine wpXt (v := ?_) 1 rfl (by kernel_rfl) (fun _ _ _ h => h) (by rfl) ?_ hHeld ?_
      rotate_left
      · intro w' hSw
        go_simp <;> with_reducible rfl
      try simp only [Act.put, List.setIfInBounds_toArray, List.set_cons_zero, List.set_cons_succ]
      refine wpXt (v := ?_) 2 rfl (by kernel_rfl) (fun _ _ _ h => h) (by rfl) ?_ hHeld ?_
      rotate_left
      · intro w' hSw
        go_simp <;> with_reducible rfl
      try simp only [Act.put, List.setIfInBounds_toArray, List.set_cons_zero, List.set_cons_succ]
      refine wpXt (v := ?_) 3 rfl (by kernel_rfl) (fun _ _ _ h => h) (by rfl) ?_ hHeld ?_
      rotate_left
      · intro w' hSw
        go_simp <;> with_reducible rfl
      try simp only [Act.put, List.setIfInBounds_toArray, List.set_cons_zero, List.set_cons_succ]
      refine wpXt (v := ?_) 4 rfl (by kernel_rfl) (fun _ _ _ h => h) (by rfl) ?_ hHeld ?_
      rotate_left
      · intro w' hSw
        go_simp <;> with_reducible rfl
      try simp only [Act.put, List.setIfInBounds_toArray, List.set_cons_zero, List.set_cons_succ]
      refine wpXs 5 rfl (by kernel_rfl) (fun K hK => ?_)
      rw [if_pos (by rfl)]
      refine wpO_delete _ _ _ _ rfl rfl rfl r6 ?_
      refine hK.out _ _ HSD2.out (fun hHeld => ?_)
      clear hK K
      try simp only [Act.put]
      refine wpAnyX_done (by kernel_rfl) ?_ _
      have v0 : w6.cell? ⟨V, 0, none⟩ = some (.int .i64 p.kind) := rV6.cell (i := 0) (by omega)
      have v1 : w6.cell? ⟨V, 1, none⟩ = some (.int .i64 p.cls) := rV6.cell (i := 1) (by omega)
      have v2 : w6.cell? ⟨V, 2, none⟩ = some (.int .i64 p.n) := rV6.cell (i := 2) (by omega)
      have zq0 : w6.cell? ⟨Z, 0, none⟩ = some (.int .i64 q.kind) := rZ6.cell (i := 0) (by omega)
      have zq1 : w6.cell? ⟨Z, 1, none⟩ = some (.int .i64 q.cls) := rZ6.cell (i := 1) (by omega)
      have zq2 : w6.cell? ⟨Z, 2, none⟩ = some (.int .i64 q.n) := rZ6.cell (i := 2) (by omega)
      have f0 := rZ6.frozen 0
      have f1 := rZ6.frozen 1
      have f2 := rZ6.frozen 2
      obtain ⟨w9, hw9⟩ : ∃ w9, w9 = ((w6.setCell ⟨Z, 0, none⟩ (.int .i64 p.kind)).setCell ⟨Z, 1, none⟩ (.int .i64 p.cls)).setCell ⟨Z, 2, none⟩ (.int .i64 p.n) := ⟨_, rfl⟩
      have o9 : ∀ x, x ≠ Z → w9.heap[x]? = w6.heap[x]? := by rw [hw9]; exact set3_off _ _ _ _ _
      have z9 : w9.heap.size = w6.heap.size := by rw [hw9]; exact set3_size _ _ _ _ _
      have nZ : vd.ownBlock ≠ some Z := fun e => by
        have := HVO.out Z e
        omega
      have k9 := k6.off o9 (by omega) (by omega) nZ
      have kq9 : Kq X bl br vd vd w w9 := by
        have a4 := (kq5.trans (Kq.of_below ((Below.refl w5.heap.size w5).drew))).trans (Kq.of_turned t6 (Or.inl rfl))
        refine a4.wr (Z := Z) ?_ ?_ ?_ z9 o9 hlZ <;> rw [hw9] <;> rfl
      have hgZ : gg ≠ Z := fun e => by
        rcases hat with h | h
        · exact hI.oZ (by rw [h, e])
        · have := rZ3.lt
          omega
      have hz6 : w5.heap.size = w6.heap.size := (turned_rest t6).2.2.2.symm
      have hgl : gg < w5.heap.size := by
        have := (own_base ho5 (g := gg) rfl).2
        exact this
      have own9 : w9.ownsRow w.heap.size 29 6 (.slice (some ⟨gg, 0, none⟩) (k' + 1) cap) (k' + 1) ((ring ++ [(⟨p, q⟩ : Mv)]).flatMap cMv) := by
        rw [List.flatMap_append]
        refine own_keep ho5 fun g hg hB hlt => ?_
        have eg : g = gg := by simpa [Value.ownBlock] using hg.symm
        subst eg
        exact (o9 g hgZ).trans (turned_block (w := w5.drew) t6 (by omega))
      have hal := (Below.refl w9.heap.size w9).alloc (Nat.le_refl _) (.cells #[.int .i64 p.kind, .int .i64 p.cls, .int .i64 p.n] 26)
      have HE : Hid (RgC X bc bl br B r0 r1 fr nC fC l.length nR left rd vd done w first (ring ++ [⟨p, q⟩]) p (.slice (some ⟨gg, 0, none⟩) (k' + 1) cap) w9.heap.size (w9.alloc (.cells #[.int .i64 p.kind, .int .i64 p.cls, .int .i64 p.n] 26)) ∧ (ring ++ [(⟨p, q⟩ : Mv)]).length = k' + 1) := by
        have hlen2 : (ring ++ [(⟨p, q⟩ : Mv)]).length = k' + 1 := by simp [hlr]
        refine ⟨⟨k9.below hal, kq9.trans (Kq.of_below hal), rg2, ?_, pl_row w9 p, kq9.size, fun e => ?_, hwp⟩, hlen2⟩
        · rw [hlen2]
          exact own_keep own9 fun g _ _ hg => hal.block g hg
        · have e2 : gg = w9.heap.size := by simpa [Value.ownBlock] using e
          omega
      have HW9 : Hid (w9 = ((w6.setCell ⟨Z, 0, none⟩ (.int .i64 p.kind)).setCell ⟨Z, 1, none⟩ (.int .i64 p.cls)).setCell ⟨Z, 2, none⟩ (.int .i64 p.n)) := hw9
      have HZ9 : Hid (w9.heap.size = w6.heap.size) := z9
      have lZ6 := rZ6.lt
      clear hw9 o9 z9 k9 kq9 own9 hal k6 k5d rZ6 rV6 hI HI' hlr own3 hgl
      --CUT8
      go_wp2
      rw [← HW9.out]
      --CUT9
      exact ⟨⟨_, _, _, _, _, _, rfl, rfl, hk6, by first | exact HE | (rw [← HZ9.out]; exact HE)⟩, by simp [slN]; omega⟩
end Go.Proofs.Ytdlglinbjkaokab
