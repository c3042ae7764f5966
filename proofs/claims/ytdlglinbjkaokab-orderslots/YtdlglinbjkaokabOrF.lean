/-
  The contract of 'work.free': moves are done to where nothing is that is still to be moved, until there is none any more.
-/
import Derived.Test.YtdlglinbjkaokabOrE
import Derived.Test.YtdlglinbjkaokabOrC
namespace Go.Proofs.Ytdlglinbjkaokab
open Go.RowKit
set_option linter.unusedVariables false

def plF (p : Pl) (i : Nat) : Value := if i = 0 then .int .i64 p.kind else if i = 1 then .int .i64 p.cls else .int .i64 p.n
theorem pl_row (w : World) (p : Pl) : (w.alloc (.cells #[.int .i64 p.kind, .int .i64 p.cls, .int .i64 p.n] 26)).rowIs w.heap.size 26 3 (plF p) :=
  World.rowIs_alloc w #[.int .i64 p.kind, .int .i64 p.cls, .int .i64 p.n] 26 (plF p) (fun i hi => by
    have : i = 0 ∨ i = 1 ∨ i = 2 := by simp at hi; omega
    rcases this with rfl | rfl | rfl <;> rfl)
section
variable {X bc bl br B : Nat} {r0 r1 fr : Int} {nC : Nat} {fC : Pl → Option Value} {nL nR : Nat} {left : Pl → Option Pl} {rd : Pl → Int} {vd : Value} {done : List Mv} {w w' : World}
theorem WoS.turnR {nR' : Nat} {rd' : Pl → Int} {fR' : Pl → Option Value} (k : WoS X bc bl br B r0 r1 fr nC fC nL nR left rd vd done w) (t : w.mapTurned w' br) (m : MapF w' br nR' fR') (h : ∀ p, (fR' p).getD (.int .i64 0) = .int .i64 (rd' p)) : WoS X bc bl br B r0 r1 fr nC fC nL nR' left rd' vd done w' := by
  have l1 := k.l1
  have l2 := k.l2
  have l3 := k.l3
  have l4 := k.l4
  have lB := k.lB
  have hz := (turned_rest t).2.2.2
  exact ⟨k.bx.of_block (turned_block t (by omega)), k.mc.of_block (turned_block t (by omega)), k.ml.of_block (turned_block t (by omega)), ⟨_, m, h⟩, own_keep k.own fun g _ hB _ => turned_block t (by omega), l1, l2, l3, l4, by omega⟩
theorem WoS.turnL {left' : Pl → Option Pl} (k : WoS X bc bl br B r0 r1 fr nC fC nL nR left rd vd done w) (t : w.mapTurned w' bl) (m : MapF w' bl nL (leftV left')) : WoS X bc bl br B r0 r1 fr nC fC nL nR left' rd vd done w' := by
  have l1 := k.l1
  have l2 := k.l2
  have l3 := k.l3
  have l4 := k.l4
  have lB := k.lB
  have hz := (turned_rest t).2.2.2
  obtain ⟨fR, hR, hR2⟩ := k.mr
  exact ⟨k.bx.of_block (turned_block t (by omega)), k.mc.of_block (turned_block t (by omega)), m, ⟨fR, hR.of_block (turned_block t (by omega)), hR2⟩, own_keep k.own fun g _ hB _ => turned_block t (by omega), l1, l2, l3, l4, by omega⟩
/-- A block of one's own is written: nothing of the state lies there. -/
theorem WoS.off {V : Nat} (k : WoS X bc bl br B r0 r1 fr nC fC nL nR left rd vd done w) (hb : ∀ q, q ≠ V → w'.heap[q]? = w.heap[q]?) (hs : w.heap.size ≤ w'.heap.size) (hV : B ≤ V) (ho : vd.ownBlock ≠ some V) : WoS X bc bl br B r0 r1 fr nC fC nL nR left rd vd done w' := by
  have l1 := k.l1
  have l2 := k.l2
  have l3 := k.l3
  have l4 := k.l4
  have lB := k.lB
  obtain ⟨fR, hR, hR2⟩ := k.mr
  exact ⟨k.bx.of_block (hb _ (by omega)), k.mc.of_block (hb _ (by omega)), k.ml.of_block (hb _ (by omega)), ⟨fR, hR.of_block (hb _ (by omega)), hR2⟩, own_keep k.own fun g hg _ _ => hb g (fun e => ho (e ▸ hg)), l1, l2, l3, l4, by omega⟩
end
def Stuck (l : List Mv) (left : Pl → Option Pl) (p : Pl) : Prop := left p ≠ none → cntR l left p ≠ 0
/-- While free moves are done. -/
structure FrC (X bc bl br B : Nat) (r0 r1 fr : Int) (nC : Nat) (fC : Pl → Option Value) (l : List Mv) (cl : Pl → Int) (vd0 : Value) (w0 : World) (left : Pl → Option Pl) (rd : Pl → Int) (vd : Value) (done : List Mv) (nR : Nat) (w : World) : Prop where
  st : WoS X bc bl br B r0 r1 fr nC fC l.length nR left rd vd done w
  kq : Kq X bl br vd0 vd w0 w
  inv : OrI r0 r1 fr l cl left done
  cnt : ∀ p, rd p = (cntR l left p : Int)
  bd : nR + cntL l left ≤ 2 * l.length
def FrO (X bc bl br B : Nat) (r0 r1 fr : Int) (nC : Nat) (fC : Pl → Option Value) (l : List Mv) (cl : Pl → Int) (vd0 : Value) (w0 : World) (Y j : Nat) (w : World) : Prop :=
  ∃ left rd vd done nR, FrC X bc bl br B r0 r1 fr nC fC l cl vd0 w0 left rd vd done nR w ∧ (∀ m ∈ l.take j, Stuck l left m.dst) ∧ w.cell? ⟨Y, 0, none⟩ = some (.pointer (some ⟨X, 0, none⟩)) ∧ vd.ownBlock ≠ some Y
def FrL (X bc bl br B : Nat) (r0 r1 fr : Int) (nC : Nat) (fC : Pl → Option Value) (l : List Mv) (cl : Pl → Int) (vd0 : Value) (w0 : World) (Y j : Nat) (q : Pl) (Z : Nat) (w : World) : Prop :=
  ∃ left rd vd done nR, FrC X bc bl br B r0 r1 fr nC fC l cl vd0 w0 left rd vd done nR w ∧ (∀ m ∈ l.take j, Stuck l left m.dst ∨ m.dst = q) ∧ w.cell? ⟨Y, 0, none⟩ = some (.pointer (some ⟨X, 0, none⟩)) ∧ vd.ownBlock ≠ some Y ∧ w.rowIs Z 26 3 (plF q) ∧ vd.ownBlock ≠ some Z ∧ w0.heap.size ≤ Z ∧ Z ≠ Y ∧ PlWf q
section
variable {X bc bl br B : Nat} {r0 r1 fr : Int} {nC : Nat} {fC : Pl → Option Value} {l : List Mv} {cl : Pl → Int} {vd0 : Value} {w0 : World} {left : Pl → Option Pl} {rd : Pl → Int} {vd : Value} {done : List Mv} {nR : Nat} {w w' : World}
theorem FrC.below (k : FrC X bc bl br B r0 r1 fr nC fC l cl vd0 w0 left rd vd done nR w) (hb : Below w.heap.size w w') : FrC X bc bl br B r0 r1 fr nC fC l cl vd0 w0 left rd vd done nR w' := ⟨k.st.below hb, k.kq.trans (Kq.of_below hb), k.inv, k.cnt, k.bd⟩
theorem FrO.below {Y j : Nat} (k : FrO X bc bl br B r0 r1 fr nC fC l cl vd0 w0 Y j w) (hb : Below w.heap.size w w') : FrO X bc bl br B r0 r1 fr nC fC l cl vd0 w0 Y j w' := by
  obtain ⟨left, rd, vd, done, nR, h1, h2, h3, h4⟩ := k
  exact ⟨left, rd, vd, done, nR, h1.below hb, h2, (hb.cell (block_lt h3)).trans h3, h4⟩
theorem stuck_step (F : FitO r0 r1 fr l cl) (I : OrI r0 r1 fr l cl left done) {q p : Pl} (h : left q = some p) {x : Pl} (hx : Stuck l left x ∨ x = q) : Stuck l (updP left q none) x ∨ x = p := by
  by_cases e : x = p
  · exact Or.inr e
  · left
    by_cases e2 : x = q
    · intro hn
      rw [e2, updP_same] at hn
      exact absurd rfl hn
    · intro hn
      rw [updP_other e2] at hn
      have h1 := hx.resolve_right e2 hn
      have h2 := cntR_drop F I h x
      rw [if_neg e, Nat.add_zero] at h2
      rw [← h2]
      exact h1
theorem not_free (hc : ∀ p, rd p = (cntR l left p : Int)) {q : Pl} (h : freeB left rd q = false) : Stuck l left q := by
  intro hn h0
  unfold freeB at h
  rw [hc q, h0, Option.isSome_iff_ne_none.2 hn] at h
  simp at h
theorem is_free (hc : ∀ p, rd p = (cntR l left p : Int)) {q : Pl} (h : freeB left rd q = true) : ∃ p, left q = some p ∧ cntR l left q = 0 := by
  unfold freeB at h
  simp only [Bool.and_eq_true, decide_eq_true_eq] at h
  obtain ⟨a, b⟩ := h
  rw [hc q] at b
  obtain ⟨p, hp⟩ := Option.isSome_iff_exists.1 a
  exact ⟨p, hp, by omega⟩
theorem cnt_step (F : FitO r0 r1 fr l cl) (I : OrI r0 r1 fr l cl left done) (hc : ∀ p, rd p = (cntR l left p : Int)) {q p : Pl} (h : left q = some p) : ∀ x, updP rd p (rd p - 1) x = (cntR l (updP left q none) x : Int) := fun x => by
  have h2 := cntR_drop F I h x
  by_cases e : x = p
  · rw [e, updP_same, hc p]
    rw [e, if_pos rfl] at h2
    omega
  · rw [updP_other e, hc x]
    rw [if_neg e] at h2
    omega
end
theorem set3_off (w : World) (Z : Nat) (a b c : Value) : ∀ q, q ≠ Z → (((w.setCell ⟨Z, 0, none⟩ a).setCell ⟨Z, 1, none⟩ b).setCell ⟨Z, 2, none⟩ c).heap[q]? = w.heap[q]? := fun q hq => by
  have h : ∀ (W : World) (o : Nat) (v : Value), (W.setCell ⟨Z, o, none⟩ v).heap[q]? = W.heap[q]? := fun W o v => Below.heap_setCell _ _ _ _ (by show q ≠ Z; exact hq)
  rw [h, h, h]
theorem set3_size (w : World) (Z : Nat) (a b c : Value) : (((w.setCell ⟨Z, 0, none⟩ a).setCell ⟨Z, 1, none⟩ b).setCell ⟨Z, 2, none⟩ c).heap.size = w.heap.size := by simp [World.setCell]
theorem Kq.wr {X bl br Z : Nat} {va vb : Value} {w0 w w' : World} (h : Kq X bl br va vb w0 w) (h1 : w'.os = w.os) (h2 : w'.tape = w.tape) (h3 : w'.output = w.output) (h4 : w'.heap.size = w.heap.size) (hb : ∀ q, q ≠ Z → w'.heap[q]? = w.heap[q]?) (hZ : w0.heap.size ≤ Z) : Kq X bl br va vb w0 w' :=
  ⟨h1.trans h.os, h2.trans h.tape, h3.trans h.output, by rw [h4]; exact h.size, fun q hq n1 n2 n3 n4 => (hb q (by omega)).trans (h.block q hq n1 n2 n3 n4), h.own⟩
def msX (X n : Nat) (w : World) : Nat := match w.cell? ⟨X, 6, none⟩ with | some (.slice _ k _) => 4 * n + 1 - k | _ => 0
set_option maxHeartbeats 16000000 in
theorem free_any {X bc bl br B : Nat} {r0 r1 fr : Int} {nC : Nat} {fC : Pl → Option Value} {l : List Mv} {cl : Pl → Int} {left0 : Pl → Option Pl} {rd0 : Pl → Int} {vd0 : Value} {done0 : List Mv} {nR0 : Nat} {w wb : World} (F : FitO r0 r1 fr l cl) (hC : ∀ m ∈ l, fC m.dst = some (.int .i64 (cl m.dst))) (hwf : ∀ m ∈ l, PlWf m.src ∧ PlWf m.dst) (hlen : l.length ≤ 5000) (vl : Value) (hl : SlOf wb 6 RMv vl l) (hlow : Below wb.heap.size wb w) (hwb : wb.heap.size ≤ bl) (k : FrC X bc bl br B r0 r1 fr nC fC l cl vd0 w left0 rd0 vd0 done0 nR0 w) :
    Calls Try.prog 12 #[.pointer (some ⟨X, 0, none⟩), vl] w fun e w' => e = .returned (.tuple #[]) ∧ ∃ left rd vd done nR, FrC X bc bl br B r0 r1 fr nC fC l cl vd0 w left rd vd done nR w' ∧ ∀ m ∈ l, Stuck l left m.dst := by
  obtain ⟨a, c, rfl, -⟩ := hl.out
  obtain ⟨n, hn⟩ : ∃ n, l.length = n := ⟨_, rfl⟩
  rw [hn] at hl
  obtain ⟨Y, hY⟩ : ∃ Y, w.heap.size = Y := ⟨_, rfl⟩
  obtain ⟨W, hW⟩ : ∃ W, W = w.alloc (.cells #[.pointer (some ⟨X, 0, none⟩)] 52) := ⟨_, rfl⟩
  have hbw : Below w.heap.size w W := by rw [hW]; exact (Below.refl _ _).alloc (Nat.le_refl _) _
  have t0 := topO w #[.pointer (some ⟨X, 0, none⟩)] 52
  rw [← hW, hY] at t0
  have hBY : B ≤ Y := by rw [← hY]; exact k.st.lB
  have lBw : B ≤ w.heap.size := k.st.lB
  have lt1 := k.st.l1
  have lt2 := k.st.l2
  have lt3 := k.st.l3
  have lt4 := k.st.l4
  have HS0 : Hid (FrO X bc bl br B r0 r1 fr nC fC l cl vd0 w Y 0 W) := ⟨left0, rd0, vd0, done0, nR0, k.below hbw, (fun m hm => by simp at hm), t0 0, k.st.noff (by omega)⟩
  have HL : Hid (SlOf wb 6 RMv (.slice a n c) l ∧ l.length = n) := ⟨hl, hn⟩
  have HF : Hid (FitO r0 r1 fr l cl ∧ (∀ m ∈ l, fC m.dst = some (.int .i64 (cl m.dst))) ∧ (∀ m ∈ l, PlWf m.src ∧ PlWf m.dst)) := ⟨F, hC, hwf⟩
  have hn5 : n ≤ 5000 := by omega
  have HLO : Hid (Below wb.heap.size wb w ∧ wb.heap.size ≤ w.heap.size) := ⟨hlow, hlow.size⟩
  have HW : Hid (W = w.alloc (.cells #[.pointer (some ⟨X, 0, none⟩)] 52)) := hW
  have HY : Hid (w.heap.size = Y) := hY
  have HV0 : Hid (∀ g, vd0.ownBlock = some g → B ≤ g) := fun g hg => (own_base k.st.own hg).1
  rw [hn]
  clear hl hn F hC hwf hlen hlow hW hY hbw t0 k
  go_enter Try.func12, Try.ntmps12
  go_upto_region 3 with fail
  rw [← HW.out, HY.out]
  clear HW
  --CUT1
  go_loopw [12] (fun i wr => ∃ j : Nat, j ≤ n ∧ i = .int .i64 j ∧ Hid (FrO X bc bl br B r0 r1 fr nC fC l cl vd0 w Y j wr)) (fun i _ => n - (intOf i).toNat)
  case atStart => exact ⟨0, Nat.zero_le _, rfl, HS0⟩
  case round =>
    clear HS0
    obtain ⟨j, hj, rfl, HI⟩ := hrel
    by_cases hlt : j < n
    · have hjl : j < l.length := by rw [HL.out.2]; exact hlt
      obtain ⟨b8, off8, rfl, hb8, e0, e1, e2, e3, e4, e5⟩ := mv_at HL.out.1 j hjl
      obtain ⟨left, rd, vd, done, nR, k, hst, hYc, hYo⟩ := HI.out
      have hq := k.kq.below (B := wb.heap.size) HLO.out.2 (by omega) (by omega) (by omega) (fun g hg => by have := HV0.out g hg; omega)
      have hlow := HLO.out.1.trans hq
      replace e0 := (hlow.cell (p := ⟨b8, _, none⟩) hb8).trans e0
      replace e1 := (hlow.cell (p := ⟨b8, _, none⟩) hb8).trans e1
      replace e2 := (hlow.cell (p := ⟨b8, _, none⟩) hb8).trans e2
      replace e3 := (hlow.cell (p := ⟨b8, _, none⟩) hb8).trans e3
      replace e4 := (hlow.cell (p := ⟨b8, _, none⟩) hb8).trans e4
      replace e5 := (hlow.cell (p := ⟨b8, _, none⟩) hb8).trans e5
      obtain ⟨m, hm⟩ : ∃ m, l[j] = m := ⟨_, rfl⟩
      have HM : Hid (l.take (j + 1) = l.take j ++ [m]) := by show _ = _; rw [← hm]; exact List.take_succ_eq_append_getElem hjl
      rw [hm] at e0 e1 e2 e3 e4 e5
      have hwd : PlWf m.dst := by rw [← hm]; exact (HF.out.2.2 _ (List.getElem_mem hjl)).2
      obtain ⟨W2, hW2⟩ : ∃ W2, W2 = (wr.alloc (.cells #[.int .i64 m.src.kind, .int .i64 m.src.cls, .int .i64 m.src.n, .int .i64 m.dst.kind, .int .i64 m.dst.cls, .int .i64 m.dst.n] 29)).alloc (.cells #[.int .i64 m.dst.kind, .int .i64 m.dst.cls, .int .i64 m.dst.n] 26) := ⟨_, rfl⟩
      have hb2 : Below wr.heap.size wr W2 := by rw [hW2]; exact ((Below.refl _ _).alloc (Nat.le_refl _) _).alloc (by simp) _
      have rZ := pl_row (wr.alloc (.cells #[.int .i64 m.src.kind, .int .i64 m.src.cls, .int .i64 m.src.n, .int .i64 m.dst.kind, .int .i64 m.dst.cls, .int .i64 m.dst.n] 29)) m.dst
      have zz : (wr.alloc (.cells #[.int .i64 m.src.kind, .int .i64 m.src.cls, .int .i64 m.src.n, .int .i64 m.dst.kind, .int .i64 m.dst.cls, .int .i64 m.dst.n] 29)).heap.size = wr.heap.size + 1 := by simp
      rw [← hW2, zz] at rZ
      have lYw := block_lt hYc
      have lB := k.st.lB
      have HI2 : Hid (FrL X bc bl br B r0 r1 fr nC fC l cl vd0 w Y (j + 1) m.dst (wr.heap.size + 1) W2) := by
        refine ⟨left, rd, vd, done, nR, k.below hb2, fun x hx => ?_, (hb2.cell lYw).trans hYc, hYo, rZ, k.st.noff (by omega), by have := k.kq.size; omega, by have : Y < wr.heap.size := lYw; omega, hwd⟩
        rw [HM.out] at hx
        rcases List.mem_append.1 hx with hx | hx
        · exact Or.inl (hst x hx)
        · exact Or.inr (by rw [List.mem_singleton.1 hx])
      have HW2 : Hid (W2 = (wr.alloc (.cells #[.int .i64 m.src.kind, .int .i64 m.src.cls, .int .i64 m.src.n, .int .i64 m.dst.kind, .int .i64 m.dst.cls, .int .i64 m.dst.n] 29)).alloc (.cells #[.int .i64 m.dst.kind, .int .i64 m.dst.cls, .int .i64 m.dst.n] 26)) := hW2
      clear hq hlow hb8 k hst hYc hYo hm hW2 hb2 rZ zz lYw lB HI HM
      go_upto_region 6 with fail
      rw [← HW2.out]
      clear HW2
      --CUT2
      go_loopw [7] (fun v wr => ∃ (Z : Nat) (q : Pl), v = .pointer (some ⟨Z, 0, none⟩) ∧ Hid (FrL X bc bl br B r0 r1 fr nC fC l cl vd0 w Y (j + 1) q Z wr)) (fun v wr => msX X n wr)
      case atStart => exact ⟨_, _, rfl, HI2⟩
      case round =>
        clear HI2
        obtain ⟨Z, q, rfl, HI⟩ := hrel
        obtain ⟨left, rd, vd, done, nR, k, hst, hYc, hYo, rZ, hZo, hwZ, hZY, hwq⟩ := HI.out
        have lB := k.st.lB
        have lZ := rZ.lt
        have lY := block_lt hYc
        have lw0 := k.kq.size
        have q0 : wr.cell? ⟨Z, 0, none⟩ = some (.int .i64 q.kind) := rZ.cell (i := 0) (by omega)
        have q1 : wr.cell? ⟨Z, 1, none⟩ = some (.int .i64 q.cls) := rZ.cell (i := 1) (by omega)
        have q2 : wr.cell? ⟨Z, 2, none⟩ = some (.int .i64 q.n) := rZ.cell (i := 2) (by omega)
        cases hb : freeB left rd q
        · have HCF := isFree_any k.st q hwq Y hYc false hb
          have HO : Hid (∀ w', Below wr.heap.size wr w' → FrO X bc bl br B r0 r1 fr nC fC l cl vd0 w Y (j + 1) w') := fun w' hh => by
            refine ⟨left, rd, vd, done, nR, k.below hh, fun x hx => ?_, (hh.cell lY).trans hYc, hYo⟩
            rcases hst x hx with h | h
            · exact h
            · rw [h]
              exact not_free k.cnt hb
          clear HI k hst hYc hYo rZ hZo hwZ hZY hwq lB lZ lY lw0 hb
          --CUTx
          go_wp2_with (go_at_call 19; refine HCF.mono ?_; clear HCF; rintro e w1 ⟨rfl, hb1⟩)
          exact ⟨⟨j + 1, by omega, by simp, HO.out _ hb1⟩, by simp [intOf]; omega⟩
        · obtain ⟨p, hp, hz⟩ := is_free k.cnt hb
          obtain ⟨⟨m1, hm1, hmd, hms⟩, hpq⟩ := k.inv.src q p hp
          have hwp : PlWf p := hms ▸ (HF.out.2.2 m1 hm1).1
          obtain ⟨cv, hcv⟩ : ∃ cv, cl q = cv := ⟨_, rfl⟩
          have hcl : cv = 0 ∨ cv = 1 := by rw [← hcv, ← hmd]; exact HF.out.1.cls m1 hm1
          have hfC : fC q = some (.int .i64 cv) := by rw [← hcv, ← hmd]; exact HF.out.2.1 m1 hm1
          have hnone : ∀ x, left x ≠ some q := cntR_zero k.inv hz
          have HCF := isFree_any k.st q hwq Y hYc true hb
          go_upto_region 7 with (go_at_call 19; refine HCF.mono ?_; clear HCF; rintro e w1 ⟨rfl, hb1⟩)
          have k1 := k.below hb1
          have rZ1 := rZ.of_block (hb1.block Z lZ)
          have hY1 := (hb1.cell lY).trans hYc
          have hz1 := hb1.size
          have lX1 := k1.st.bx.lt
          obtain ⟨V, hV⟩ : ∃ V, w1.heap.size = V := ⟨_, rfl⟩
          have HSA : Hid (∀ w', Below w1.heap.size w1 w' → (fun w' => w'.cell? ⟨Y, 0, none⟩ = some (.pointer (some ⟨X, 0, none⟩)) ∧ w'.cell? ⟨X, 3, none⟩ = some (.map (some bc)) ∧ w'.cell? ⟨X, 4, none⟩ = some (.map (some bl)) ∧ w'.cell? ⟨X, 5, none⟩ = some (.map (some br)) ∧ w'.cell? ⟨Z, 0, none⟩ = some (.int .i64 q.kind) ∧ w'.cell? ⟨Z, 1, none⟩ = some (.int .i64 q.cls) ∧ w'.cell? ⟨Z, 2, none⟩ = some (.int .i64 q.n) ∧ (Instr.lookup 43 (.map (some bl)) (.agg #[.int .i64 q.kind, .int .i64 q.cls, .int .i64 q.n]) false).run Try.prog w' = .ok (.agg #[.int .i64 p.kind, .int .i64 p.cls, .int .i64 p.n]) w') w') := fun w' hh => by
            have kk := k1.st.below hh
            have rr := rZ1.of_block (hh.block Z rZ1.lt)
            refine ⟨(hh.cell (block_lt hY1)).trans hY1, kk.bx.cell (i := 3) (by omega), kk.bx.cell (i := 4) (by omega), kk.bx.cell (i := 5) (by omega), rr.cell (i := 0) (by omega), rr.cell (i := 1) (by omega), rr.cell (i := 2) (by omega), ?_⟩
            have h := kk.ml.look Try.underlying43 (zeroPl w') hwq
            rw [leftV_getD, hp] at h
            exact h
          --CUT5
          refine wp_region_X (fun w' => w'.cell? ⟨Y, 0, none⟩ = some (.pointer (some ⟨X, 0, none⟩)) ∧ w'.cell? ⟨X, 3, none⟩ = some (.map (some bc)) ∧ w'.cell? ⟨X, 4, none⟩ = some (.map (some bl)) ∧ w'.cell? ⟨X, 5, none⟩ = some (.map (some br)) ∧ w'.cell? ⟨Z, 0, none⟩ = some (.int .i64 q.kind) ∧ w'.cell? ⟨Z, 1, none⟩ = some (.int .i64 q.cls) ∧ w'.cell? ⟨Z, 2, none⟩ = some (.int .i64 q.n) ∧ (Instr.lookup 43 (.map (some bl)) (.agg #[.int .i64 q.kind, .int .i64 q.cls, .int .i64 q.n]) false).run Try.prog w' = .ok (.agg #[.int .i64 p.kind, .int .i64 p.cls, .int .i64 p.n]) w') 99 (by kernel_rfl) (HSA.out _ ((Below.refl _ _).drew)) (fun hHeld => ?_)
          refine wpXt (v := ?_) 0 rfl (by kernel_rfl) (fun _ _ _ h => h) (by rfl) ?_ hHeld ?_
          rotate_left
          · intro w' hSw
            go_simp <;> with_reducible rfl
          try simp only [Act.put, List.setIfInBounds_toArray, List.set_cons_zero, List.set_cons_succ]
          refine wpXt (v := ?_) 1 rfl (by kernel_rfl) (fun _ _ _ h => h) (by rfl) ?_ hHeld ?_
          rotate_left
          · intro w' hSw
            go_simp <;> with_reducible rfl
          try simp only [Act.put, List.setIfInBounds_toArray, List.set_cons_zero, List.set_cons_succ]
          refine wpXt (v := ?_) 2 rfl (by kernel_rfl) (fun _ _ _ h => h) (by rfl) ?_ hHeld ?_
          rotate_left
          · intro w' hSw
            go_simp <;> with_reducible rfl
          try simp only [Act.put, List.setIfInBounds_toArray, List.set_cons_zero, List.set_cons_succ]
          refine wpXt (v := ?_) 3 rfl (by kernel_rfl) (fun _ _ _ h => h) (by rfl) ?_ hHeld ?_
          rotate_left
          · intro w' hSw
            go_simp <;> with_reducible rfl
          try simp only [Act.put, List.setIfInBounds_toArray, List.set_cons_zero, List.set_cons_succ]
          refine wpXt (v := ?_) 4 rfl (by kernel_rfl) (fun _ _ _ h => h) (by rfl) ?_ hHeld ?_
          rotate_left
          · intro w' hSw
            go_simp <;> with_reducible rfl
          try simp only [Act.put, List.setIfInBounds_toArray, List.set_cons_zero, List.set_cons_succ]
          refine wpXt (v := .agg #[.int .i64 p.kind, .int .i64 p.cls, .int .i64 p.n]) 5 rfl (by kernel_rfl) (fun _ _ _ h => h) (by rfl) ?_ hHeld ?_
          · intro w' hSw
            exact execO_lookup _ _ _ _ rfl rfl rfl hSw.2.2.2.2.2.2.2
          try simp only [Act.put, List.setIfInBounds_toArray, List.set_cons_zero, List.set_cons_succ]
          refine wpXs 6 rfl (by kernel_rfl) (fun K hK => ?_)
          go_simp
          refine hK.out _ _ (HSA.out _ (((Below.refl w1.heap.size w1).drew).alloc (Nat.le_refl _) _)) (fun hHeld => ?_)
          clear hK K
          try simp only [Act.put, List.setIfInBounds_toArray, List.set_cons_zero, List.set_cons_succ]
          refine wpXs 7 rfl (by kernel_rfl) (fun K hK => ?_)
          go_simp
          refine hK.out _ _ (HSA.out _ (((Below.refl w1.heap.size w1).drew).alloc (Nat.le_refl _) _)) (fun hHeld => ?_)
          clear hK K
          try simp only [Act.put, List.setIfInBounds_toArray, List.set_cons_zero, List.set_cons_succ]
          refine wpAnyX_done (by kernel_rfl) ?_ _
          obtain ⟨W2, hW2⟩ : ∃ W2, W2 = (w1.alloc (.cells #[.int .i64 p.kind, .int .i64 p.cls, .int .i64 p.n] 26)).drew := ⟨_, rfl⟩
          have hb2 : Below w1.heap.size w1 W2 := by rw [hW2]; exact ((Below.refl _ _).alloc (Nat.le_refl _) _).drew
          have rV2 : W2.rowIs V 26 3 (plF p) := by rw [hW2, ← hV]; exact (pl_row w1 p).drew
          have k2 := k1.below hb2
          have hz2 := hb2.size
          have k2d := k2.below ((Below.refl W2.heap.size W2).drew)
          have rZ2 := rZ1.of_block (hb2.block Z rZ1.lt)
          have hY2 := (hb2.cell (block_lt hY1)).trans hY1
          have hVo : vd.ownBlock ≠ some V := k1.st.noff (by omega)
          have hdl : done.length ≤ 100000 := by have := k.inv.len; have := HL.out.2; omega
          have HMV := move_any k2d.st p q cv hcl hdl
          have HSB : Hid ((fun w' => w'.cell? ⟨Y, 0, none⟩ = some (.pointer (some ⟨X, 0, none⟩)) ∧ w'.cell? ⟨X, 3, none⟩ = some (.map (some bc)) ∧ w'.cell? ⟨X, 4, none⟩ = some (.map (some bl)) ∧ w'.cell? ⟨X, 5, none⟩ = some (.map (some br)) ∧ w'.cell? ⟨Z, 0, none⟩ = some (.int .i64 q.kind) ∧ w'.cell? ⟨Z, 1, none⟩ = some (.int .i64 q.cls) ∧ w'.cell? ⟨Z, 2, none⟩ = some (.int .i64 q.n) ∧ w'.cell? ⟨V, 0, none⟩ = some (.int .i64 p.kind) ∧ w'.cell? ⟨V, 1, none⟩ = some (.int .i64 p.cls) ∧ w'.cell? ⟨V, 2, none⟩ = some (.int .i64 p.n) ∧ (Instr.lookup 40 (.map (some bc)) (.agg #[.int .i64 q.kind, .int .i64 q.cls, .int .i64 q.n]) false).run Try.prog w' = .ok (.int .i64 cv) w') W2.drew) := by
            have kk := k2d.st
            have rr := rZ2.drew
            have rv := rV2.drew
            refine ⟨hY2, kk.bx.cell (i := 3) (by omega), kk.bx.cell (i := 4) (by omega), kk.bx.cell (i := 5) (by omega), rr.cell (i := 0) (by omega), rr.cell (i := 1) (by omega), rr.cell (i := 2) (by omega), rv.cell (i := 0) (by omega), rv.cell (i := 1) (by omega), rv.cell (i := 2) (by omega), ?_⟩
            have h := kk.mc.look Try.underlying40 (zeroI W2.drew) hwq
            rw [hfC] at h
            exact h
          have HW2 : Hid (W2 = (w1.alloc (.cells #[.int .i64 p.kind, .int .i64 p.cls, .int .i64 p.n] 26)).drew) := hW2
          have HVV : Hid (w1.heap.size = V) := hV
          clear hW2 hHeld HSA
          go_upto_region 8 with fail
          rw [← HW2.out]
          --CUT6
          refine wp_region_X (fun w' => w'.cell? ⟨Y, 0, none⟩ = some (.pointer (some ⟨X, 0, none⟩)) ∧ w'.cell? ⟨X, 3, none⟩ = some (.map (some bc)) ∧ w'.cell? ⟨X, 4, none⟩ = some (.map (some bl)) ∧ w'.cell? ⟨X, 5, none⟩ = some (.map (some br)) ∧ w'.cell? ⟨Z, 0, none⟩ = some (.int .i64 q.kind) ∧ w'.cell? ⟨Z, 1, none⟩ = some (.int .i64 q.cls) ∧ w'.cell? ⟨Z, 2, none⟩ = some (.int .i64 q.n) ∧ w'.cell? ⟨V, 0, none⟩ = some (.int .i64 p.kind) ∧ w'.cell? ⟨V, 1, none⟩ = some (.int .i64 p.cls) ∧ w'.cell? ⟨V, 2, none⟩ = some (.int .i64 p.n) ∧ (Instr.lookup 40 (.map (some bc)) (.agg #[.int .i64 q.kind, .int .i64 q.cls, .int .i64 q.n]) false).run Try.prog w' = .ok (.int .i64 cv) w') 99 (by kernel_rfl) HSB.out (fun hHeld => ?_)
          refine wpXt (v := ?_) 0 rfl (by kernel_rfl) (fun _ _ _ h => h) (by rfl) ?_ hHeld ?_
          rotate_left
          · intro w' hSw
            go_simp <;> with_reducible rfl
          try simp only [Act.put, List.setIfInBounds_toArray, List.set_cons_zero, List.set_cons_succ]
          refine wpXt (v := ?_) 1 rfl (by kernel_rfl) (fun _ _ _ h => h) (by rfl) ?_ hHeld ?_
          rotate_left
          · intro w' hSw
            go_simp <;> with_reducible rfl
          try simp only [Act.put, List.setIfInBounds_toArray, List.set_cons_zero, List.set_cons_succ]
          refine wpXt (v := ?_) 2 rfl (by kernel_rfl) (fun _ _ _ h => h) (by rfl) ?_ hHeld ?_
          rotate_left
          · intro w' hSw
            go_simp <;> with_reducible rfl
          try simp only [Act.put, List.setIfInBounds_toArray, List.set_cons_zero, List.set_cons_succ]
          refine wpXt (v := ?_) 3 rfl (by kernel_rfl) (fun _ _ _ h => h) (by rfl) ?_ hHeld ?_
          rotate_left
          · intro w' hSw
            go_simp <;> with_reducible rfl
          try simp only [Act.put, List.setIfInBounds_toArray, List.set_cons_zero, List.set_cons_succ]
          refine wpXt (v := ?_) 4 rfl (by kernel_rfl) (fun _ _ _ h => h) (by rfl) ?_ hHeld ?_
          rotate_left
          · intro w' hSw
            go_simp <;> with_reducible rfl
          try simp only [Act.put, List.setIfInBounds_toArray, List.set_cons_zero, List.set_cons_succ]
          refine wpXt (v := ?_) 5 rfl (by kernel_rfl) (fun _ _ _ h => h) (by rfl) ?_ hHeld ?_
          rotate_left
          · intro w' hSw
            go_simp <;> with_reducible rfl
          try simp only [Act.put, List.setIfInBounds_toArray, List.set_cons_zero, List.set_cons_succ]
          refine wpXt (v := ?_) 6 rfl (by kernel_rfl) (fun _ _ _ h => h) (by rfl) ?_ hHeld ?_
          rotate_left
          · intro w' hSw
            go_simp <;> with_reducible rfl
          try simp only [Act.put, List.setIfInBounds_toArray, List.set_cons_zero, List.set_cons_succ]
          refine wpXt (v := ?_) 7 rfl (by kernel_rfl) (fun _ _ _ h => h) (by rfl) ?_ hHeld ?_
          rotate_left
          · intro w' hSw
            go_simp <;> with_reducible rfl
          try simp only [Act.put, List.setIfInBounds_toArray, List.set_cons_zero, List.set_cons_succ]
          refine wpXt (v := .int .i64 cv) 8 rfl (by kernel_rfl) (fun _ _ _ h => h) (by rfl) ?_ hHeld ?_
          · intro w' hSw
            exact execO_lookup _ _ _ _ rfl rfl rfl hSw.2.2.2.2.2.2.2.2.2.2
          try simp only [Act.put, List.setIfInBounds_toArray, List.set_cons_zero, List.set_cons_succ]
          refine wpXs 9 rfl (by kernel_rfl) (fun K hK => ?_)
          go_simp
          refine HMV.mono ?_
          clear HMV
          rintro e w5 ⟨rfl, vd5, k5, q5⟩
          have rZ5 := q5.row rZ2.drew (by omega) (by omega) (by omega) hZo
          have rV5 := q5.row rV2.drew (by omega) (by omega) (by omega) hVo
          have hYk5 : w5.cell? ⟨Y, 0, none⟩ = some (.pointer (some ⟨X, 0, none⟩)) := (World.cell?_of_block (a := ⟨Y, 0, none⟩) (q5.block Y (by show Y < W2.drew.heap.size; exact block_lt hY2) (by omega) (by omega) (by omega) hYo)).trans hY2
          have HSB5 : Hid ((fun w' => w'.cell? ⟨Y, 0, none⟩ = some (.pointer (some ⟨X, 0, none⟩)) ∧ w'.cell? ⟨X, 3, none⟩ = some (.map (some bc)) ∧ w'.cell? ⟨X, 4, none⟩ = some (.map (some bl)) ∧ w'.cell? ⟨X, 5, none⟩ = some (.map (some br)) ∧ w'.cell? ⟨Z, 0, none⟩ = some (.int .i64 q.kind) ∧ w'.cell? ⟨Z, 1, none⟩ = some (.int .i64 q.cls) ∧ w'.cell? ⟨Z, 2, none⟩ = some (.int .i64 q.n) ∧ w'.cell? ⟨V, 0, none⟩ = some (.int .i64 p.kind) ∧ w'.cell? ⟨V, 1, none⟩ = some (.int .i64 p.cls) ∧ w'.cell? ⟨V, 2, none⟩ = some (.int .i64 p.n) ∧ (Instr.lookup 40 (.map (some bc)) (.agg #[.int .i64 q.kind, .int .i64 q.cls, .int .i64 q.n]) false).run Try.prog w' = .ok (.int .i64 cv) w') w5) := by
            refine ⟨hYk5, k5.bx.cell (i := 3) (by omega), k5.bx.cell (i := 4) (by omega), k5.bx.cell (i := 5) (by omega), rZ5.cell (i := 0) (by omega), rZ5.cell (i := 1) (by omega), rZ5.cell (i := 2) (by omega), rV5.cell (i := 0) (by omega), rV5.cell (i := 1) (by omega), rV5.cell (i := 2) (by omega), ?_⟩
            have h := k5.mc.look Try.underlying40 (zeroI w5) hwq
            rw [hfC] at h
            exact h
          refine hK.out _ _ HSB5.out (fun hHeld => ?_)
          clear hK K
          try simp only [Act.put, List.setIfInBounds_toArray, List.set_cons_zero, List.set_cons_succ]
          refine wpAnyX_done (by kernel_rfl) ?_ _
          have hY5 := hYk5
          --CUT7
          go_upto_region 9 with fail
          have k5d := k5.below ((Below.refl w5.heap.size w5).drew)
          obtain ⟨fR, hR, hR2⟩ := k5d.mr
          obtain ⟨rv, hrv⟩ : ∃ rv, rd p = rv := ⟨_, rfl⟩
          have hrb : 0 ≤ rv ∧ rv ≤ 5000 := by
            rw [← hrv, k.cnt p]
            have h1 : cntR l left p ≤ l.length := List.length_filter_le _ _
            have := HL.out.2
            omega
          have hrb0 := hrb.1
          have hrb1 := hrb.2
          have hnR : nR < maxLen := by have := k.bd; have := HL.out.2; simp [maxLen]; omega
          obtain ⟨st, es1, clock1, rE, mid, t2, r3⟩ := hR.entry (z := .int .i64 0) Try.underlying40 zeroI hnR hwp
          rw [hR2 p, hrv] at rE mid
          obtain ⟨w6, hw6⟩ : ∃ w6, w6 = ChangeMaps.setBlock w5.drew br (.map es1 clock1) := ⟨_, rfl⟩
          rw [← hw6] at rE mid t2
          have hR9 := hR
          obtain ⟨D0, ⟨es0, cl0, hx1, _⟩, _⟩ := hR9
          have hw6b : w6.heap[br]? = some (.map es1 clock1) := by rw [hw6]; exact ChangeMaps.heap_setBlock_same hx1 _
          clear hw6 hx1
          have hwr : IntKind.i64.wrap (rv - 1) = rv - 1 := by rw [IntKind.wrap_i64]; omega
          obtain ⟨w7, r4, m4, t3⟩ := r3 w6 hw6b (.int .i64 (rv - 1))
          have k6 := k5d.turnR t2 mid (rd' := rd) (fun x => by
            by_cases e : x = p
            · rw [e, updP_same, hrv]
              rfl
            · rw [updP_other e]
              exact hR2 x)
          have k7 := k6.turnR t3 m4 (rd_upd hR2 p (rv - 1))
          have rZ5d : w5.drew.rowIs Z 26 3 (plF q) := rZ5.drew
          have rV5d : w5.drew.rowIs V 26 3 (plF p) := rV5.drew
          have nZr : Z ≠ br := by omega
          have nVr : V ≠ br := by omega
          have nYr : Y ≠ br := by omega
          have rZ6 := rZ5d.of_block (turned_block t2 nZr)
          have rV6 := rV5d.of_block (turned_block t2 nVr)
          have hY6 : w6.cell? ⟨Y, 0, none⟩ = some (.pointer (some ⟨X, 0, none⟩)) := (World.cell?_of_block (a := ⟨Y, 0, none⟩) (turned_block t2 nYr)).trans hY5
          have rZ7 := rZ6.of_block (turned_block t3 nZr)
          have rV7 := rV6.of_block (turned_block t3 nVr)
          have hY7 : w7.cell? ⟨Y, 0, none⟩ = some (.pointer (some ⟨X, 0, none⟩)) := (World.cell?_of_block (a := ⟨Y, 0, none⟩) (turned_block t3 nYr)).trans hY6
          have lk : ∀ W nn f, MapF W br nn f → (f p).getD (.int .i64 0) = .int .i64 rv → (Instr.lookup 40 (.map (some br)) (.agg #[.int .i64 p.kind, .int .i64 p.cls, .int .i64 p.n]) false).run Try.prog W = .ok (.int .i64 rv) W := fun W nn f hf hv2 => by
            have h := hf.look Try.underlying40 (zeroI W) hwp
            rw [hv2] at h
            exact h
          have HSC1 : Hid ((fun w' => w'.cell? ⟨Y, 0, none⟩ = some (.pointer (some ⟨X, 0, none⟩)) ∧ w'.cell? ⟨X, 3, none⟩ = some (.map (some bc)) ∧ w'.cell? ⟨X, 4, none⟩ = some (.map (some bl)) ∧ w'.cell? ⟨X, 5, none⟩ = some (.map (some br)) ∧ w'.cell? ⟨Z, 0, none⟩ = some (.int .i64 q.kind) ∧ w'.cell? ⟨Z, 1, none⟩ = some (.int .i64 q.cls) ∧ w'.cell? ⟨Z, 2, none⟩ = some (.int .i64 q.n) ∧ w'.cell? ⟨V, 0, none⟩ = some (.int .i64 p.kind) ∧ w'.cell? ⟨V, 1, none⟩ = some (.int .i64 p.cls) ∧ w'.cell? ⟨V, 2, none⟩ = some (.int .i64 p.n) ∧ (Instr.lookup 40 (.map (some br)) (.agg #[.int .i64 p.kind, .int .i64 p.cls, .int .i64 p.n]) false).run Try.prog w' = .ok (.int .i64 rv) w') w5.drew) := ⟨hY5, k5d.bx.cell (i := 3) (by omega), k5d.bx.cell (i := 4) (by omega), k5d.bx.cell (i := 5) (by omega), rZ5d.cell (i := 0) (by omega), rZ5d.cell (i := 1) (by omega), rZ5d.cell (i := 2) (by omega), rV5d.cell (i := 0) (by omega), rV5d.cell (i := 1) (by omega), rV5d.cell (i := 2) (by omega), lk _ _ _ hR (by rw [hR2 p, hrv])⟩
          have HSC2 : Hid ((fun w' => w'.cell? ⟨Y, 0, none⟩ = some (.pointer (some ⟨X, 0, none⟩)) ∧ w'.cell? ⟨X, 3, none⟩ = some (.map (some bc)) ∧ w'.cell? ⟨X, 4, none⟩ = some (.map (some bl)) ∧ w'.cell? ⟨X, 5, none⟩ = some (.map (some br)) ∧ w'.cell? ⟨Z, 0, none⟩ = some (.int .i64 q.kind) ∧ w'.cell? ⟨Z, 1, none⟩ = some (.int .i64 q.cls) ∧ w'.cell? ⟨Z, 2, none⟩ = some (.int .i64 q.n) ∧ w'.cell? ⟨V, 0, none⟩ = some (.int .i64 p.kind) ∧ w'.cell? ⟨V, 1, none⟩ = some (.int .i64 p.cls) ∧ w'.cell? ⟨V, 2, none⟩ = some (.int .i64 p.n) ∧ (Instr.lookup 40 (.map (some br)) (.agg #[.int .i64 p.kind, .int .i64 p.cls, .int .i64 p.n]) false).run Try.prog w' = .ok (.int .i64 rv) w') w6) := ⟨hY6, k6.bx.cell (i := 3) (by omega), k6.bx.cell (i := 4) (by omega), k6.bx.cell (i := 5) (by omega), rZ6.cell (i := 0) (by omega), rZ6.cell (i := 1) (by omega), rZ6.cell (i := 2) (by omega), rV6.cell (i := 0) (by omega), rV6.cell (i := 1) (by omega), rV6.cell (i := 2) (by omega), lk _ _ _ mid (by rw [updP_same]; rfl)⟩
          --CUT8
          refine wp_region_X (fun w' => w'.cell? ⟨Y, 0, none⟩ = some (.pointer (some ⟨X, 0, none⟩)) ∧ w'.cell? ⟨X, 3, none⟩ = some (.map (some bc)) ∧ w'.cell? ⟨X, 4, none⟩ = some (.map (some bl)) ∧ w'.cell? ⟨X, 5, none⟩ = some (.map (some br)) ∧ w'.cell? ⟨Z, 0, none⟩ = some (.int .i64 q.kind) ∧ w'.cell? ⟨Z, 1, none⟩ = some (.int .i64 q.cls) ∧ w'.cell? ⟨Z, 2, none⟩ = some (.int .i64 q.n) ∧ w'.cell? ⟨V, 0, none⟩ = some (.int .i64 p.kind) ∧ w'.cell? ⟨V, 1, none⟩ = some (.int .i64 p.cls) ∧ w'.cell? ⟨V, 2, none⟩ = some (.int .i64 p.n) ∧ (Instr.lookup 40 (.map (some br)) (.agg #[.int .i64 p.kind, .int .i64 p.cls, .int .i64 p.n]) false).run Try.prog w' = .ok (.int .i64 rv) w') 9 (by kernel_rfl) HSC1.out (fun hHeld => ?_)
          refine wpXt (v := ?_) 0 rfl (by kernel_rfl) (fun _ _ _ h => h) (by rfl) ?_ hHeld ?_
          rotate_left
          · intro w' hSw
            go_simp <;> with_reducible rfl
          try simp only [Act.put, List.setIfInBounds_toArray, List.set_cons_zero, List.set_cons_succ]
          refine wpXt (v := ?_) 1 rfl (by kernel_rfl) (fun _ _ _ h => h) (by rfl) ?_ hHeld ?_
          rotate_left
          · intro w' hSw
            go_simp <;> with_reducible rfl
          try simp only [Act.put, List.setIfInBounds_toArray, List.set_cons_zero, List.set_cons_succ]
          refine wpXt (v := ?_) 2 rfl (by kernel_rfl) (fun _ _ _ h => h) (by rfl) ?_ hHeld ?_
          rotate_left
          · intro w' hSw
            go_simp <;> with_reducible rfl
          try simp only [Act.put, List.setIfInBounds_toArray, List.set_cons_zero, List.set_cons_succ]
          refine wpXt (v := ?_) 3 rfl (by kernel_rfl) (fun _ _ _ h => h) (by rfl) ?_ hHeld ?_
          rotate_left
          · intro w' hSw
            go_simp <;> with_reducible rfl
          try simp only [Act.put, List.setIfInBounds_toArray, List.set_cons_zero, List.set_cons_succ]
          refine wpXt (v := ?_) 4 rfl (by kernel_rfl) (fun _ _ _ h => h) (by rfl) ?_ hHeld ?_
          rotate_left
          · intro w' hSw
            go_simp <;> with_reducible rfl
          try simp only [Act.put, List.setIfInBounds_toArray, List.set_cons_zero, List.set_cons_succ]
          refine wpXt (v := .int .i64 rv) 5 rfl (by kernel_rfl) (fun _ _ _ h => h) (by rfl) ?_ hHeld ?_
          · intro w' hSw
            exact execO_lookup _ _ _ _ rfl rfl rfl hSw.2.2.2.2.2.2.2.2.2.2
          try simp only [Act.put, List.setIfInBounds_toArray, List.set_cons_zero, List.set_cons_succ]
          refine wpXt (v := ?_) 6 rfl (by kernel_rfl) (fun _ _ _ h => h) (by rfl) ?_ hHeld ?_
          rotate_left
          · intro w' hSw
            go_simp <;> with_reducible rfl
          try simp only [Act.put, List.setIfInBounds_toArray, List.set_cons_zero, List.set_cons_succ]
          refine wpXs 7 rfl (by kernel_rfl) (fun K hK => ?_)
          rw [if_pos (by rfl)]
          refine wpO_mapEntry _ _ _ rfl rfl rfl rE ?_
          refine hK.out _ _ HSC2.out (fun hHeld => ?_)
          clear hK K
          try simp only [Act.put, List.setIfInBounds_toArray, List.set_cons_zero, List.set_cons_succ]
          refine wpXt (v := ?_) 8 rfl (by kernel_rfl) (fun _ _ _ h => h) (by rfl) ?_ hHeld ?_
          rotate_left
          · intro w' hSw
            go_simp <;> with_reducible rfl
          try simp only [Act.put, List.setIfInBounds_toArray, List.set_cons_zero, List.set_cons_succ]
          refine wpXl 9 rfl (by kernel_rfl) rfl (by kernel_rfl) (fun K hK => ?_)
          rw [if_pos (by rfl)]
          refine wpO_entryStore _ _ _ _ rfl rfl rfl rfl r4 ?_
          refine hK.out _ _ ?_
          clear hK K
          try simp only [Act.put]
          --CUT9
          go_upto_region 10 with fail
          have k7d := k7.below ((Below.refl w7.heap.size w7).drew)
          obtain ⟨w8, r8, m8, t8⟩ := k7d.ml.drop (ty := 0) Try.underlying43 hwq
          have k8 := k7d.turnL t8 (by rw [leftV_del]; exact m8)
          have nZl : Z ≠ bl := by omega
          have nVl : V ≠ bl := by omega
          have nYl : Y ≠ bl := by omega
          have rZ8 := (rZ7.drew).of_block (turned_block t8 nZl)
          have rV8 := (rV7.drew).of_block (turned_block t8 nVl)
          have hY8 : w8.cell? ⟨Y, 0, none⟩ = some (.pointer (some ⟨X, 0, none⟩)) := (World.cell?_of_block (a := ⟨Y, 0, none⟩) (turned_block t8 nYl)).trans hY7
          have HSD1 : Hid ((fun w' => w'.cell? ⟨Y, 0, none⟩ = some (.pointer (some ⟨X, 0, none⟩)) ∧ w'.cell? ⟨X, 3, none⟩ = some (.map (some bc)) ∧ w'.cell? ⟨X, 4, none⟩ = some (.map (some bl)) ∧ w'.cell? ⟨X, 5, none⟩ = some (.map (some br)) ∧ w'.cell? ⟨Z, 0, none⟩ = some (.int .i64 q.kind) ∧ w'.cell? ⟨Z, 1, none⟩ = some (.int .i64 q.cls) ∧ w'.cell? ⟨Z, 2, none⟩ = some (.int .i64 q.n) ∧ w'.cell? ⟨V, 0, none⟩ = some (.int .i64 p.kind) ∧ w'.cell? ⟨V, 1, none⟩ = some (.int .i64 p.cls) ∧ w'.cell? ⟨V, 2, none⟩ = some (.int .i64 p.n)) w7.drew) := ⟨hY7, k7d.bx.cell (i := 3) (by omega), k7d.bx.cell (i := 4) (by omega), k7d.bx.cell (i := 5) (by omega), rZ7.drew.cell (i := 0) (by omega), rZ7.drew.cell (i := 1) (by omega), rZ7.drew.cell (i := 2) (by omega), rV7.drew.cell (i := 0) (by omega), rV7.drew.cell (i := 1) (by omega), rV7.drew.cell (i := 2) (by omega)⟩
          have HSD2 : Hid ((fun w' => w'.cell? ⟨Y, 0, none⟩ = some (.pointer (some ⟨X, 0, none⟩)) ∧ w'.cell? ⟨X, 3, none⟩ = some (.map (some bc)) ∧ w'.cell? ⟨X, 4, none⟩ = some (.map (some bl)) ∧ w'.cell? ⟨X, 5, none⟩ = some (.map (some br)) ∧ w'.cell? ⟨Z, 0, none⟩ = some (.int .i64 q.kind) ∧ w'.cell? ⟨Z, 1, none⟩ = some (.int .i64 q.cls) ∧ w'.cell? ⟨Z, 2, none⟩ = some (.int .i64 q.n) ∧ w'.cell? ⟨V, 0, none⟩ = some (.int .i64 p.kind) ∧ w'.cell? ⟨V, 1, none⟩ = some (.int .i64 p.cls) ∧ w'.cell? ⟨V, 2, none⟩ = some (.int .i64 p.n)) w8) := ⟨hY8, k8.bx.cell (i := 3) (by omega), k8.bx.cell (i := 4) (by omega), k8.bx.cell (i := 5) (by omega), rZ8.cell (i := 0) (by omega), rZ8.cell (i := 1) (by omega), rZ8.cell (i := 2) (by omega), rV8.cell (i := 0) (by omega), rV8.cell (i := 1) (by omega), rV8.cell (i := 2) (by omega)⟩
          --CUTa
          refine wp_region_X (fun w' => w'.cell? ⟨Y, 0, none⟩ = some (.pointer (some ⟨X, 0, none⟩)) ∧ w'.cell? ⟨X, 3, none⟩ = some (.map (some bc)) ∧ w'.cell? ⟨X, 4, none⟩ = some (.map (some bl)) ∧ w'.cell? ⟨X, 5, none⟩ = some (.map (some br)) ∧ w'.cell? ⟨Z, 0, none⟩ = some (.int .i64 q.kind) ∧ w'.cell? ⟨Z, 1, none⟩ = some (.int .i64 q.cls) ∧ w'.cell? ⟨Z, 2, none⟩ = some (.int .i64 q.n) ∧ w'.cell? ⟨V, 0, none⟩ = some (.int .i64 p.kind) ∧ w'.cell? ⟨V, 1, none⟩ = some (.int .i64 p.cls) ∧ w'.cell? ⟨V, 2, none⟩ = some (.int .i64 p.n)) 99 (by kernel_rfl) HSD1.out (fun hHeld => ?_)
          refine wpXt (v := ?_) 0 rfl (by kernel_rfl) (fun _ _ _ h => h) (by rfl) ?_ hHeld ?_
          rotate_left
          · intro w' hSw
            go_simp <;> with_reducible rfl
          try simp only [Act.put, List.setIfInBounds_toArray, List.set_cons_zero, List.set_cons_succ]
          refine wpXt (v := ?_) 1 rfl (by kernel_rfl) (fun _ _ _ h => h) (by rfl) ?_ hHeld ?_
          rotate_left
          · intro w' hSw
            go_simp <;> with_reducible rfl
          try simp only [Act.put, List.setIfInBounds_toArray, List.set_cons_zero, List.set_cons_succ]
          refine wpXt (v := ?_) 2 rfl (by kernel_rfl) (fun _ _ _ h => h) (by rfl) ?_ hHeld ?_
          rotate_left
          · intro w' hSw
            go_simp <;> with_reducible rfl
          try simp only [Act.put, List.setIfInBounds_toArray, List.set_cons_zero, List.set_cons_succ]
          refine wpXt (v := ?_) 3 rfl (by kernel_rfl) (fun _ _ _ h => h) (by rfl) ?_ hHeld ?_
          rotate_left
          · intro w' hSw
            go_simp <;> with_reducible rfl
          try simp only [Act.put, List.setIfInBounds_toArray, List.set_cons_zero, List.set_cons_succ]
          refine wpXt (v := ?_) 4 rfl (by kernel_rfl) (fun _ _ _ h => h) (by rfl) ?_ hHeld ?_
          rotate_left
          · intro w' hSw
            go_simp <;> with_reducible rfl
          try simp only [Act.put, List.setIfInBounds_toArray, List.set_cons_zero, List.set_cons_succ]
          refine wpXs 5 rfl (by kernel_rfl) (fun K hK => ?_)
          rw [if_pos (by rfl)]
          refine wpO_delete _ _ _ _ rfl rfl rfl r8 ?_
          refine hK.out _ _ HSD2.out (fun hHeld => ?_)
          clear hK K
          try simp only [Act.put]
          refine wpAnyX_done (by kernel_rfl) ?_ _
          --CUTb
          have v0 : w8.cell? ⟨V, 0, none⟩ = some (.int .i64 p.kind) := rV8.cell (i := 0) (by omega)
          have v1 : w8.cell? ⟨V, 1, none⟩ = some (.int .i64 p.cls) := rV8.cell (i := 1) (by omega)
          have v2 : w8.cell? ⟨V, 2, none⟩ = some (.int .i64 p.n) := rV8.cell (i := 2) (by omega)
          have zq0 : w8.cell? ⟨Z, 0, none⟩ = some (.int .i64 q.kind) := rZ8.cell (i := 0) (by omega)
          have zq1 : w8.cell? ⟨Z, 1, none⟩ = some (.int .i64 q.cls) := rZ8.cell (i := 1) (by omega)
          have zq2 : w8.cell? ⟨Z, 2, none⟩ = some (.int .i64 q.n) := rZ8.cell (i := 2) (by omega)
          have f0 := rZ8.frozen 0
          have f1 := rZ8.frozen 1
          have f2 := rZ8.frozen 2
          have lZ8 := rZ8.lt
          obtain ⟨w9, hw9⟩ : ∃ w9, w9 = ((w8.setCell ⟨Z, 0, none⟩ (.int .i64 p.kind)).setCell ⟨Z, 1, none⟩ (.int .i64 p.cls)).setCell ⟨Z, 2, none⟩ (.int .i64 p.n) := ⟨_, rfl⟩
          have o9 : ∀ x, x ≠ Z → w9.heap[x]? = w8.heap[x]? := by rw [hw9]; exact set3_off _ _ _ _ _
          have z9 : w9.heap.size = w8.heap.size := by rw [hw9]; exact set3_size _ _ _ _ _
          have hZo5 : vd5.ownBlock ≠ some Z := q5.off (by show Z < W2.drew.heap.size; have := rZ2.lt; exact this) hZo
          have hYo5 : vd5.ownBlock ≠ some Y := q5.off (by show Y < W2.drew.heap.size; exact block_lt hY2) hYo
          have k9 := k8.off o9 (by omega) (by omega) hZo5
          have kq9 : Kq X bl br vd0 vd5 w w9 := by
            have a1 := k2d.kq.trans q5
            have a2 := a1.trans (Kq.of_below ((Below.refl w5.heap.size w5).drew))
            have a3 := (a2.trans (Kq.of_turned t2 (Or.inr rfl))).trans (Kq.of_turned t3 (Or.inr rfl))
            have a4 := (a3.trans (Kq.of_below ((Below.refl w7.heap.size w7).drew))).trans (Kq.of_turned t8 (Or.inl rfl))
            refine a4.wr (Z := Z) ?_ ?_ ?_ z9 o9 hwZ <;> rw [hw9] <;> rfl
          have hnl : (done ++ stepsOf (regsR r0 r1) cv ⟨p, q⟩).length ≤ 4 * n := by
            have h := (OrI.move HF.out.1 k.inv hp hnone).len
            rw [hcv] at h
            have := HL.out.2
            omega
          have kc : FrC X bc bl br B r0 r1 fr nC fC l cl vd0 w (updP left q none) (updP rd p (rv - 1)) vd5 (done ++ stepsOf (regsR r0 r1) cv ⟨p, q⟩) (nR + 1) w9 := by
            refine ⟨k9, kq9, ?_, ?_, ?_⟩
            · have h := OrI.move HF.out.1 k.inv hp hnone
              rw [hcv] at h
              exact h
            · rw [← hrv]
              exact cnt_step HF.out.1 k.inv k.cnt hp
            · have h1 := cntL_drop HF.out.1 k.inv hp
              have h2 := k.bd
              omega
          have kc10 := kc.below ((Below.refl w9.heap.size w9).alloc (Nat.le_refl _) (.cells #[.int .i64 p.kind, .int .i64 p.cls, .int .i64 p.n] 26))
          have rz10 := pl_row w9 p
          have hms1 : msX X n wr = 4 * n + 1 - done.length := by
            obtain ⟨a1, c1, e⟩ := k.st.form
            have h : wr.cell? ⟨X, 6, none⟩ = some vd := k.st.bx.cell (i := 6) (by omega)
            unfold msX
            rw [h, e]
          have hms2 : msX X n (w9.alloc (.cells #[.int .i64 p.kind, .int .i64 p.cls, .int .i64 p.n] 26)) = 4 * n + 1 - (done ++ stepsOf (regsR r0 r1) cv ⟨p, q⟩).length := by
            obtain ⟨a1, c1, e⟩ := kc10.st.form
            have h : (w9.alloc (.cells #[.int .i64 p.kind, .int .i64 p.cls, .int .i64 p.n] 26)).cell? ⟨X, 6, none⟩ = some vd5 := kc10.st.bx.cell (i := 6) (by omega)
            unfold msX
            rw [h, e]
          have hgrow : done.length < (done ++ stepsOf (regsR r0 r1) cv ⟨p, q⟩).length := by
            rw [List.length_append]
            have : 0 < (stepsOf (regsR r0 r1) cv ⟨p, q⟩).length := by unfold stepsOf; split <;> simp
            omega
          have hY9 : w9.cell? ⟨Y, 0, none⟩ = some (.pointer (some ⟨X, 0, none⟩)) := (World.cell?_of_block (a := ⟨Y, 0, none⟩) (o9 Y (by omega))).trans hY8
          have lY9 := block_lt hY9
          have HF10 : Hid (FrL X bc bl br B r0 r1 fr nC fC l cl vd0 w Y (j + 1) p w9.heap.size (w9.alloc (.cells #[.int .i64 p.kind, .int .i64 p.cls, .int .i64 p.n] 26))) := by
            refine ⟨_, _, _, _, _, kc10, fun x hx => stuck_step HF.out.1 k.inv hp (hst x hx), (World.cell?_alloc_lt _ _ _ lY9).trans hY9, hYo5, rz10, kc.st.noff (Nat.le_refl _), kc.kq.size, fun e => by have : Y < w9.heap.size := lY9; omega, hwp⟩
          have HMS : Hid (msX X n (w9.alloc (.cells #[.int .i64 p.kind, .int .i64 p.cls, .int .i64 p.n] 26)) < msX X n wr) := by
            show _ < _
            rw [hms1, hms2]
            omega
          have HW9 : Hid (w9 = ((w8.setCell ⟨Z, 0, none⟩ (.int .i64 p.kind)).setCell ⟨Z, 1, none⟩ (.int .i64 p.cls)).setCell ⟨Z, 2, none⟩ (.int .i64 p.n)) := hw9
          have HZ9 : Hid (w9.heap.size = w8.heap.size) := z9
          clear hw9 o9 z9 k9 kq9 kc kc10 rz10 hms1 hms2 hgrow hY9 lY9 rZ8 rV8 k8 hnl HI
          --CUTc
          go_wp2
          rw [← HW9.out]
          --CUTd
          exact ⟨⟨_, _, rfl, by first | exact HF10 | (rw [← HZ9.out]; exact HF10)⟩, HMS.out⟩
    · have hjn : j = n := by omega
      subst hjn
      have HE : Hid (∃ left rd vd done nR, FrC X bc bl br B r0 r1 fr nC fC l cl vd0 w left rd vd done nR wr ∧ ∀ m ∈ l, Stuck l left m.dst) := by
        obtain ⟨left, rd, vd, done, nR, k, hst, _⟩ := HI.out
        refine ⟨left, rd, vd, done, nR, k, fun m hm => hst m ?_⟩
        rw [List.take_of_length_le (by rw [HL.out.2]; exact Nat.le_refl _)]
        exact hm
      clear HI
      --CUT4
      go_wp2
      first | go_end0 | refine bodyPost_ret (results_none rfl _ _ _) rfl ?_
      exact ⟨rfl, HE.out⟩
end Go.Proofs.Ytdlglinbjkaokab
