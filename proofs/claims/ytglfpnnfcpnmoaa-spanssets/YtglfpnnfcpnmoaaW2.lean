/-
  The contract of the mason's 'block'.
  A number's last bit: 'x & 1', 'x | 1'.
  The memory of the mason's 'instr': the piece, the instruction that is made, what is needed and fixed.
  What the contract of the mason's 'instr' stands on.
-/
import Derived.Test.YtglfpnnfcpnmoaaW1
import Derived.Test.YtglfpnnfcpnmoaaA1
import Derived.Laws.Bits64b
import Derived.BigQuiet
import Derived.Deep.DeepCutAuto
import Derived.Deep.CutBlock
namespace Go.Proofs.Ytglfpnnfcpnmoaa
open Go.RowKit
set_option linter.unusedVariables false

theorem MaO.only {N : Nat} {κ κ' : Nat → Nat} {w w' : World} {P : Nat} {s : Ms} (h : MaO N κ w P s) (ho : Only (fun r => r = 5) κ κ' w w') (hf : ∀ b, w'.heap.size ≤ b → κ' b = 0) : MaO N κ' w' P s := by
  obtain ⟨vv, vb, vk, al, bx, h⟩ := h
  exact ⟨vv, vb, vk, al, bx, h.only ho hf⟩
theorem MaO.fresh {N : Nat} {κ : Nat → Nat} {w : World} {P : Nat} {s : Ms} (h : MaO N κ w P s) : ∀ b, w.heap.size ≤ b → κ b = 0 := by
  obtain ⟨vv, vb, vk, al, bx, h⟩ := h
  exact h.fresh
theorem MaO.szN {N : Nat} {κ : Nat → Nat} {w : World} {P : Nat} {s : Ms} (h : MaO N κ w P s) : N ≤ w.heap.size := by
  obtain ⟨vv, vb, vk, al, bx, h⟩ := h
  exact h.szN
theorem MaO.lowN {N : Nat} {κ : Nat → Nat} {w : World} {P : Nat} {s : Ms} (h : MaO N κ w P s) : ∀ b, b < N → κ b = 0 := by
  obtain ⟨vv, vb, vk, al, bx, h⟩ := h
  exact h.lowN
theorem MaO.kP {N : Nat} {κ : Nat → Nat} {w : World} {P : Nat} {s : Ms} (h : MaO N κ w P s) : κ P = 1 ∧ P < w.heap.size := by
  obtain ⟨vv, vb, vk, al, bx, h⟩ := h
  exact ⟨h.kP, h.row.lt⟩
theorem MaO.below {N : Nat} {κ : Nat → Nat} {w w' : World} {P : Nat} {s : Ms} (h : MaO N κ w P s) (hb : Below w.heap.size w w') : MaO N κ w' P s := h.only (Only.of_below hb) fun b hb' => h.fresh b (Nat.le_trans hb.size hb')
theorem SlK.retag {α : Type} {κ κ' : Nat → Nat} {w : World} {k : Nat} {R : List Value → α → Prop} {v : Value} {l : List α} (h : SlK κ w k R v l) (hk : ∀ b, κ b = 0 → κ' b = 0) : SlK κ' w k R v l :=
  ⟨h.1, h.2.imp id fun h2 g hg => ⟨hk g (h2 g hg).1, (h2 g hg).2⟩⟩
theorem MaS.retag {N : Nat} {κ κ' : Nat → Nat} {w : World} {P : Nat} {s : Ms} {vv vb vk : Value} {al : Int} {bx : Nat → Value × Value × Value} (h : MaS N κ w P s vv vb vk al bx) (hk : ∀ b, κ b ≠ 5 → κ' b = κ b) : MaS N κ' w P s vv vb vk al bx := by
  have hr : ∀ {v : Value} {r : Nat}, r ≠ 5 → (∀ g, v.ownBlock = some g → κ g = r) → ∀ g, v.ownBlock = some g → κ' g = r := fun h5 hh g hg => by rw [hk g (by rw [hh g hg]; exact h5)]; exact hh g hg
  have h0 : ∀ b, κ b = 0 → κ' b = 0 := fun b hb => by rw [hk b (by omega)]; exact hb
  refine ⟨h.row, by rw [hk P (by rw [h.kP]; omega)]; exact h.kP, h.ov, hr (by omega) h.kv, h.ok, hr (by omega) h.kk, h.ob, hr (by omega) h.kb, fun j hj => ?_, fun b hb => h0 b (h.fresh b hb), fun b hb => h0 b (h.lowN b hb), h.szN⟩
  obtain ⟨par, ⟨L, l1, l2, l3⟩, ki, ⟨M, m1, m2, m3⟩, ke⟩ := h.blk j hj
  exact ⟨par.retag h0, ⟨L, l1, l2, fun p hp => ⟨(l3 p hp).1.retag h0, (l3 p hp).2.retag h0⟩⟩, hr (by omega) ki, ⟨M, m1, m2, fun p hp => (m3 p hp).retag h0⟩, hr (by omega) ke⟩
theorem MaO.retag {N : Nat} {κ κ' : Nat → Nat} {w : World} {P : Nat} {s : Ms} (h : MaO N κ w P s) (hk : ∀ b, κ b ≠ 5 → κ' b = κ b) : MaO N κ' w P s := by
  obtain ⟨vv, vb, vk, al, bx, h⟩ := h
  exact ⟨vv, vb, vk, al, bx, h.retag hk⟩

/-- Places of values that come next. -/
def nextV (n k : Nat) : List Int := (List.range k).map fun j => ((n + j : Nat) : Int)
theorem nextV_succ (n k : Nat) : nextV n (k + 1) = nextV n k ++ [((n + k : Nat) : Int)] := by simp [nextV, List.range_succ]
theorem nextV_len (n k : Nat) : (nextV n k).length = k := by simp [nextV]

/-- What 'block' has where k params are made. -/
structure BlS (N : Nat) (κ0 : Nat → Nat) (w0 : World) (P : Nat) (s : Ms) (classes : List Int) (vc : Value) (k : Nat) (κ : Nat → Nat) (w : World) (vp : Value) : Prop where
  ma : MaO N κ w P { s with f := ⟨s.f.values ++ classes.take k, s.f.blocks⟩ }
  only : Only MR κ0 κ w0 w
  row : w.rowIs w0.heap.size 40 3 (fun q => if q = 0 then vp else .slice none 0 0)
  k5 : κ w0.heap.size = 5
  own : w.ownsRow N 3 1 vp k ((nextV s.f.values.length k).flatMap cI)
  kp : ∀ g, vp.ownBlock = some g → κ g = 5 ∧ w0.heap.size < g
  cls : SlK κ w 1 RInt vc classes
theorem BlS.after {N : Nat} {κ0 : Nat → Nat} {w0 : World} {P : Nat} {s : Ms} {classes : List Int} {vc : Value} {k : Nat} {κ κ' : Nat → Nat} {w w' : World} {vp : Value} {s' : Ms} (h : BlS N κ0 w0 P s classes vc k κ w vp) (ho : Only (fun r => r = 1 ∨ r = 2) κ κ' w w') :
    Only MR κ0 κ' w0 w' ∧ w'.rowIs w0.heap.size 40 3 (fun q => if q = 0 then vp else .slice none 0 0) ∧ κ' w0.heap.size = 5 ∧ w'.ownsRow N 3 1 vp k ((nextV s.f.values.length k).flatMap cI) ∧ (∀ g, vp.ownBlock = some g → κ' g = 5 ∧ w0.heap.size < g) ∧ SlK κ' w' 1 RInt vc classes := by
  have o := own_only h.own (fun g hg => (h.kp g hg).1) ho (by omega)
  exact ⟨h.only.trans (ho.mono fun r hr => by unfold MR; omega), h.row.of_block (ho.block _ h.row.lt (by rw [h.k5]; omega)), by rw [ho.role _ h.row.lt]; exact h.k5, o.1, fun g hg => ⟨o.2 g hg, (h.kp g hg).2⟩, h.cls.only ho (by omega)⟩
/-- One param more. -/
theorem BlS.push {N : Nat} {κ0 : Nat → Nat} {w0 : World} {P : Nat} {s : Ms} {classes : List Int} {vc : Value} {k g cap : Nat} {κ : Nat → Nat} {w wa w1 : World} {vp : Value} (hk : k < classes.length) (hma : MaO N κ w P { s with f := ⟨s.f.values ++ classes.take (k + 1), s.f.blocks⟩ })
    (h : Only MR κ0 κ w0 w ∧ w.rowIs w0.heap.size 40 3 (fun q => if q = 0 then vp else .slice none 0 0) ∧ κ w0.heap.size = 5 ∧ w.ownsRow N 3 1 vp k ((nextV s.f.values.length k).flatMap cI) ∧ (∀ g, vp.ownBlock = some g → κ g = 5 ∧ w0.heap.size < g) ∧ SlK κ w 1 RInt vc classes)
    (hwa : Below w.heap.size w wa) (hgrow : wa.grownBy w1 vp.ownBlock) (hown : w1.ownsRow N 3 1 (.slice (some ⟨g, 0, none⟩) (k + 1) cap) (k + 1) ((nextV s.f.values.length k).flatMap cI ++ [.int .i64 ((s.f.values.length + k : Nat) : Int)])) (hat : vp.ownBlock = some g ∨ g = wa.heap.size) :
    BlS N κ0 w0 P s classes vc (k + 1) (upK κ g 5) (w1.setCell ⟨w0.heap.size, 0, none⟩ (.slice (some ⟨g, 0, none⟩) (k + 1) cap)) (.slice (some ⟨g, 0, none⟩) (k + 1) cap) := by
  obtain ⟨h1, h2, h3, h4, h5, h6⟩ := h
  have hza := hwa.size
  have hz1 := hgrow.size
  have hl := h2.lt
  have hg : (g < w.heap.size ∧ κ g = 5) ∨ w.heap.size ≤ g := by
    rcases hat with e | e
    · exact Or.inl ⟨(own_base h4 e).2, (h5 g e).1⟩
    · right; omega
  have hg0 : w0.heap.size < g := by
    rcases hat with e | e
    · exact (h5 g e).2
    · omega
  have hgl : g < w1.heap.size := (own_base hown (g := g) rfl).2
  have o1 : Only (fun r => r = 5) κ (upK κ g 5) w w1 := ((Only.of_below hwa).grown hgrow fun k hk => Or.inr (h5 k hk).1).tag (upK_old hg)
  have ho := o1.set (a := w0.heap.size) (Or.inr h3) 0 (.slice (some ⟨g, 0, none⟩) (k + 1) cap)
  have hz0 : w0.heap.size ≤ w.heap.size := h1.size
  refine ⟨hma.only ho fun b hb => ?_, ?_, ?_, ?_, ?_, fun g' hg' => ?_, h6.only ho (by omega)⟩
  · have hb' : w1.heap.size ≤ b := by simpa [World.setCell] using hb
    unfold upK
    rw [if_neg (by omega)]
    exact hma.fresh b (by omega)
  · refine ⟨ho.os.trans h1.os, ho.tape.trans h1.tape, ho.output.trans h1.output, Nat.le_trans h1.size ho.size, fun b hb => (ho.role b (by omega)).trans (h1.role b hb), fun b hb hs => ?_⟩
    rw [Below.heap_setCell _ _ _ _ (by simp; omega), hgrow.block b (by omega) (fun e => by have := (h5 b e.symm).2; omega), hwa.block b (by omega)]
    exact h1.block b hb hs
  · have := ((h2.of_block (w' := w1) ((hgrow.block _ (by omega) fun e => by have := (h5 _ e.symm).2; omega).trans (hwa.block _ hl))).set 0 (.slice (some ⟨g, 0, none⟩) (k + 1) cap))
    refine this.congr fun q hq => ?_
    by_cases e : q = 0 <;> simp [e]
  · rw [ho.role _ hl]; exact h3
  · rw [nextV_succ, List.flatMap_append]
    exact own_keep hown fun b hb _ _ => Below.heap_setCell _ _ _ _ (by simp [Value.ownBlock] at hb; simp; omega)
  · simp [Value.ownBlock] at hg'
    subst hg'
    exact ⟨by simp [upK], hg0⟩


set_option maxHeartbeats 8000000 in
theorem ma_block (N : Nat) (κ : Nat → Nat) (w : World) (P : Nat) (s : Ms) (vc : Value) (classes : List Int) (h : MaO N κ w P s) (hc : SlK κ w 1 RInt vc classes) (hb : s.f.blocks.length ≤ 1000) (hv : s.f.values.length ≤ 10000) (hcl : classes.length ≤ 1000) :
    Calls Try.prog 13 #[.pointer (some ⟨P, 0, none⟩), vc] w fun e w' => e = .returned (.int .i64 s.f.blocks.length) ∧ ∃ κ', MaO N κ' w' P (blockM s classes).1 ∧ Only MR κ κ' w w' := by
  obtain ⟨i3, hi3, hz3, hz31, hz32⟩ := info_parts infoMI
  obtain ⟨iB, hiB, hzB, hzB1, hzB2⟩ := info_parts infoMB
  obtain ⟨ac, cc, rfl, _⟩ := hc.1.out
  obtain ⟨W, hW⟩ : ∃ W, W = w.alloc (.cells #[.slice none 0 0, .slice none 0 0, .slice none 0 0] 40) := ⟨_, rfl⟩
  have hbw : Below w.heap.size w W := by rw [hW]; exact (Below.refl _ _).alloc (Nat.le_refl _) _
  have hk0 : κ w.heap.size = 0 := h.fresh _ (Nat.le_refl _)
  have HS0 : Hid (BlS N κ w P s classes (.slice ac classes.length cc) 0 (upK κ w.heap.size 5) W (.slice none 0 0)) := by
    have hO : Only (fun r => r = 5) κ (upK κ w.heap.size 5) w W := (Only.of_below hbw).tag (upK_old (Or.inr (Nat.le_refl _)))
    have hz : W.heap.size = w.heap.size + 1 := by rw [hW]; simp
    refine ⟨?_, ?_, ?_, by simp [upK], World.ownsRow_nil _ _ _ _, fun g hg => by simp [Value.ownBlock] at hg, hc.only hO (by omega)⟩
    · have := h.only hO fun b hb => by unfold upK; rw [if_neg (by omega)]; exact h.fresh b (by omega)
      simpa using this
    · exact ⟨hO.os, hO.tape, hO.output, hO.size, hO.role, fun b hb _ => hbw.block b hb⟩
    · rw [hW]
      have := World.rowIs_alloc w #[.slice none 0 0, .slice none 0 0, .slice none 0 0] 40 (fun q => if q = 0 then .slice none 0 0 else .slice none 0 0) fun i hi => by
        simp at hi
        match i, hi with | 0, _ => rfl | 1, _ => rfl | 2, _ => rfl
      exact this
  have HW : Hid (W = w.alloc (.cells #[.slice none 0 0, .slice none 0 0, .slice none 0 0] 40)) := hW
  have HF : Hid (∀ b, w.heap.size ≤ b → κ b = 0) := h.fresh
  clear hW hbw hk0 h hc
  generalize hnl : classes.length = nc at *
  have HNL : Hid (classes.length = nc) := hnl
  clear hnl
  generalize hX : w.heap.size = X at *
  have HX : Hid (w.heap.size = X) := hX
  clear hX
  go_enter Try.func13, Try.ntmps13
  go_wp2_with fail
  rw [← HW.out, HX.out]
  go_loopw [11] (fun i wr => ∃ (k : Nat) (κr : Nat → Nat) (vp : Value), k ≤ nc ∧ i = .int .i64 k ∧ Hid (BlS N κ w P s classes (.slice ac nc cc) k κr wr vp)) (fun i _ => nc - (intOf i).toNat)
  case atStart => exact ⟨0, _, _, Nat.zero_le _, rfl, HS0⟩
  case round =>
    obtain ⟨k, κr, vp, hk, rfl, HI⟩ := hrel
    have hrow := HI.out.row
    rw [HX.out] at hrow
    have r0 : wr.cell? ⟨X, 0, none⟩ = some vp := hrow.cell (i := 0) (by omega)
    have r1 : wr.cell? ⟨X, 1, none⟩ = some (.slice none 0 0) := hrow.cell (i := 1) (by omega)
    have r2 : wr.cell? ⟨X, 2, none⟩ = some (.slice none 0 0) := hrow.cell (i := 2) (by omega)
    have hXl := hrow.lt
    clear hrow
    by_cases hlt : k < nc
    · obtain ⟨b5, off5, cs, rfl, hcl5, hR, hcc⟩ := HI.out.cls.1.at k (by rw [HNL.out]; exact hlt)
      unfold RInt at hR
      subst hR
      have d0 := hcc 0 (by simp)
      simp only [Nat.mul_one, Nat.add_zero, List.getElem_cons_zero] at d0
      have hklt : k < classes.length := by rw [HNL.out]; exact hlt
      have HT : Hid (classes.take (k + 1) = classes.take k ++ [classes[k]]) := List.take_succ_eq_append_getElem hklt
      generalize classes[k] = c at *
      clear hcc hcl5
      have hlen : (s.f.values ++ classes.take k).length = s.f.values.length + k := by rw [List.length_append, List.length_take]; omega
      go_upto_region 5 with fail
      have hnb : Below wr.heap.size wr wr.drew := (Below.refl _ _).drew
      have HV := value_any N κr wr.drew P { s with f := ⟨s.f.values ++ classes.take k, s.f.blocks⟩ } c (HI.out.ma.below hnb) (by show (s.f.values ++ classes.take k).length ≤ 100000; omega)
      have HAFT : Hid (∀ κ' w', Only (fun r => r = 1 ∨ r = 2) κr κ' wr.drew w' → Only MR κ κ' w w' ∧ w'.rowIs w.heap.size 40 3 (fun q => if q = 0 then vp else .slice none 0 0) ∧ κ' w.heap.size = 5 ∧ w'.ownsRow N 3 1 vp k ((nextV s.f.values.length k).flatMap cI) ∧ (∀ g, vp.ownBlock = some g → κ' g = 5 ∧ w.heap.size < g) ∧ SlK κ' w' 1 RInt (.slice (some ⟨b5, off5, none⟩) nc cc) classes) := fun κ' w' ho => HI.out.after (s' := s) (((Only.of_below hnb).tag fun _ _ => rfl).trans ho)
      rw [show (({ s with f := ⟨s.f.values ++ classes.take k, s.f.blocks⟩ } : Ms).f.values.length) = s.f.values.length + k from hlen] at HV
      have HVV : Hid (∀ l, (({ s with f := ⟨s.f.values ++ classes.take k, s.f.blocks⟩ } : Ms).f.values ++ [c]) = l → l = s.f.values ++ classes.take (k + 1)) := fun l hl => by rw [← hl, HT.out]; simp
      clear hlen d0
      refine wp_region_X (fun w' => w'.cell? ⟨X, 0, none⟩ = some vp) 8 (by kernel_rfl) r0 (fun hHeld => ?_)
      refine wpXt 0 rfl (v := ?_) (by kernel_rfl) (fun _ _ _ h => h) (by rfl) ?_ hHeld ?_
      rotate_left
      · intro w' hSw
        go_simp <;> with_reducible rfl
      try simp only [Act.put, List.setIfInBounds_toArray, List.set_cons_zero, List.set_cons_succ]
      refine wpXt 1 rfl (v := ?_) (by kernel_rfl) (fun _ _ _ h => h) (by rfl) ?_ hHeld ?_
      rotate_left
      · intro w' hSw
        go_simp <;> with_reducible rfl
      try simp only [Act.put, List.setIfInBounds_toArray, List.set_cons_zero, List.set_cons_succ]
      refine wpXt 2 rfl (v := ?_) (by kernel_rfl) (fun _ _ _ h => h) (by rfl) ?_ hHeld ?_
      rotate_left
      · intro w' hSw
        go_simp <;> with_reducible rfl
      try simp only [Act.put, List.setIfInBounds_toArray, List.set_cons_zero, List.set_cons_succ]
      refine wpXt 3 rfl (v := ?_) (by kernel_rfl) (fun _ _ _ h => h) (by rfl) ?_ hHeld ?_
      rotate_left
      · intro w' hSw
        go_simp <;> with_reducible rfl
      try simp only [Act.put, List.setIfInBounds_toArray, List.set_cons_zero, List.set_cons_succ]
      refine wpXs 4 rfl (by kernel_rfl) (fun K hK => ?_)
      go_simp
      refine HV.mono ?_
      rintro e w2 ⟨rfl, κ2, hM2, hO2⟩
      have hA := HAFT.out κ2 w2 hO2
      have hrow2 := hA.2.1
      rw [HX.out] at hrow2
      have q0 : w2.cell? ⟨X, 0, none⟩ = some vp := hrow2.cell (i := 0) (by omega)
      have qz := hrow2.frozen 0
      have ql := hrow2.lt
      have own := hA.2.2.2.1
      have oA := own.alloc (.cells #[.int .i64 ((s.f.values.length + k : Nat) : Int)] 3)
      have nX : some X ≠ vp.ownBlock := fun e => by have := (hA.2.2.2.2.1 X e.symm).2; rw [HX.out] at this; omega
      have hNs := hM2.szN
      have HA : Hid (Only MR κ κ2 w w2 ∧ w2.rowIs w.heap.size 40 3 (fun q => if q = 0 then vp else .slice none 0 0) ∧ κ2 w.heap.size = 5 ∧ w2.ownsRow N 3 1 vp k ((nextV s.f.values.length k).flatMap cI) ∧ (∀ g, vp.ownBlock = some g → κ2 g = 5 ∧ w.heap.size < g) ∧ SlK κ2 w2 1 RInt (.slice (some ⟨b5, off5, none⟩) nc cc) classes) := hA
      have HM2 : Hid (MaO N κ2 w2 P { s with f := ⟨s.f.values ++ classes.take (k + 1), s.f.blocks⟩ }) := by
        have e := HVV.out _ rfl
        have h2 := hM2
        simp only at e h2
        rw [e] at h2
        exact h2
      have LX := old_cell X
      have cX : (w2.alloc (.cells #[.int .i64 ((s.f.values.length + k : Nat) : Int)] 3)).cell? ⟨X, 0, none⟩ = some vp := (LX _ _ _ ql).trans q0
      have cZ : (w2.alloc (.cells #[.int .i64 ((s.f.values.length + k : Nat) : Int)] 3)).frozen? ⟨X, 0, none⟩ = false := (frozen?_alloc_cells _ _ _ _).trans qz
      have lX' : X < (w2.alloc (.cells #[.int .i64 ((s.f.values.length + k : Nat) : Int)] 3)).heap.size := by simp; omega
      have HN : Hid (∀ j u, ([.int .i64 ((s.f.values.length + k : Nat) : Int)] : List Value)[j]? = some u → (w2.alloc (.cells #[.int .i64 ((s.f.values.length + k : Nat) : Int)] 3)).cell? ((⟨w2.heap.size, 0, none⟩ : Addr).add j) = some u) := newsG rfl
      have h1c : ∀ u ∈ ([.int .i64 ((s.f.values.length + k : Nat) : Int)] : List Value), u.oneCell' = true := by intro u hu; simp at hu; subst hu; rfl
      clear hA hrow2 hM2 HVV HAFT HV
      refine hK.out _ _ q0 (fun hHeld => ?_)
      clear hK K
      try simp only [Act.put, List.setIfInBounds_toArray, List.set_cons_zero, List.set_cons_succ]
      refine wpXs 5 rfl (by kernel_rfl) (fun K hK => ?_)
      go_simp
      refine hK.out _ _ cX (fun hHeld => ?_)
      clear hK K
      try simp only [Act.put, List.setIfInBounds_toArray, List.set_cons_zero, List.set_cons_succ]
      refine wpXs 6 rfl (by kernel_rfl) (fun K hK => ?_)
      refine step_append_lies _ (by rfl) _ _ _ (by rfl) N 3 i3 _ 1 8 Try.underlying27 hi3 hz3 hz31 hz32 rfl (by omega) vp k _ (by rfl) oA ⟨w2.heap.size, 0, none⟩ 1 1 [.int .i64 ((s.f.values.length + k : Nat) : Int)] (by rfl) (by rfl) HN.out h1c (by omega) (by unfold maxLen; omega) (by omega) (by simp; omega) (w2.heap.size + 1) (by simp) ?_
      intro g cap wb hown hgrow hat hgl
      have x0' := (hgrow.cell_far _ lX' nX).trans cX
      have xz' := (hgrow.frozen_far _ lX' nX).trans cZ
      refine hK.out _ _ x0' (fun hHeld => ?_)
      clear hK K
      try simp only [Act.put, List.setIfInBounds_toArray, List.set_cons_zero, List.set_cons_succ]
      refine wpXt 7 rfl (v := ?_) (by kernel_rfl) (fun _ _ _ h => h) (by rfl) ?_ hHeld ?_
      rotate_left
      · intro w' hSw
        go_simp <;> with_reducible rfl
      try simp only [Act.put, List.setIfInBounds_toArray, List.set_cons_zero, List.set_cons_succ]
      refine wpXl 8 rfl (by kernel_rfl) rfl (by kernel_rfl) (fun K hK => ?_)
      go_simp
      refine hK.out _ _ ?_
      clear hK K
      have hP := BlS.push hklt HM2.out HA.out ((Below.refl _ _).alloc (Nat.le_refl _) (.cells #[.int .i64 ((s.f.values.length + k : Nat) : Int)] 3)) hgrow hown (by simpa using hat)
      rw [HX.out] at hP
      have HP : Hid (BlS N κ w P s classes (.slice (some ⟨b5, off5, none⟩) nc cc) (k + 1) (upK κ2 g 5) (wb.setCell ⟨X, 0, none⟩ (.slice (some ⟨g, 0, none⟩) (k + 1) cap)) (.slice (some ⟨g, 0, none⟩) (k + 1) cap)) := hP
      clear hP hown hgrow hat hgl oA own cX cZ x0' xz' LX r0 r1 r2
      go_wp2
      go_roundw
      case rel => exact ⟨k + 1, _, _, by omega, by go_num, HP⟩
      case measure => simp [intOf]; omega

    · have HKN : Hid (k = nc) := by show k = nc; omega
      obtain ⟨vv, vb, vk, al, bx, hM⟩ := HI.out.ma
      have hMr := hM.retag (κ' := fun b => if w.heap.size ≤ b ∧ κr b = 5 then 0 else κr b) fun b hb => by simp [hb]
      have hpar : SlK (fun b => if w.heap.size ≤ b ∧ κr b = 5 then 0 else κr b) wr 1 RInt vp (nextV s.f.values.length k) :=
        ⟨own_ints _ HI.out.own (by unfold longest; omega), Or.inr fun g hg => ⟨by have := HI.out.kp g hg; simp [this.1]; omega, (own_base HI.out.own hg).2⟩⟩
      have hOr : Only MR κ (fun b => if w.heap.size ≤ b ∧ κr b = 5 then 0 else κr b) w wr := HI.out.only.tag fun b hb => by show (if w.heap.size ≤ b ∧ κr b = 5 then 0 else κr b) = κr b; rw [if_neg (by omega)]
      generalize hκ : (fun b => if w.heap.size ≤ b ∧ κr b = 5 then 0 else κr b) = κ1 at hMr hpar hOr
      clear hκ
      have hnv : (s.f.values ++ classes.take k) = s.f.values ++ classes := by rw [List.take_of_length_le (by have := HNL.out; have := HKN.out; omega)]
      have hMr' : MaS N κ1 wr P { s with f := ⟨s.f.values ++ classes, s.f.blocks⟩ } vv vb vk al bx := by rw [← hnv]; exact hMr
      have HM : Hid (MaS N κ1 wr P { s with f := ⟨s.f.values ++ classes, s.f.blocks⟩ } vv vb vk al bx) := hMr'
      have HPR : Hid (SlK κ1 wr 1 RInt vp (nextV s.f.values.length k)) := hpar
      have HOR : Hid (Only MR κ κ1 w wr) := hOr
      obtain ⟨ap, cp, rfl, _⟩ := hpar.1.out
      rw [nextV_len] at *
      have p3 := hMr'.cells.2.2.2.1
      have pz := hMr'.row.frozen 3
      have pl := hMr'.row.lt
      have hob : wr.ownsRow N 40 3 vb s.f.blocks.length ((List.range s.f.blocks.length).flatMap fun j => c3 (bx j)) := hMr'.ob
      have oA := (hob.alloc (.cells #[.slice ap k cp, .slice none 0 0, .slice none 0 0] 40)).drew
      have nP : some P ≠ vb.ownBlock := fun e => by have := hMr'.kb P e.symm; rw [hMr'.kP] at this; omega
      have hNs := hMr'.szN
      have nX : some X ≠ vb.ownBlock := fun e => by have h1 := hM.kb X e.symm; have h2 := HI.out.k5; rw [HX.out] at h2; omega
      have lX' : X < (wr.alloc (.cells #[.slice ap k cp, .slice none 0 0, .slice none 0 0] 40)).drew.heap.size := by simp; omega
      have LP := old_cell P
      have LX := old_cell X
      have cP : (wr.alloc (.cells #[.slice ap k cp, .slice none 0 0, .slice none 0 0] 40)).drew.cell? ⟨P, 3, none⟩ = some vb := (LP _ _ _ pl).trans p3
      have cZ : (wr.alloc (.cells #[.slice ap k cp, .slice none 0 0, .slice none 0 0] 40)).drew.frozen? ⟨P, 3, none⟩ = false := (frozen?_alloc_cells _ _ _ _).trans pz
      have lP' : P < (wr.alloc (.cells #[.slice ap k cp, .slice none 0 0, .slice none 0 0] 40)).drew.heap.size := by simp; omega
      have HN : Hid (∀ j u, ([.slice ap k cp, .slice none 0 0, .slice none 0 0] : List Value)[j]? = some u → (wr.alloc (.cells #[.slice ap k cp, .slice none 0 0, .slice none 0 0] 40)).drew.cell? ((⟨wr.heap.size, 0, none⟩ : Addr).add j) = some u) := World.news_of_block (cs := #[.slice ap k cp, .slice none 0 0, .slice none 0 0]) (t := 40) (fr := (0, 0)) (heap_alloc_new wr _)
      have h1c : ∀ u ∈ ([.slice ap k cp, .slice none 0 0, .slice none 0 0] : List Value), u.oneCell' = true := by intro u hu; simp at hu; rcases hu with rfl | rfl <;> rfl
      have HNV : Hid ((s.f.values ++ classes) = s.f.values ++ classes) := rfl
      clear hMr hMr' hpar hOr hnv hM HI
      go_upto_region 7 with fail
      refine wp_region_X (fun w' => w'.cell? ⟨P, 3, none⟩ = some vb ∧ w'.cell? ⟨X, 0, none⟩ = some (.slice ap k cp) ∧ w'.cell? ⟨X, 1, none⟩ = some (.slice none 0 0) ∧ w'.cell? ⟨X, 2, none⟩ = some (.slice none 0 0)) 12 (by kernel_rfl) ⟨p3, r0, r1, r2⟩ (fun hHeld => ?_)
      refine wpXt 0 rfl (v := ?_) (by kernel_rfl) (fun _ _ _ h => h) (by rfl) ?_ hHeld ?_
      rotate_left
      · intro w' hSw
        go_simp <;> with_reducible rfl
      try simp only [Act.put, List.setIfInBounds_toArray, List.set_cons_zero, List.set_cons_succ]
      refine wpXt 1 rfl (v := ?_) (by kernel_rfl) (fun _ _ _ h => h) (by rfl) ?_ hHeld ?_
      rotate_left
      · intro w' hSw
        go_simp <;> with_reducible rfl
      try simp only [Act.put, List.setIfInBounds_toArray, List.set_cons_zero, List.set_cons_succ]
      refine wpXt 2 rfl (v := ?_) (by kernel_rfl) (fun _ _ _ h => h) (by rfl) ?_ hHeld ?_
      rotate_left
      · intro w' hSw
        go_simp <;> with_reducible rfl
      try simp only [Act.put, List.setIfInBounds_toArray, List.set_cons_zero, List.set_cons_succ]
      refine wpXt 3 rfl (v := ?_) (by kernel_rfl) (fun _ _ _ h => h) (by rfl) ?_ hHeld ?_
      rotate_left
      · intro w' hSw
        go_simp <;> with_reducible rfl
      try simp only [Act.put, List.setIfInBounds_toArray, List.set_cons_zero, List.set_cons_succ]
      refine wpXt 4 rfl (v := ?_) (by kernel_rfl) (fun _ _ _ h => h) (by rfl) ?_ hHeld ?_
      rotate_left
      · intro w' hSw
        go_simp <;> with_reducible rfl
      try simp only [Act.put, List.setIfInBounds_toArray, List.set_cons_zero, List.set_cons_succ]
      refine wpXt 5 rfl (v := ?_) (by kernel_rfl) (fun _ _ _ h => h) (by rfl) ?_ hHeld ?_
      rotate_left
      · intro w' hSw
        go_simp <;> with_reducible rfl
      try simp only [Act.put, List.setIfInBounds_toArray, List.set_cons_zero, List.set_cons_succ]
      refine wpXt 6 rfl (v := ?_) (by kernel_rfl) (fun _ _ _ h => h) (by rfl) ?_ hHeld ?_
      rotate_left
      · intro w' hSw
        go_simp <;> with_reducible rfl
      try simp only [Act.put, List.setIfInBounds_toArray, List.set_cons_zero, List.set_cons_succ]
      refine wpXs 7 rfl (by kernel_rfl) (fun K hK => ?_)
      go_simp
      refine hK.out _ _ ⟨cP, (LX _ _ _ hXl).trans r0, (LX _ _ _ hXl).trans r1, (LX _ _ _ hXl).trans r2⟩ (fun hHeld => ?_)
      clear hK K
      try simp only [Act.put, List.setIfInBounds_toArray, List.set_cons_zero, List.set_cons_succ]
      refine wpXs 8 rfl (by kernel_rfl) (fun K hK => ?_)
      refine step_append_lies _ (by rfl) _ _ _ (by rfl) N 40 iB _ 3 72 Try.underlying28 hiB hzB hzB1 hzB2 rfl (by omega) vb s.f.blocks.length _ (by rfl) oA ⟨wr.heap.size, 0, none⟩ 1 1 [.slice ap k cp, .slice none 0 0, .slice none 0 0] (by rfl) (by rfl) HN.out h1c (by omega) (by unfold maxLen; omega) (by omega) (by simp; omega) (wr.heap.size + 1) (by simp) ?_
      intro g cap wb hown hgrow hat hgl
      have x0' := (hgrow.cell_far _ lP' nP).trans cP
      have xz' := (hgrow.frozen_far _ lP' nP).trans cZ
      refine hK.out _ _ ⟨x0', (hgrow.cell_far ⟨X, 0, none⟩ lX' nX).trans ((LX _ _ _ hXl).trans r0), (hgrow.cell_far ⟨X, 1, none⟩ lX' nX).trans ((LX _ _ _ hXl).trans r1), (hgrow.cell_far ⟨X, 2, none⟩ lX' nX).trans ((LX _ _ _ hXl).trans r2)⟩ (fun hHeld => ?_)
      clear hK K
      try simp only [Act.put, List.setIfInBounds_toArray, List.set_cons_zero, List.set_cons_succ]
      refine wpXs 9 rfl (by kernel_rfl) (fun K hK => ?_)
      go_simp
      refine hK.out _ _ ⟨x0', (hgrow.cell_far ⟨X, 0, none⟩ lX' nX).trans ((LX _ _ _ hXl).trans r0), (hgrow.cell_far ⟨X, 1, none⟩ lX' nX).trans ((LX _ _ _ hXl).trans r1), (hgrow.cell_far ⟨X, 2, none⟩ lX' nX).trans ((LX _ _ _ hXl).trans r2)⟩ (fun hHeld => ?_)
      clear hK K
      try simp only [Act.put, List.setIfInBounds_toArray, List.set_cons_zero, List.set_cons_succ]
      refine wpXs 10 rfl (by kernel_rfl) (fun K hK => ?_)
      go_simp
      refine hK.out _ _ ⟨x0', (hgrow.cell_far ⟨X, 0, none⟩ lX' nX).trans ((LX _ _ _ hXl).trans r0), (hgrow.cell_far ⟨X, 1, none⟩ lX' nX).trans ((LX _ _ _ hXl).trans r1), (hgrow.cell_far ⟨X, 2, none⟩ lX' nX).trans ((LX _ _ _ hXl).trans r2)⟩ (fun hHeld => ?_)
      clear hK K
      try simp only [Act.put, List.setIfInBounds_toArray, List.set_cons_zero, List.set_cons_succ]
      refine wpXs 11 rfl (by kernel_rfl) (fun K hK => ?_)
      go_simp
      refine hK.out _ _ ⟨x0', (hgrow.cell_far ⟨X, 0, none⟩ lX' nX).trans ((LX _ _ _ hXl).trans r0), (hgrow.cell_far ⟨X, 1, none⟩ lX' nX).trans ((LX _ _ _ hXl).trans r1), (hgrow.cell_far ⟨X, 2, none⟩ lX' nX).trans ((LX _ _ _ hXl).trans r2)⟩ (fun hHeld => ?_)
      clear hK K
      try simp only [Act.put, List.setIfInBounds_toArray, List.set_cons_zero, List.set_cons_succ]
      refine wpXl 12 rfl (by kernel_rfl) rfl (by kernel_rfl) (fun K hK => ?_)
      go_simp
      refine hK.out _ _ ?_
      clear hK K
      have hP := HM.out.pushB (ps := nextV s.f.values.length k) (vp := .slice ap k cp) (((Below.refl _ _).alloc (Nat.le_refl _) (.cells #[.slice ap k cp, .slice none 0 0, .slice none 0 0] 40)).drew) hgrow hown (by simpa using hat) HPR.out
      have q3 := hP.1.cells.2.2.2.1
      have HP : Hid (∃ κ', MaO N κ' (wb.setCell ⟨P, 3, none⟩ (.slice (some ⟨g, 0, none⟩) (s.f.blocks.length + 1) cap)) P (blockM s classes).1 ∧ Only MR κ κ' w (wb.setCell ⟨P, 3, none⟩ (.slice (some ⟨g, 0, none⟩) (s.f.blocks.length + 1) cap))) := by
        have h1 := hP.1
        have e : k = classes.length := by rw [HNL.out]; exact HKN.out
        have e2 : nextV s.f.values.length k = (List.range classes.length).map fun j => ((s.f.values.length + j : Nat) : Int) := by rw [e]; rfl
        rw [e2] at h1
        exact ⟨_, ⟨_, _, _, _, _, h1⟩, HOR.out.trans (hP.2.mono fun r hr => by unfold MR; omega)⟩
      clear hP hown hgrow hat hgl oA hob cP cZ x0' xz' LX LP r0 r1 r2 p3
      go_wp2
      go_ret
      exact ⟨ret_int (by omega), HP.out⟩

end Go.Proofs.Ytglfpnnfcpnmoaa
namespace Go.Proofs.Ytglfpnnfcpnmoaa
open Go.RowKit

theorem and_one (z : Int) : bits .and .i64 z 1 = z % 2 := by
  show IntKind.i64.wrap ((BitVec.ofInt 64 z &&& BitVec.ofInt 64 1).toNat : Int) = _
  have h1 : (BitVec.ofInt 64 1).toNat = 1 := by decide
  have h2 : ((BitVec.ofInt 64 z).toNat : Int) = z % 18446744073709551616 := by
    rw [BitVec.toNat_ofInt]
    rw [Int.toNat_of_nonneg (by omega)]
    rfl
  rw [BitVec.toNat_and, h1, Nat.and_one_is_mod, IntKind.wrap_i64]
  omega
theorem or_one_nat (n : Nat) : n ||| 1 = if n % 2 = 0 then n + 1 else n := by
  have h := Nat.div_add_mod n 2
  have hd : (n ||| 1) / 2 = n / 2 := by
    have := Nat.or_div_two (a := n) (b := 1)
    simpa using this
  have hm : (n ||| 1) % 2 = 1 := by
    have := Nat.or_mod_two_pow (a := n) (b := 1) (n := 1)
    simp at this
    rw [this]
    have h2 : n % 2 = 0 ∨ n % 2 = 1 := by omega
    rcases h2 with h2 | h2 <;> rw [h2] <;> rfl
  have h2 := Nat.div_add_mod (n ||| 1) 2
  split <;> omega
theorem or_one (z : Int) (h0 : -9223372036854775808 ≤ z) (h1 : z ≤ 9223372036854775807) : bits .or .i64 z 1 = if z % 2 = 0 then z + 1 else z := by
  show IntKind.i64.wrap ((BitVec.ofInt 64 z ||| BitVec.ofInt 64 1).toNat : Int) = _
  have e1 : (BitVec.ofInt 64 1).toNat = 1 := by decide
  have h2 : ((BitVec.ofInt 64 z).toNat : Int) = z % 18446744073709551616 := by
    rw [BitVec.toNat_ofInt]
    rw [Int.toNat_of_nonneg (by omega)]
    rfl
  rw [BitVec.toNat_or, e1, or_one_nat, IntKind.wrap_i64]
  split <;> split <;> omega
end Go.Proofs.Ytglfpnnfcpnmoaa
namespace Go.Proofs.Ytglfpnnfcpnmoaa
open Go.RowKit
set_option linter.unusedVariables false

def pieceRow (p : Pc) (q : Nat) : Value := ([.int .i64 p.kind, .int .i64 p.op, .int .i64 p.a, .int .i64 p.b, .int .i64 p.c, .int .i64 p.limits, .int .i64 p.flags] : List Value).getD q (.int .i64 0)
def insRow (op : Int) (vo vs : Value) (q : Nat) : Value := if q = 0 then .int .i64 op else if q = 1 then vo else vs

/-- Of old memory all but those blocks is as it was. -/
structure Off (A : Nat → Prop) (w w' : World) : Prop where
  os : w'.os = w.os
  tape : w'.tape = w.tape
  output : w'.output = w.output
  size : w.heap.size ≤ w'.heap.size
  block : ∀ b, b < w.heap.size → ¬ A b → w'.heap[b]? = w.heap[b]?
theorem Off.of_below {A : Nat → Prop} {w w' : World} (h : Below w.heap.size w w') : Off A w w' := ⟨h.os, h.tape, h.output, h.size, fun b hb _ => h.block b hb⟩
theorem Off.two {Nd Fx : Nat} {w wa w' : World} (h : Below w.heap.size w wa) (k : Two Nd Fx wa w') : Off (fun b => b = Nd ∨ b = Fx) w w' :=
  ⟨k.os.trans h.os, k.tape.trans h.tape, k.output.trans h.output, by rw [k.size]; exact h.size, fun b hb hn => (k.block b (by omega) (by omega)).trans (h.block b hb)⟩
theorem Off.set {A : Nat → Prop} {w w' : World} (h : Off A w w') {a : Nat} (ha : w.heap.size ≤ a) (i : Nat) (v : Value) : Off A w (w'.setCell ⟨a, i, none⟩ v) :=
  ⟨h.os, h.tape, h.output, by have := h.size; simpa [World.setCell] using this, fun b hb hn => (Below.heap_setCell _ _ _ _ (by simp; omega)).trans (h.block b hb hn)⟩
theorem Off.alloc {A : Nat → Prop} {w w' : World} (h : Off A w w') (o : Obj) : Off A w (w'.alloc o) :=
  ⟨h.os, h.tape, h.output, by have := h.size; simp; omega, fun b hb hn => (Below.heap_alloc _ _ _ (Nat.lt_of_lt_of_le hb h.size)).trans (h.block b hb hn)⟩

/-- What 'instr' has. -/
structure MIn (N : Nat) (κ0 : Nat → Nat) (w0 : World) (X P : Nat) (s : Ms) (p : Pc) (op : Int) (κ : Nat → Nat) (w : World) (x : Wk) (sp : List Rg) (vo vs : Value) : Prop where
  ma : MaO N κ w P s
  only : Only MR κ0 κ w0 w
  x0 : w0.heap.size = X
  k5 : ∀ b, X ≤ b → b ≤ X + 4 → κ b = 5
  rp : w.rowIs X 62 7 (pieceRow p)
  rr : w.rowIs (X + 1) 44 3 (insRow 0 (.slice none 0 0) (.slice none 0 0))
  rx : w.rowIs (X + 1 + 1) 44 3 (insRow op vo vs)
  nf : NF w (X + 1 + 1 + 1) (X + 1 + 1 + 1 + 1) x.need x.fixed
  oo : w.ownsRow N 46 5 vo x.ops.length (x.ops.flatMap cO)
  ko : ∀ g, vo.ownBlock = some g → κ g = 5 ∧ X + 4 < g
  os : w.ownsRow N 97 2 vs sp.length (sp.flatMap cR)
  ks : ∀ g, vs.ownBlock = some g → κ g = 5 ∧ X + 4 < g
  ap : ∀ g, vo.ownBlock = some g → vs.ownBlock ≠ some g

section
variable {N : Nat} {κ0 : Nat → Nat} {w0 : World} {X P : Nat} {s : Ms} {p : Pc} {op : Int} {κ : Nat → Nat} {w : World} {x : Wk} {sp : List Rg} {vo vs : Value}

theorem MIn.lt (h : MIn N κ0 w0 X P s p op κ w x sp vo vs) : X + 4 < w.heap.size := h.nf.rf.lt
/-- Behind a call of 'limit', with memory that is new. -/
theorem MIn.off {w' : World} {need fixed : Int × Int} {lim : Int} (h : MIn N κ0 w0 X P s p op κ w x sp vo vs) (ho : Off (fun b => b = X + 1 + 1 + 1 ∨ b = X + 1 + 1 + 1 + 1) w w') (hn : NF w' (X + 1 + 1 + 1) (X + 1 + 1 + 1 + 1) need fixed) : MIn N κ0 w0 X P s p op κ w' ⟨x.ops, need, fixed, lim⟩ sp vo vs := by
  have hl := h.lt
  have hO : Only (fun r => r = 5) κ κ w w' := ⟨ho.os, ho.tape, ho.output, ho.size, fun _ _ => rfl, fun b hb hs => ho.block b hb fun e => hs (h.k5 b (by omega) (by omega))⟩
  have hx0 := h.x0
  refine ⟨h.ma.only hO fun b hb => h.ma.fresh b (Nat.le_trans ho.size hb), ⟨ho.os.trans h.only.os, ho.tape.trans h.only.tape, ho.output.trans h.only.output, Nat.le_trans h.only.size ho.size, h.only.role, fun b hb hs => (ho.block b (by omega) (by omega)).trans (h.only.block b hb hs)⟩, h.x0, h.k5, h.rp.of_block (ho.block _ (by omega) (by omega)), h.rr.of_block (ho.block _ (by omega) (by omega)), h.rx.of_block (ho.block _ (by omega) (by omega)), hn, ?_, h.ko, ?_, h.ks, h.ap⟩
  · exact own_keep h.oo fun g hg _ hlt => ho.block g hlt (by have := (h.ko g hg).2; omega)
  · exact own_keep h.os fun g hg _ hlt => ho.block g hlt (by have := (h.ks g hg).2; omega)
theorem MIn.below {w' : World} (h : MIn N κ0 w0 X P s p op κ w x sp vo vs) (hb : Below w.heap.size w w') : MIn N κ0 w0 X P s p op κ w' x sp vo vs := by
  have hl := h.lt
  exact h.off (lim := x.limits) (Off.of_below hb) (h.nf.off (hb.block _ (by omega)) (hb.block _ (by omega)))
theorem MIn.lim (h : MIn N κ0 w0 X P s p op κ w x sp vo vs) (l : Int) : MIn N κ0 w0 X P s p op κ w ⟨x.ops, x.need, x.fixed, l⟩ sp vo vs := ⟨h.ma, h.only, h.x0, h.k5, h.rp, h.rr, h.rx, h.nf, h.oo, h.ko, h.os, h.ks, h.ap⟩
/-- Behind a call that writes the mason's memory. -/
theorem MIn.after {κ' : Nat → Nat} {w' : World} {s' : Ms} (h : MIn N κ0 w0 X P s p op κ w x sp vo vs) (hm : MaO N κ' w' P s') (ho : Only (fun r => r = 1 ∨ r = 2) κ κ' w w') : MIn N κ0 w0 X P s' p op κ' w' x sp vo vs := by
  have hl := h.lt
  have k : ∀ b, X ≤ b → b ≤ X + 4 → w'.heap[b]? = w.heap[b]? := fun b h1 h2 => ho.block b (by omega) (by rw [h.k5 b h1 h2]; omega)
  have o1 := own_only h.oo (fun g hg => (h.ko g hg).1) ho (by omega)
  have o2 := own_only h.os (fun g hg => (h.ks g hg).1) ho (by omega)
  exact ⟨hm, h.only.trans (ho.mono fun r hr => by unfold MR; omega), h.x0, fun b h1 h2 => by rw [ho.role b (by omega)]; exact h.k5 b h1 h2, h.rp.of_block (k _ (by omega) (by omega)), h.rr.of_block (k _ (by omega) (by omega)), h.rx.of_block (k _ (by omega) (by omega)), h.nf.off (k _ (by omega) (by omega)) (k _ (by omega) (by omega)), o1.1, fun g hg => ⟨o1.2 g hg, (h.ko g hg).2⟩, o2.1, fun g hg => ⟨o2.2 g hg, (h.ks g hg).2⟩, h.ap⟩
/-- An operand more. -/
theorem MIn.pushO {wa w1 : World} {g cap : Nat} {o : Opr} (h : MIn N κ0 w0 X P s p op κ w x sp vo vs) (hwa : Below w.heap.size w wa) (hgrow : wa.grownBy w1 vo.ownBlock)
    (hown : w1.ownsRow N 46 5 (.slice (some ⟨g, 0, none⟩) (x.ops.length + 1) cap) (x.ops.length + 1) (x.ops.flatMap cO ++ [.int .i64 o.kind, .int .i64 o.value, .bool o.late, .int .i64 o.limit, .int .i64 o.n])) (hat : vo.ownBlock = some g ∨ g = wa.heap.size) :
    MIn N κ0 w0 X P s p op (upK κ g 5) (w1.setCell ⟨X + 1 + 1, 1, none⟩ (.slice (some ⟨g, 0, none⟩) (x.ops.length + 1) cap)) ⟨x.ops ++ [o], x.need, x.fixed, x.limits⟩ sp (.slice (some ⟨g, 0, none⟩) (x.ops.length + 1) cap) vs := by
  have hl := h.lt
  have hza := hwa.size
  have hz1 := hgrow.size
  have hg : (g < w.heap.size ∧ κ g = 5) ∨ w.heap.size ≤ g := by
    rcases hat with e | e
    · exact Or.inl ⟨(own_base h.oo e).2, (h.ko g e).1⟩
    · right; omega
  have hg4 : X + 4 < g := by
    rcases hat with e | e
    · exact (h.ko g e).2
    · omega
  have hgl : g < w1.heap.size := (own_base hown (g := g) rfl).2
  have o1 : Only (fun r => r = 5) κ (upK κ g 5) w w1 := ((Only.of_below hwa).grown hgrow fun k hk => Or.inr (h.ko k hk).1).tag (upK_old hg)
  have ho := o1.set (a := X + 1 + 1) (Or.inr (h.k5 _ (by omega) (by omega))) 1 (.slice (some ⟨g, 0, none⟩) (x.ops.length + 1) cap)
  have hx0 := h.x0
  have hsx := h.only.size
  have kept : ∀ b, b < w.heap.size → vo.ownBlock ≠ some b → w1.heap[b]? = w.heap[b]? := fun b hb hne => (hgrow.block b (by omega) fun e => hne e.symm).trans (hwa.block b hb)
  have kX : ∀ b, b ≤ X + 4 → w1.heap[b]? = w.heap[b]? := fun b hb => kept b (by omega) fun e => by have := (h.ko b e).2; omega
  refine ⟨h.ma.only ho fun b hb => ?_, ⟨ho.os.trans h.only.os, ho.tape.trans h.only.tape, ho.output.trans h.only.output, Nat.le_trans h.only.size ho.size, fun b hb => (ho.role b (by omega)).trans (h.only.role b hb), fun b hb hs => ?_⟩, h.x0, fun b h1 h2 => ?_, ?_, ?_, ?_, ?_, ?_, fun g' hg' => ?_, ?_, fun g' hg' => ?_, fun g' hg' => ?_⟩
  · have hb' : w1.heap.size ≤ b := by simpa [World.setCell] using hb
    unfold upK
    rw [if_neg (by omega)]
    exact h.ma.fresh b (by omega)
  · rw [Below.heap_setCell _ _ _ _ (by simp; omega), kX b (by omega)]
    exact h.only.block b hb hs
  · unfold upK
    rw [if_neg (by omega)]
    exact h.k5 b h1 h2
  · exact h.rp.of_block ((Below.heap_setCell _ _ _ _ (by simp; omega)).trans (kX _ (by omega)))
  · exact h.rr.of_block ((Below.heap_setCell _ _ _ _ (by simp)).trans (kX _ (by omega)))
  · refine ((h.rx.of_block (kX _ (by omega))).set 1 _).congr fun q hq => ?_
    match q, hq with | 0, _ => rfl | 1, _ => rfl | 2, _ => rfl
  · exact h.nf.off ((Below.heap_setCell _ _ _ _ (by simp)).trans (kX _ (by omega))) ((Below.heap_setCell _ _ _ _ (by simp; omega)).trans (kX _ (by omega)))
  · simp only [List.length_append, List.length_singleton, List.flatMap_append]
    exact own_keep hown fun b hb _ _ => Below.heap_setCell _ _ _ _ (by simp [Value.ownBlock] at hb; simp; omega)
  · simp [Value.ownBlock] at hg'
    subst hg'
    exact ⟨by simp [upK], hg4⟩
  · refine own_keep h.os fun b hb _ hlt => (Below.heap_setCell _ _ _ _ (by have := (h.ks b hb).2; simp; omega)).trans (kept b hlt fun e => h.ap b e hb)
  · have h1 := h.ks g' hg'
    refine ⟨?_, h1.2⟩
    rw [upK_old hg g' (own_base h.os hg').2]
    exact h1.1
  · simp [Value.ownBlock] at hg'
    subst hg'
    intro e
    have h1 := own_base h.os e
    rcases hat with e2 | e2
    · exact h.ap _ e2 e
    · omega
/-- A spoilt register more. -/
theorem MIn.pushS {wa w1 : World} {g cap : Nat} {r : Rg} (h : MIn N κ0 w0 X P s p op κ w x sp vo vs) (hwa : Below w.heap.size w wa) (hgrow : wa.grownBy w1 vs.ownBlock)
    (hown : w1.ownsRow N 97 2 (.slice (some ⟨g, 0, none⟩) (sp.length + 1) cap) (sp.length + 1) (sp.flatMap cR ++ [.int .i64 r.cls, .int .i64 r.n])) (hat : vs.ownBlock = some g ∨ g = wa.heap.size) :
    MIn N κ0 w0 X P s p op (upK κ g 5) (w1.setCell ⟨X + 1 + 1, 2, none⟩ (.slice (some ⟨g, 0, none⟩) (sp.length + 1) cap)) x (sp ++ [r]) vo (.slice (some ⟨g, 0, none⟩) (sp.length + 1) cap) := by
  have hl := h.lt
  have hza := hwa.size
  have hz1 := hgrow.size
  have hg : (g < w.heap.size ∧ κ g = 5) ∨ w.heap.size ≤ g := by
    rcases hat with e | e
    · exact Or.inl ⟨(own_base h.os e).2, (h.ks g e).1⟩
    · right; omega
  have hg4 : X + 4 < g := by
    rcases hat with e | e
    · exact (h.ks g e).2
    · omega
  have hgl : g < w1.heap.size := (own_base hown (g := g) rfl).2
  have o1 : Only (fun r => r = 5) κ (upK κ g 5) w w1 := ((Only.of_below hwa).grown hgrow fun k hk => Or.inr (h.ks k hk).1).tag (upK_old hg)
  have ho := o1.set (a := X + 1 + 1) (Or.inr (h.k5 _ (by omega) (by omega))) 2 (.slice (some ⟨g, 0, none⟩) (sp.length + 1) cap)
  have hx0 := h.x0
  have hsx := h.only.size
  have kept : ∀ b, b < w.heap.size → vs.ownBlock ≠ some b → w1.heap[b]? = w.heap[b]? := fun b hb hne => (hgrow.block b (by omega) fun e => hne e.symm).trans (hwa.block b hb)
  have kX : ∀ b, b ≤ X + 4 → w1.heap[b]? = w.heap[b]? := fun b hb => kept b (by omega) fun e => by have := (h.ks b e).2; omega
  refine ⟨h.ma.only ho fun b hb => ?_, ⟨ho.os.trans h.only.os, ho.tape.trans h.only.tape, ho.output.trans h.only.output, Nat.le_trans h.only.size ho.size, fun b hb => (ho.role b (by omega)).trans (h.only.role b hb), fun b hb hs => ?_⟩, h.x0, fun b h1 h2 => ?_, ?_, ?_, ?_, ?_, ?_, fun g' hg' => ?_, ?_, fun g' hg' => ?_, fun g' hg' => ?_⟩
  · have hb' : w1.heap.size ≤ b := by simpa [World.setCell] using hb
    unfold upK
    rw [if_neg (by omega)]
    exact h.ma.fresh b (by omega)
  · rw [Below.heap_setCell _ _ _ _ (by simp; omega), kX b (by omega)]
    exact h.only.block b hb hs
  · unfold upK
    rw [if_neg (by omega)]
    exact h.k5 b h1 h2
  · exact h.rp.of_block ((Below.heap_setCell _ _ _ _ (by simp; omega)).trans (kX _ (by omega)))
  · exact h.rr.of_block ((Below.heap_setCell _ _ _ _ (by simp)).trans (kX _ (by omega)))
  · refine ((h.rx.of_block (kX _ (by omega))).set 2 _).congr fun q hq => ?_
    match q, hq with | 0, _ => rfl | 1, _ => rfl | 2, _ => rfl
  · exact h.nf.off ((Below.heap_setCell _ _ _ _ (by simp)).trans (kX _ (by omega))) ((Below.heap_setCell _ _ _ _ (by simp; omega)).trans (kX _ (by omega)))
  · refine own_keep h.oo fun b hb _ hlt => (Below.heap_setCell _ _ _ _ (by have := (h.ko b hb).2; simp; omega)).trans (kept b hlt fun e => h.ap b hb e)
  · have h1 := h.ko g' hg'
    refine ⟨?_, h1.2⟩
    rw [upK_old hg g' (own_base h.oo hg').2]
    exact h1.1
  · simp only [List.length_append, List.length_singleton, List.flatMap_append]
    exact own_keep hown fun b hb _ _ => Below.heap_setCell _ _ _ _ (by simp [Value.ownBlock] at hb; simp; omega)
  · simp [Value.ownBlock] at hg'
    subst hg'
    exact ⟨by simp [upK], hg4⟩
  · intro e
    simp [Value.ownBlock] at e
    subst e
    have h1 := own_base h.oo hg'
    rcases hat with e2 | e2
    · exact h.ap _ hg' e2
    · omega
/-- A block that is new is the call's own. -/
theorem MIn.fresh5 {w' : World} {B : Nat} (h : MIn N κ0 w0 X P s p op κ w x sp vo vs) (hb : Below w.heap.size w w') (hB : w.heap.size = B) (hl : B < w'.heap.size) : MIn N κ0 w0 X P s p op (upK κ B 5) w' x sp vo vs := by
  have hXl := h.lt
  have h1 := h.below hb
  have hk : ∀ b, b < B → upK κ B 5 b = κ b := upK_old (Or.inr (Nat.le_refl _))
  have hO : Only (fun r => r = 5) κ (upK κ B 5) w w' := (Only.of_below hb).tag fun b hb' => hk b (by omega)
  have hsz := h.only.size
  refine ⟨h.ma.only hO fun b hb' => ?_, h1.only.tag fun b hb' => hk b (by omega), h.x0, fun b h2 h3 => ?_, h1.rp, h1.rr, h1.rx, h1.nf, h1.oo, fun g hg => ⟨?_, (h.ko g hg).2⟩, h1.os, fun g hg => ⟨?_, (h.ks g hg).2⟩, h.ap⟩
  · unfold upK
    rw [if_neg (by omega)]
    exact h.ma.fresh b (Nat.le_trans hb.size hb')
  · rw [hk b (by omega)]; exact h.k5 b h2 h3
  · rw [hk g (by have := (own_base h.oo hg).2; omega)]; exact (h.ko g hg).1
  · rw [hk g (by have := (own_base h.os hg).2; omega)]; exact (h.ks g hg).1
/-- A store into it. -/
theorem MIn.setB {B i : Nat} {u : Value} (h : MIn N κ0 w0 X P s p op κ w x sp vo vs) (hk : κ B = 5) (hX : X + 4 < B) (h1 : vo.ownBlock ≠ some B) (h2 : vs.ownBlock ≠ some B) : MIn N κ0 w0 X P s p op κ (w.setCell ⟨B, i, none⟩ u) x sp vo vs := by
  have hXl := h.lt
  have hO : Only (fun r => r = 5) κ κ w (w.setCell ⟨B, i, none⟩ u) := (Only.refl _ _ _).set (Or.inr hk) i u
  have hs : ∀ b, b ≠ B → (w.setCell ⟨B, i, none⟩ u).heap[b]? = w.heap[b]? := fun b hb => Below.heap_setCell _ _ _ _ hb
  have hz : (w.setCell ⟨B, i, none⟩ u).heap.size = w.heap.size := by simp [World.setCell]
  have hx0 := h.x0
  refine ⟨h.ma.only hO fun b hb => h.ma.fresh b (by omega), ⟨hO.os.trans h.only.os, hO.tape.trans h.only.tape, hO.output.trans h.only.output, Nat.le_trans h.only.size hO.size, h.only.role, fun b hb hh => (hs b (by omega)).trans (h.only.block b hb hh)⟩, h.x0, h.k5, h.rp.of_block (hs _ (by omega)), h.rr.of_block (hs _ (by omega)), h.rx.of_block (hs _ (by omega)), h.nf.off (hs _ (by omega)) (hs _ (by omega)), own_keep h.oo fun g hg _ _ => hs g (fun e => h1 (by rw [← e]; exact hg)), h.ko, own_keep h.os fun g hg _ _ => hs g (fun e => h2 (by rw [← e]; exact hg)), h.ks, h.ap⟩
/-- At the end: what was made is laid down for good. -/
theorem MIn.fin {w' : World} (h : MIn N κ0 w0 X P s p op κ w x sp vo vs) (ho : Off (fun b => b = X + 1) w w') (hl : x.ops.length ≤ 1000) (hs : sp.length ≤ 1000) : ∃ κ', MaO N κ' w' P s ∧ Only MR κ0 κ' w0 w' ∧ SlK κ' w' 5 ROpr vo x.ops ∧ SlK κ' w' 2 RRg vs sp := by
  have hXl := h.lt
  have hx0 := h.x0
  have hO : Only (fun r => r = 5) κ κ w w' := ⟨ho.os, ho.tape, ho.output, ho.size, fun _ _ => rfl, fun b hb hs => ho.block b hb fun e => hs (h.k5 b (by omega) (by omega))⟩
  have hm := h.ma.only hO fun b hb => h.ma.fresh b (Nat.le_trans ho.size hb)
  have hO2 : Only MR κ0 κ w0 w' := ⟨ho.os.trans h.only.os, ho.tape.trans h.only.tape, ho.output.trans h.only.output, Nat.le_trans h.only.size ho.size, h.only.role, fun b hb hs => (ho.block b (by have := h.only.size; omega) (by omega)).trans (h.only.block b hb hs)⟩
  have o1 := own_keep h.oo (w' := w') fun g hg _ hlt => ho.block g hlt (by have := (h.ko g hg).2; omega)
  have o2 := own_keep h.os (w' := w') fun g hg _ hlt => ho.block g hlt (by have := (h.ks g hg).2; omega)
  refine ⟨fun b => if X ≤ b ∧ κ b = 5 then 0 else κ b, hm.retag fun b hb => by simp [hb], hO2.tag fun b hb => ?_, ⟨own_oprs _ o1 (by unfold longest; omega), Or.inr fun g hg => ⟨?_, (own_base o1 hg).2⟩⟩, ⟨own_rgs _ o2 (by unfold longest; omega), Or.inr fun g hg => ⟨?_, (own_base o2 hg).2⟩⟩⟩
  · show (if X ≤ b ∧ κ b = 5 then 0 else κ b) = κ b
    rw [if_neg (by omega)]
  · have := h.ko g hg
    simp [this.1]
    omega
  · have := h.ks g hg
    simp [this.1]
    omega
end
end Go.Proofs.Ytglfpnnfcpnmoaa
namespace Go.Proofs.Ytglfpnnfcpnmoaa
open Go.RowKit
set_option linter.unusedVariables false

theorem Off.setA {A : Nat → Prop} {w w' : World} (h : Off A w w') {a : Nat} (ha : A a) (i : Nat) (v : Value) : Off A w (w'.setCell ⟨a, i, none⟩ v) :=
  ⟨h.os, h.tape, h.output, by have := h.size; simpa [World.setCell] using this, fun b hb hn => (Below.heap_setCell _ _ _ _ (fun e => hn (by rw [e]; exact ha))).trans (h.block b hb hn)⟩
/-- A piece whose numbers are numbers of the machine. -/
structure PcOk (p : Pc) : Prop where
  op : -9223372036854775808 ≤ p.op ∧ p.op ≤ 9223372036854775807
  a : -9223372036854775808 ≤ p.a ∧ p.a ≤ 9223372036854775807
  b : -9223372036854775808 ≤ p.b ∧ p.b ≤ 9223372036854775807
  c : -9223372036854775808 ≤ p.c ∧ p.c ≤ 9223372036854775807
  limits : -9223372036854775808 ≤ p.limits ∧ p.limits ≤ 9223372036854775807
  flags : -9223372036854775808 ≤ p.flags ∧ p.flags ≤ 9223372036854775807

theorem tdiv_bd (a : Int) (j : Nat) (h0 : -9223372036854775808 ≤ a) (h1 : a ≤ 9223372036854775807) : -9223372036854775808 ≤ Int.tdiv a ((j : Int) + 1) ∧ Int.tdiv a ((j : Int) + 1) ≤ 9223372036854775807 := by
  have h := Int.natAbs_tdiv a ((j : Int) + 1)
  have h2 : (Int.tdiv a ((j : Int) + 1)).natAbs ≤ a.natAbs := by rw [h]; exact Nat.div_le_self _ _
  rcases Int.lt_or_le a 0 with ha | ha
  · have h3 : Int.tdiv a ((j : Int) + 1) ≤ 0 := by
      have e : a = -(-a) := by omega
      rw [e, Int.neg_tdiv]
      have := Int.tdiv_nonneg (a := -a) (b := (j : Int) + 1) (by omega) (by omega)
      omega
    omega
  · have h3 := Int.tdiv_nonneg (a := a) (b := (j : Int) + 1) ha (by omega)
    omega
/-- The defs of an instruction; what it spoils. -/
def defsM (s : Ms) (p : Pc) (flags : Int) (x0 : Wk) : List Int × Int × Wk :=
  if flags / 2 ^ 8 % 2 = 1 then defM s.m0 s.m1 p flags x0.ops.length 1 (defM s.m0 s.m1 p flags x0.ops.length 0 s.f.values (-1) x0).1 (defM s.m0 s.m1 p flags x0.ops.length 0 s.f.values (-1) x0).2.1 (defM s.m0 s.m1 p flags x0.ops.length 0 s.f.values (-1) x0).2.2 else defM s.m0 s.m1 p flags x0.ops.length 0 s.f.values (-1) x0
def spM (s : Ms) (p : Pc) (flags : Int) (x : Wk) : List Rg := if flags / 2 ^ 12 % 3 = 0 then spoilsM 0 (min (pickedOf p.b 4) (s.m0 - 1 - x.need.1)) s.m0 ++ spoilsM 1 (min (pickedOf p.b 4) (s.m1 - 1 - x.need.2)) s.m1 else []
/-- How much is needed and fixed by so many operands. -/
def NfBd (k : Int) (x : Wk) : Prop := ∀ c : Int, (c = 0 ∨ c = 1) → 0 ≤ get2 x.need c ∧ get2 x.need c ≤ k ∧ 0 ≤ get2 x.fixed c ∧ get2 x.fixed c ≤ k
theorem inc2_bd (n : Int × Int) (c d : Int) (hc : c = 0 ∨ c = 1) (hd : d = 0 ∨ d = 1) : get2 n d ≤ get2 (inc2 n c) d ∧ get2 (inc2 n c) d ≤ get2 n d + 1 := by
  rw [get2_inc2 n c d hc hd]
  split <;> omega
theorem limit_bd {m0 m1 wish c k : Int} {need fixed : Int × Int} {ops : List Opr} {l : Int} (hc : c = 0 ∨ c = 1) (h : NfBd k ⟨ops, need, fixed, l⟩) (ops' : List Opr) (l' : Int) : NfBd (k + 1) ⟨ops', (limitM m0 m1 wish c need fixed).2.2.1, (limitM m0 m1 wish c need fixed).2.2.2, l'⟩ := by
  intro d hd
  have h1 := h d hd
  simp only at h1
  have i1 := inc2_bd need c d hc hd
  have i2 := inc2_bd fixed c d hc hd
  unfold limitM
  split
  · split <;> (simp only; omega)
  · split <;> (simp only; omega)
/-- What is spoilt, class by class. -/
def spC (s : Ms) (p : Pc) (x : Wk) : Nat → List Rg
  | 0 => []
  | 1 => spoilsM 0 (min (pickedOf p.b 4) (s.m0 - 1 - x.need.1)) s.m0
  | _ => spoilsM 0 (min (pickedOf p.b 4) (s.m0 - 1 - x.need.1)) s.m0 ++ spoilsM 1 (min (pickedOf p.b 4) (s.m1 - 1 - x.need.2)) s.m1
/-- The defs, one by one. -/
def dSt (s : Ms) (p : Pc) (flags : Int) (U : Wk) : Nat → List Int × Int × Wk
  | 0 => (s.f.values, -1, U)
  | i + 1 => defM s.m0 s.m1 p flags U.ops.length i (dSt s p flags U i).1 (dSt s p flags U i).2.1 (dSt s p flags U i).2.2
structure DfS (s : Ms) (p : Pc) (flags : Int) (U : Wk) (i : Nat) (vals : List Int) (reused : Int) (x : Wk) : Prop where
  eq : dSt s p flags U i = (vals, reused, x)
  l0 : 0 ≤ x.limits
  l1 : x.limits < 1099511627776
  bd : NfBd (3 + i) x
  len : x.ops.length = U.ops.length + i
  vl : vals.length = s.f.values.length + i
  val : ∀ o ∈ x.ops, isValueB vals.length o.value = true
  cl : ∀ c ∈ vals, c = 0 ∨ c = 1
theorem DfS.step {s : Ms} {p : Pc} {flags : Int} {U : Wk} {i : Nat} {vals : List Int} {reused : Int} {x : Wk} (h : DfS s p flags U i vals reused x) : DfS s p flags U (i + 1) (defM s.m0 s.m1 p flags U.ops.length i vals reused x).1 (defM s.m0 s.m1 p flags U.ops.length i vals reused x).2.1 (defM s.m0 s.m1 p flags U.ops.length i vals reused x).2.2 := by
  have hb := bit_bd p.c i
  have h0 := h.l0
  have h1 := h.l1
  have e : dSt s p flags U (i + 1) = defM s.m0 s.m1 p flags U.ops.length i vals reused x := by
    show defM _ _ _ _ _ _ _ _ _ = _
    rw [h.eq]
  have hval : ∀ o ∈ x.ops, isValueB (vals ++ [p.c / 2 ^ i % 2]).length o.value = true := fun o ho => isValue_app (h.val o ho)
  have hnew : isValueB (vals ++ [p.c / 2 ^ i % 2]).length (vals.length : Int) = true := by simp [isValueB]; omega
  have hcl : ∀ c ∈ vals ++ [p.c / 2 ^ i % 2], c = 0 ∨ c = 1 := fun c hc => by
    rcases List.mem_append.1 hc with hc | hc
    · exact h.cl c hc
    · rw [List.mem_singleton.1 hc]; exact hb
  unfold defM at e ⊢
  simp only at e ⊢
  split at e
  · rename_i hA
    rw [if_pos hA]
    refine ⟨e, by simp only; omega, by simp only; omega, fun d hd => ?_, by simp [h.len]; omega, by simp [h.vl]; omega, fun o ho => ?_, hcl⟩
    · have h3 := h.bd d hd
      have h4 := inc2_bd x.need (p.c / 2 ^ i % 2) d hb hd
      simp only
      omega
    · rcases List.mem_append.1 ho with ho | ho
      · exact hval o ho
      · rw [List.mem_singleton.1 ho]; exact hnew
  · rename_i hA
    rw [if_neg hA]
    refine ⟨e, by simp only; omega, by simp only; omega, fun d hd => ?_, by simp [h.len]; omega, by simp [h.vl]; omega, fun o ho => ?_, hcl⟩
    · have h3 := limit_bd (m0 := s.m0) (m1 := s.m1) (wish := if 1 + x.limits % 5 = 5 then 1 else 1 + x.limits % 5) hb (ops := x.ops) (l := x.limits) (need := x.need) (fixed := x.fixed) h.bd x.ops (x.limits / 5) d hd
      simp only at h3 ⊢
      omega
    · rcases List.mem_append.1 ho with ho | ho
      · exact hval o ho
      · rw [List.mem_singleton.1 ho]; exact hnew
def oprRow (k v : Int) (lt : Bool) (l n : Int) (q : Nat) : Value := ([.int .i64 k, .int .i64 v, .bool lt, .int .i64 l, .int .i64 n] : List Value).getD q (.int .i64 0)
/-- Behind the question whether a def reuses a use. -/
def MidR (N : Nat) (κ : Nat → Nat) (w : World) (X P : Nat) (s : Ms) (p : Pc) (pop : Int) (κ5 : Nat → Nat) (x : Wk) (vo : Value) (B : Nat) (lt : Bool) (c k reused wish : Int) (cond : Prop) (re wi : Value) (wz : World) : Prop :=
  (cond ∧ re = .int .i64 k ∧ MIn N κ w X P s p pop κ5 wz ⟨x.ops, inc2 x.need c, x.fixed, x.limits / 5⟩ [] vo (.slice none 0 0) ∧ wz.rowIs B 46 5 (oprRow 2 0 true 5 k)) ∨
  (¬ cond ∧ re = .int .i64 reused ∧ wi = .int .i64 wish ∧ MIn N κ w X P s p pop κ5 wz x [] vo (.slice none 0 0) ∧ wz.rowIs B 46 5 (oprRow 2 0 lt 0 0))
/-- Behind its limit. -/
def EndR (N : Nat) (κ : Nat → Nat) (w : World) (X P : Nat) (s : Ms) (vals : List Int) (p : Pc) (pop : Int) (κ5 : Nat → Nat) (x : Wk) (vo : Value) (B : Nat) (c pfl : Int) (U0 : Wk) (j : Nat) (re : Int) (wz : World) : Prop :=
  ∃ (nd3 fx3 : Int × Int) (lt3 : Bool) (l3 n3 : Int), DfS s p pfl U0 (j + 1) (vals ++ [c]) re ⟨x.ops ++ [⟨2, vals.length, lt3, l3, n3⟩], nd3, fx3, x.limits / 5⟩ ∧ MIn N κ w X P { s with f := ⟨vals, s.f.blocks⟩ } p pop κ5 wz ⟨x.ops, nd3, fx3, x.limits / 5⟩ [] vo (.slice none 0 0) ∧ wz.rowIs B 46 5 (oprRow 2 0 lt3 l3 n3)
theorem limit_any (P Nd Fx : Nat) (m0 m1 wish c : Int) (need fixed : Int × Int) (w : World) (hw : 1 ≤ wish ∧ wish ≤ 4) (hc : c = 0 ∨ c = 1) (h0 : m0 ≤ 10) (h1 : m1 ≤ 10) (h : NF w Nd Fx need fixed) (hb : ∀ c : Int, (c = 0 ∨ c = 1) → 0 ≤ get2 need c ∧ get2 need c ≤ 100 ∧ 0 ≤ get2 fixed c ∧ get2 fixed c ≤ 100) (hp0 : w.cell? ⟨P, 0, none⟩ = some (.int .i64 m0)) (hp1 : w.cell? ⟨P, 1, none⟩ = some (.int .i64 m1)) (hPN : P ≠ Nd) (hPF : P ≠ Fx) :
    Calls Try.prog 34 #[.pointer (some ⟨P, 0, none⟩), .int .i64 wish, .int .i64 c, .slice (some ⟨Nd, 0, none⟩) 2 2, .slice (some ⟨Fx, 0, none⟩) 2 2] w fun e w' => e = .returned (.tuple #[.int .i64 (limitM m0 m1 wish c need fixed).1, .int .i64 (limitM m0 m1 wish c need fixed).2.1]) ∧ NF w' Nd Fx (limitM m0 m1 wish c need fixed).2.2.1 (limitM m0 m1 wish c need fixed).2.2.2 ∧ Two Nd Fx w w' := by
  rcases hc with rfl | rfl
  · have := hb 0 (Or.inl rfl)
    exact limit_0 P Nd Fx m0 m1 wish need fixed _ rfl w hw h0 h ⟨this.1, this.2.1⟩ this.2.2 hp0 hPN hPF
  · have := hb 1 (Or.inr rfl)
    exact limit_1 P Nd Fx m0 m1 wish need fixed _ rfl w hw h1 h ⟨this.1, this.2.1⟩ this.2.2 hp1 hPN hPF
theorem own_int {w : World} {base e n : Nat} {v : Value} {l : List Int} (h : w.ownsRow base e 1 v n (l.flatMap cI)) (hn : l.length = n) (i : Nat) (hi : i < l.length) : ∃ g cap, v = .slice (some ⟨g, 0, none⟩) n cap ∧ g < w.heap.size ∧ w.cell? ⟨g, i, none⟩ = some (.int .i64 (l.getD i 0)) := by
  obtain ⟨g, cap, rfl, _, hlt⟩ := h.form (by omega)
  refine ⟨g, cap, rfl, hlt, (own_cell h i _ ?_).1⟩
  have := flat_at cI 1 (fun _ => rfl) l i 0 hi (by omega)
  rw [Nat.mul_one, Nat.add_zero] at this
  rw [this, List.getD_eq_getElem?_getD, List.getElem?_eq_getElem hi]
  rfl

/-- The block of a code that bears a number. -/
def blkC (id : Nat) : Code → Option Code
  | .seq a b => match blkC id a with | some c => some c | none => blkC id b
  | .cond _ a b => match blkC id a with | some c => some c | none => blkC id b
  | .block i b => if i = id then some (.block i b) else blkC id b
  | .loop b => blkC id b
  | .scope b => blkC id b
  | _ => none
end Go.Proofs.Ytglfpnnfcpnmoaa
