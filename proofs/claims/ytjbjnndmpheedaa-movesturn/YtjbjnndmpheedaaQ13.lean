/-
  What holds of a function and of an output that may be; from block to block; where events lie.
-/
import Derived.Test.YtjbjnndmpheedaaQ11
import Derived.Test.YtjbjnndmpheedaaQ12
import Derived.Test.YtjbjnndmpheedaaM3
namespace Go.Proofs.Ytjbjnndmpheedaa
open Go.RowKit
set_option linter.unusedVariables false

theorem spErr_giv {m0 m1 : Int} : ∀ (l : List Rg) (p : Option Rg), spErr m0 m1 p l = 0 → ∀ r ∈ l, givB m0 m1 r.cls r.n = true
  | [], _, _, r, hr => by cases hr
  | a :: l, p, h, r, hr => by
    unfold spErr at h
    split at h
    · cases h
    · rename_i h1
      have h2 : givB m0 m1 a.cls a.n = true := by simpa using h1
      have h3 : spErr m0 m1 (some a) l = 0 := by
        split at h
        · split at h
          · cases h
          · exact h
        · exact h
      rcases List.mem_cons.1 hr with e | e
      · rw [e]; exact h2
      · exact spErr_giv l _ h3 r e
theorem instrErr_sp {values : List Int} {m0 m1 : Int} {x : Ins} (h : instrErr values m0 m1 x = 0) : spErr m0 m1 none x.spoils = 0 := by
  unfold instrErr at h
  split at h
  · cases h
  · split at h
    · contradiction
    · split at h
      · contradiction
      · split at h
        · contradiction
        · rename_i h1
          simpa using h1
theorem cls_two {c : Int} (h : isClassB c = true) : c = 0 ∨ c = 1 := by
  unfold isClassB at h
  simp at h
  omega
theorem giv_reg {m0 m1 : Int} (h0 : m0 ≤ 10) (h1 : m1 ≤ 10) {c n : Int} (h : givB m0 m1 c n = true) : (c = 0 ∨ c = 1) ∧ 0 ≤ n ∧ n < 11 := by
  unfold givB regsOf at h
  simp only [Bool.and_eq_true, decide_eq_true_eq] at h
  have hc := cls_two h.1
  refine ⟨hc, h.2.1, ?_⟩
  have := h.2.2
  split at this <;> omega
theorem hold_ok {m0 m1 : Int} {fr : Nat} (h0 : m0 ≤ 10) (h1 : m1 ≤ 10) {p : Pl} (h : holdB m0 m1 (fr : Int) p = true) : PlOk fr p := by
  unfold holdB isRegB isSlotB at h
  simp only [Bool.or_eq_true, Bool.and_eq_true, decide_eq_true_eq] at h
  rcases h with ⟨⟨⟨h2, h3⟩, h4⟩, h5⟩ | ⟨⟨⟨h2, h3⟩, h4⟩, h5⟩
  · refine Or.inl ⟨h2, cls_two h3, h4, ?_⟩
    unfold regsOf at h5
    split at h5 <;> omega
  · exact Or.inr ⟨h2, h4, h5⟩
theorem move_ok {m0 m1 : Int} {fr : Nat} (h0 : m0 ≤ 10) (h1 : m1 ≤ 10) {p : Pl} (h : moveB m0 m1 (fr : Int) p = true) : PlOk fr p := by
  unfold moveB isRegB isSlotB at h
  simp only [Bool.or_eq_true, Bool.and_eq_true, decide_eq_true_eq] at h
  rcases h with ⟨⟨⟨h2, h3⟩, h4⟩, h5⟩ | ⟨⟨⟨h2, h3⟩, h4⟩, h5⟩
  · refine Or.inl ⟨h2, cls_two h3, h4, ?_⟩
    unfold regsOf at h5
    split at h5 <;> omega
  · exact Or.inr ⟨h2, h4, h5⟩
theorem editsGo_zero {m0 m1 fr : Int} {bs : List Blk} : ∀ (l : List Ed) (p : Option Ed) (t : Int), editsGo m0 m1 fr bs p t l = 0 → ∀ e ∈ l, isSpotB bs e = true ∧ ∀ m ∈ e.moves, moveB m0 m1 fr m.src = true ∧ moveB m0 m1 fr m.dst = true
  | [], _, _, _, e, he => by cases he
  | a :: l, p, t, h, e, he => by
    unfold editsGo at h
    split at h
    · rename_i h1
      rcases List.mem_cons.1 he with e1 | e1
      · rw [e1]
        unfold edErr at h1
        split at h1
        · cases h1
        · rename_i h2
          split at h1
          · cases h1
          · split at h1
            · cases h1
            · refine ⟨by simpa using h2, fun m hm => ?_⟩
              have h3 := firstE_zero _ _ h1 m hm
              unfold mvErr at h3
              split at h3
              · rename_i h4
                simpa using h4
              · cases h3
      · exact editsGo_zero l _ _ h e e1
    · rename_i h1
      exact absurd h h1
/-- What an output that may be says. -/
structure MachIn (f : Fn) (m0 m1 : Int) (pl : List (List (List Pl))) (eds : List Ed) (fr : Nat) (K : Nat) : Prop where
  flow : flowE f m0 m1 K = 0
  shape : shapeErr f m0 m1 = 0
  frame : fr ≤ 1000
  fits : FitsM fr f.blocks pl eds
  spots : ∀ e ∈ eds, isSpotB f.blocks e = true
  b0 : 2 ≤ m0 ∧ m0 ≤ 10
  b1 : 2 ≤ m1 ∧ m1 ≤ 10
theorem mach_in {f : Fn} {m0 m1 : Int} {pl : List (List (List Pl))} {eds : List Ed} {fr K : Nat} (h : machE f m0 m1 pl eds (fr : Int) K = 0) : MachIn f m0 m1 pl eds fr K := by
  unfold machE at h
  split at h
  · contradiction
  · rename_i h1
    have h1 : flowE f m0 m1 K = 0 := by simpa using h1
    split at h
    · cases h
    · rename_i h2
      split at h
      · contradiction
      · rename_i h3
        have h3 : placesErr m0 m1 fr f.blocks pl = 0 := by simpa using h3
        have hsh : shapeErr f m0 m1 = 0 := by
          unfold flowE at h1
          by_cases hc : shapeErr f m0 m1 ≠ 0
          · rw [if_pos hc] at h1
            exact h1
          · simpa using hc
        have S := shape_in hsh
        have hm := S.mach
        have hb : (2 ≤ m0 ∧ m0 ≤ 10) ∧ (2 ≤ m1 ∧ m1 ≤ 10) := by
          unfold machErr at hm
          split at hm
          · omega
          · cases hm
        have F : ∀ b ∈ f.blocks, (b.params.length ≤ 5 ∧ b.instrs.length ≤ 40 ∧ b.edges.length ≤ 3) ∧ ∀ x ∈ b.instrs, x.operands.length ≤ 6 ∧ x.spoils.length ≤ 20 := fun b hb => by
          have := S.fits b hb
          simp only [blkFits, Bool.and_eq_true, decide_eq_true_eq, List.all_eq_true, insFits] at this
          exact this
        unfold placesErr at h3
        split at h3
        · cases h3
        · rename_i hl
          have hl : pl.length = f.blocks.length := by simpa using hl
          have hz := editsGo_zero _ _ _ h
          refine ⟨h1, hsh, by omega, ⟨fun b hbm => ⟨by have := (F b hbm).1; omega, fun x hx => ⟨((F b hbm).2 x hx).1, fun r hr => giv_reg hb.1.2 hb.2.2 (spErr_giv _ _ (instrErr_sp (S.ins b hbm x hx)) r hr)⟩⟩, fun b hbm => ⟨by have := (F b hbm).1; omega, fun e he => by have := edgeErr_val (S.edg b hbm e he); omega⟩, hl, fun b blk rows hbg hpg => ?_, fun e he m hm => ⟨move_ok hb.1.2 hb.2.2 ((hz e he).2 m hm).1, move_ok hb.1.2 hb.2.2 ((hz e he).2 m hm).2⟩⟩, fun e he => (hz e he).1, hb.1, hb.2⟩
          have hmem : (blk, rows) ∈ f.blocks.zip pl := by
            rw [List.mem_iff_getElem?]
            exact ⟨b, by rw [List.getElem?_zip_eq_some]; exact ⟨hbg, hpg⟩⟩
          have h4 := firstE_zero _ _ h3 _ hmem
          unfold blkPlErr at h4
          split at h4
          · cases h4
          · rename_i hr
            simp only at hr h4
            refine ⟨by simpa using hr, fun k x l hxg hlg => ?_⟩
            have hmem2 : (x, l) ∈ blk.instrs.zip rows := by
              rw [List.mem_iff_getElem?]
              exact ⟨k, by rw [List.getElem?_zip_eq_some]; exact ⟨hxg, hlg⟩⟩
            have h5 := firstE_zero _ _ h4 _ hmem2
            unfold insPlErr at h5
            split at h5
            · cases h5
            · rename_i hr2
              split at h5
              · rename_i hall
                exact ⟨by simpa using hr2, fun p hp => hold_ok hb.1.2 hb.2.2 (List.all_eq_true.1 hall p hp)⟩
              · cases h5
def REvM (w : World) (cs : List Value) (e : MEvt) : Prop := ∃ vr, cs = [.int .i64 e.block, .int .i64 e.place, vr, .int .i64 e.edge] ∧ SlOf w 1 RInt vr e.read
theorem sl_mapM {α β : Type} {w : World} {k : Nat} {R : List Value → α → Prop} {R' : List Value → β → Prop} {v : Value} {l : List α} (f : α → β) (h : SlOf w k R v l) (hR : ∀ p ∈ l, ∀ cs, R cs p → R' cs (f p)) : SlOf w k R' v (l.map f) := by
  obtain ⟨a, c, hv, hl, h1⟩ := h
  refine ⟨a, c, by rw [List.length_map]; exact hv, by rw [List.length_map]; exact hl, ?_⟩
  rcases h1 with e | ⟨b, off, ha, h2⟩
  · left; rw [e]; rfl
  · refine Or.inr ⟨b, off, ha, fun i hi => ?_⟩
    rw [List.length_map] at hi
    obtain ⟨cs, h3, h4, h5⟩ := h2 i hi
    exact ⟨cs, h3, by rw [List.getElem_map]; exact hR _ (List.getElem_mem hi) cs h4, h5⟩
theorem mrun_le {bs : List Blk} {pl : List (List (List Pl))} {eds : List Ed} {seed : Int} {jl : List Int} {s0 : Pm} : ∀ n, (mrunM bs pl eds seed jl s0 n).evs.length ≤ n
  | 0 => by simp [mrunM]
  | n + 1 => Nat.le_trans (mrun_few n) (by omega)
/-- How many steps are left, as the box says it. -/
def leftM (w : World) (X : Nat) : Nat := match w.cell? ⟨X, 5, none⟩ with | some (.int _ v) => v.toNat | _ => 0
def mrMs (X : Nat) (v : Value) (w : World) : Nat := if intOf v = -1 then 0 else 1 + leftM w X
/-- From block to block. -/
def MrI' (wb : World) (B X G fr : Nat) (h : Nat → Value) (N n : Nat) (ln : Nat → Nat) (v : Nat → Nat → Value) (bs : List Blk) (pl : List (List (List Pl))) (eds : List Ed) (seed : Int) (jl : List Int) (s0 : Pm) (steps : Nat) (r : Int) (w' : World) : Prop :=
  ∃ left s ve es, WkM wb B X G fr h N n ln v (mvAt eds) s left ve es w' ∧ NxOk jl s ∧
    ((r = -1 ∧ es.map (·.1) = (mrunM bs pl eds seed jl s0 steps).evs) ∨ ∃ b t : Nat, r = (b : Int) ∧ b < bs.length ∧ t ≤ steps ∧ left = ((steps - t : Nat) : Int) ∧ es.length ≤ t ∧ mrunM bs pl eds seed jl s0 t = ⟨.come b, s, es.map (·.1)⟩)
theorem MrI'.of_end {wb : World} {B X G fr : Nat} {h : Nat → Value} {N n : Nat} {ln : Nat → Nat} {v : Nat → Nat → Value} {bs : List Blk} {pl : List (List (List Pl))} {eds : List Ed} {seed : Int} {jl : List Int} {s0 : Pm} {steps t : Nat} {r : Int} {w w' : World} {b : Nat} (hh : ThM wb B X G fr h N n ln v bs pl eds seed jl s0 steps t r w') (hw : w.cell? ⟨X, 5, none⟩ = some (.int .i64 ((steps - t : Nat) : Int))) : MrI' wb B X G fr h N n ln v bs pl eds seed jl s0 steps r w' ∧ mrMs X (.int .i64 r) w' < mrMs X (.int .i64 (b : Int)) w := by
  obtain ⟨left, s, ve, es, hk, hx, h1⟩ := hh
  have e0 : mrMs X (.int .i64 (b : Int)) w = 1 + (steps - t) := by
    unfold mrMs leftM
    rw [hw]
    simp [intOf] <;> omega
  rw [e0]
  have hc : w'.cell? ⟨X, 5, none⟩ = some (.int .i64 left) := hk.mw.bx.cell (i := 5) (by omega)
  rcases h1 with ⟨h2, h3⟩ | ⟨b', t', h2, h3, h4, h5, h6, h7⟩
  · refine ⟨⟨left, s, ve, es, hk, hx, Or.inl ⟨h2, h3⟩⟩, ?_⟩
    unfold mrMs
    rw [h2]
    simp [intOf] <;> omega
  · refine ⟨⟨left, s, ve, es, hk, hx, Or.inr ⟨b', t', h2, h3, h5, h6, ?_, h7⟩⟩, ?_⟩
    · have := mrun_le (bs := bs) (pl := pl) (eds := eds) (seed := seed) (jl := jl) (s0 := s0) t'
      rw [h7] at this
      simpa using this
    · unfold mrMs leftM
      rw [hc, h2, h6]
      simp [intOf] <;> omega
end Go.Proofs.Ytjbjnndmpheedaa
