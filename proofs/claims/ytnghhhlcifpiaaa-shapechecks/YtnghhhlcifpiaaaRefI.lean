/-
  The contract of the reference's 'makers' (P1.9).
-/
import Derived.Test.YtnghhhlcifpiaaaRefH
import Derived.Test.YtnghhhlcifpiaaaOnce
import Derived.Test.YtnghhhlcifpiaaaOwn
import Derived.Deep.DeepCutAuto
import Derived.Deep.CutBlock
namespace Go.Proofs.Ytnghhhlcifpiaaa
open Go.RowKit
set_option linter.unusedVariables false

theorem newsR {w : World} {ob : Obj} {cs : Array Value} {t : Nat} (h : ob = .cells cs t) : ∀ j u, cs.toList[j]? = some u → (w.alloc ob).cell? ((⟨w.heap.size, 0, none⟩ : Addr).add j) = some u := by
  subst h
  exact World.news_of_block (heap_alloc_new w _)
theorem infoR3 : (Try.prog.info? 3).map (fun i => (i.zero, i.size, i.bytes)) = some (some (.int .i64 0), 1, 8) := by kernel_rfl
def intsV (l : List Int) : List Value := l.map (.int .i64 ·)
/-- A row of numbers of one's own, and a block beside it. -/
def MkSt (W : World) (bB : Nat) (cs : Array Value) (wr : World) (v : Value) (l : List Int) : Prop :=
  wr.ownsRow W.heap.size 3 1 v l.length (intsV l) ∧ v.ownBlock ≠ some bB ∧ wr.heap[bB]? = some (.cells cs 50) ∧ Below W.heap.size W wr
theorem blk_ltR {wr : World} {bB : Nat} {o : Obj} (h : wr.heap[bB]? = some o) : bB < wr.heap.size := by
  rcases Nat.lt_or_ge bB wr.heap.size with h1 | h1
  · exact h1
  · rw [Array.getElem?_eq_none h1] at h; cases h
theorem MkSt.push {W : World} {bB : Nat} {cs : Array Value} {wr : World} {v : Value} {l : List Int} (h : MkSt W bB cs wr v l) (x : Int) {g cap : Nat} {wb : World}
    (hown : wb.ownsRow W.heap.size 3 1 (.slice (some ⟨g, 0, none⟩) (l.length + 1) cap) (l.length + 1) (intsV l ++ [.int .i64 x])) (hgrow : (wr.alloc (.cells #[.int .i64 x] 3)).grownBy wb v.ownBlock) (hat : v.ownBlock = some g ∨ g = wr.heap.size + 1) :
    MkSt W bB cs wb (.slice (some ⟨g, 0, none⟩) (l.length + 1) cap) (l ++ [x]) := by
  obtain ⟨h1, h2, h3, h4⟩ := h
  have hz := h4.size
  have hlt := blk_ltR h3
  refine ⟨?_, ?_, ?_, ?_⟩
  · rw [List.length_append]
    simpa [intsV] using hown
  · simp only [Value.ownBlock]
    intro e
    rcases hat with h | h
    · exact h2 (h.trans e)
    · simp at e; omega
  · rw [hgrow.block bB (by simp; omega) (fun e => h2 e.symm), Below.heap_alloc _ _ _ hlt]
    exact h3
  · refine (h4.alloc hz _).grown hgrow (by simp; omega) fun k hk => ?_
    exact (own_base h1 hk).1
theorem allM_drop (blocks : List Blk) (i : Nat) (h : i < blocks.length) : allM (blocks.drop i) = blocks[i].params ++ (insM blocks[i].instrs ++ allM (blocks.drop (i + 1))) := by
  have e : ∀ b r, allM (b :: r) = makersOf b ++ allM r := fun b r => by simp [allM]
  rw [List.drop_eq_getElem_cons h, e, makersOf, List.append_assoc]
theorem insM_drop (l : List Ins) (q : Nat) (h : q < l.length) : insM (l.drop q) = oprM l[q].operands ++ insM (l.drop (q + 1)) := by
  rw [List.drop_eq_getElem_cons h, insM_cons]
theorem oprM_drop (l : List Opr) (p : Nat) (h : p < l.length) : oprM (l.drop p) = (if l[p].kind = 2 then [l[p].value] else []) ++ oprM (l.drop (p + 1)) := by
  rw [List.drop_eq_getElem_cons h]
  by_cases hk : l[p].kind = 2
  · rw [if_pos hk, oprM_def _ _ hk]; rfl
  · rw [if_neg hk, oprM_use _ _ hk]; rfl

set_option maxRecDepth 8000 in
set_option maxHeartbeats 16000000 in
theorem makers_any (values : List Int) (av : Option Addr) (cv : Nat) (blocks : List Blk) (ab : Option Addr) (cb : Nat) (w : World) (hbl : SlOf w 3 (RBlk w) (.slice ab blocks.length cb) blocks) (hfar : (allM blocks).length ≤ 9000) :
    Calls Try.prog 25 #[.agg #[.slice av values.length cv, .slice ab blocks.length cb]] w fun e w' => ∃ v, e = .returned v ∧ w'.ownsRow (w.heap.size + 1) 3 1 v (allM blocks).length (intsV (allM blocks)) ∧ Below w.heap.size w w' := by
  obtain ⟨_, _, _, lb⟩ := hbl.out
  unfold longest at lb
  obtain ⟨W, hW⟩ : ∃ W, W = w.alloc (.cells #[.slice av values.length cv, .slice ab blocks.length cb] 31) := ⟨_, rfl⟩
  have hbw : Below w.heap.size w W := by rw [hW]; exact (Below.refl _ _).alloc (Nat.le_refl _) _
  have zW : w.heap.size < W.heap.size := by rw [hW]; simp
  have t0 := top_at w #[.slice av values.length cv, .slice ab blocks.length cb] 31
  have f0_0 : W.cell? ⟨w.heap.size, 0, none⟩ = some (.slice av values.length cv) := by rw [hW]; exact t0 0
  have f0_1 : W.cell? ⟨w.heap.size, 1, none⟩ = some (.slice ab blocks.length cb) := by rw [hW]; exact t0 1
  have HS : Hid (∀ w', Below W.heap.size W w' → (fun w' => w'.cell? ⟨w.heap.size, 0, none⟩ = some (.slice av values.length cv) ∧ w'.cell? ⟨w.heap.size, 1, none⟩ = some (.slice ab blocks.length cb) ∧ Below W.heap.size W w') w') := fun w' hh => ⟨(hh.cell (by simp; omega)).trans f0_0, (hh.cell (by simp; omega)).trans f0_1, hh⟩
  have HW : Hid (W = w.alloc (.cells #[.slice av values.length cv, .slice ab blocks.length cb] 31)) := hW
  clear hW t0
  have HZ : Hid (W.heap.size = w.heap.size + 1) := by show _ = _; rw [HW.out]; simp
  obtain ⟨i3, hi3, hz3, hz31, hz32⟩ := info_parts infoR3
  go_enter Try.func25, Try.ntmps25
  go_upto_region 1 with fail
  rw [← HW.out]
  go_wp2
  go_loopw [3, 4] (fun sv t wr => ∃ (i : Nat) (l : List Int) (v : Value), i ≤ blocks.length ∧ v = sv ∧ t = .int .i64 i ∧ wr.ownsRow W.heap.size 3 1 v l.length (intsV l) ∧ Below W.heap.size W wr ∧ Hid (allM blocks = l ++ allM (blocks.drop i))) (fun _ t _ => blocks.length - (intOf t).toNat)
  case atStart => exact ⟨0, [], _, Nat.zero_le _, rfl, rfl, World.ownsRow_nil _ _ _ _, Below.refl _ _, rfl⟩
  case round =>
    obtain ⟨i, l, v, hi, rfl, rfl, ho, hbr, HL⟩ := hrel
    obtain ⟨f0, f1, _⟩ := HS.out _ hbr
    clear f0_0 f0_1
    have hbwr : Below w.heap.size w wr := hbw.trans (hbr.mono hbw.size)
    by_cases hlt : i < blocks.length
    · obtain ⟨b3, off3, cs, rfl, hcl, ⟨vp, vi, ve, rfl, hpW, hiW, hee⟩, hcW⟩ := (hbl.below hbw (RBlk.below hbw)).at i hlt
      obtain ⟨ap, cp, rfl, lp⟩ := hpW.out
      obtain ⟨ai, ci, rfl, li⟩ := hiW.out
      obtain ⟨ae, ce, rfl, le⟩ := hee.out
      have hc : ∀ j (hj : j < [Value.slice ap blocks[i].params.length cp, .slice ai blocks[i].instrs.length ci, .slice ae blocks[i].edges.length ce].length), wr.cell? ⟨b3, off3 + i * 3 + j, none⟩ = some [Value.slice ap blocks[i].params.length cp, .slice ai blocks[i].instrs.length ci, .slice ae blocks[i].edges.length ce][j] := fun j hj => by
        have := hcW j hj
        rw [hbr.cell (p := ⟨b3, off3 + i * 3 + j, none⟩) (block_lt this)]
        exact this
      unfold longest at lp li le
      have c0 := hc 0 (by simp)
      have c1 := hc 1 (by simp)
      have c2 := hc 2 (by simp)
      simp at c0 c1 c2
      clear hc hcl hcW
      have HL2 : Hid (allM blocks = l ++ (blocks[i].params ++ (insM blocks[i].instrs ++ allM (blocks.drop (i + 1))))) := by show _ = _; rw [← allM_drop blocks i hlt]; exact HL.out
      clear HL
      generalize blocks[i] = bk at *
      have HP : Hid (∀ w', Below W.heap.size W w' → SlOf w' 1 RInt (.slice ap bk.params.length cp) bk.params) := fun w' hh => hpW.below hh fun _ _ h => h
      have HI : Hid (∀ w', Below W.heap.size W w' → SlOf w' 3 (RIns w') (.slice ai bk.instrs.length ci) bk.instrs) := fun w' hh => hiW.below hh (RIns.below hh)
      clear hee hpW hiW
      obtain ⟨bB, hbB⟩ : ∃ bB, bB = wr.heap.size := ⟨_, rfl⟩
      have hS0 : MkSt W bB (#[.slice ap bk.params.length cp, .slice ai bk.instrs.length ci, .slice ae bk.edges.length ce]) (wr.alloc (.cells #[.slice ap bk.params.length cp, .slice ai bk.instrs.length ci, .slice ae bk.edges.length ce] 50)) v l := ⟨ho.alloc _, fun e => by have := (own_base ho e).2; omega, by rw [hbB]; exact heap_alloc_new wr _, hbr.alloc hbr.size _⟩
      have HBB : Hid (bB = wr.heap.size) := hbB
      clear hbB
      go_wp2
      rw [← HBB.out]
      go_loopw [3, 6] (fun sv t wr => ∃ (k : Nat) (l : List Int) (v : Value), k ≤ bk.params.length ∧ v = sv ∧ t = .int .i64 k ∧ MkSt W bB (#[.slice ap bk.params.length cp, .slice ai bk.instrs.length ci, .slice ae bk.edges.length ce]) wr v l ∧ Hid (allM blocks = l ++ (bk.params.drop k ++ (insM bk.instrs ++ allM (blocks.drop (i + 1)))))) (fun _ t _ => bk.params.length - (intOf t).toNat)
      case atStart => exact ⟨0, l, v, Nat.zero_le _, rfl, rfl, hS0, HL2.out⟩
      case round =>
        clear ho hbr hS0 f0 f1 c0 c1 c2 HL2 hbwr
        obtain ⟨k, l, v, hk, rfl, rfl, hS, HL⟩ := hrel
        have k0 : wr.cell? ⟨bB, 0, none⟩ = some (.slice ap bk.params.length cp) := by simp [World.cell?, hS.2.2.1]
        have k1 : wr.cell? ⟨bB, 1, none⟩ = some (.slice ai bk.instrs.length ci) := by simp [World.cell?, hS.2.2.1]
        have hbwr : Below w.heap.size w wr := hbw.trans (hS.2.2.2.mono hbw.size)
        by_cases hltk : k < bk.params.length
        · obtain ⟨bp, offp, rfl, hbp, p0⟩ := int_cell (HP.out _ hS.2.2.2) k hltk
          have HL2 : Hid (allM blocks = (l ++ [bk.params[k]]) ++ (bk.params.drop (k + 1) ++ (insM bk.instrs ++ allM (blocks.drop (i + 1))))) := by
            show _ = _
            rw [HL.out, List.drop_eq_getElem_cons hltk]
            simp only [List.append_assoc, List.cons_append, List.nil_append]
          generalize bk.params[k] = pk at *
          have oA := hS.1.alloc (.cells #[.int .i64 pk] 3)
          have hzb0 := hS.2.2.2.size
          have hLL : l.length < 10000 := by have := congrArg List.length HL.out; simp at this; omega
          go_wp2_with (at_builtin; go_must (refine wpList_append_lies _ rfl _ _ 28 rfl W.heap.size 3 i3 (.int .i64 0) 1 8 Try.underlying28 hi3 hz3 hz31 hz32 rfl (by omega) v l.length _ (by rfl) oA ⟨wr.heap.size, 0, none⟩ 1 1 [.int .i64 pk] (by rfl) (by rfl) ?c1 ?c2 (by omega) ?c3 ?c4 ?c5 (wr.heap.size + 1) ?c6 ?_))
          case c1 => exact newsR rfl
          case c2 => intro u hu; simp at hu; subst hu; rfl
          case c3 => unfold maxLen; omega
          case c4 => omega
          case c5 => simp; omega
          case c6 => simp
          intro g cap wb hown hgrow hat hgl
          have hS2 := hS.push pk hown hgrow hat
          clear oA hown hgrow hat
          go_wp2
          go_roundw
          case rel => exact ⟨k + 1, l ++ [pk], _, by omega, rfl, by go_num, hS2, HL2.out⟩
          case measure => simp [intOf]; omega
        · have HL3 : Hid (allM blocks = l ++ (insM (bk.instrs.drop 0) ++ allM (blocks.drop (i + 1)))) := by
            show _ = _
            rw [HL.out, List.drop_of_length_le (by omega)]
            rfl
          clear HL
          go_wp2
          clear k0 k1
          go_loopw [3, 7] (fun sv t wr => ∃ (q : Nat) (l : List Int) (v : Value), q ≤ bk.instrs.length ∧ v = sv ∧ t = .int .i64 q ∧ MkSt W bB (#[.slice ap bk.params.length cp, .slice ai bk.instrs.length ci, .slice ae bk.edges.length ce]) wr v l ∧ Hid (allM blocks = l ++ (insM (bk.instrs.drop q) ++ allM (blocks.drop (i + 1))))) (fun _ t _ => bk.instrs.length - (intOf t).toNat)
          case atStart => exact ⟨0, l, v, Nat.zero_le _, rfl, rfl, hS, HL3.out⟩
          case round =>
            clear hS HL3 hbwr
            obtain ⟨q, l, v, hq, rfl, rfl, hS, HL⟩ := hrel
            have k0 : wr.cell? ⟨bB, 0, none⟩ = some (.slice ap bk.params.length cp) := by simp [World.cell?, hS.2.2.1]
            have k1 : wr.cell? ⟨bB, 1, none⟩ = some (.slice ai bk.instrs.length ci) := by simp [World.cell?, hS.2.2.1]
            have hbwr : Below w.heap.size w wr := hbw.trans (hS.2.2.2.mono hbw.size)
            by_cases hltq : q < bk.instrs.length
            · have HL2 : Hid (allM blocks = l ++ (oprM (bk.instrs[q].operands.drop 0) ++ (insM (bk.instrs.drop (q + 1)) ++ allM (blocks.drop (i + 1))))) := by
                show _ = _
                rw [HL.out, insM_drop _ _ hltq, List.append_assoc]
                rfl
              clear HL
              obtain ⟨vo, hvo⟩ : ∃ vo, ∃ b7 off7, ai = some ⟨b7, off7, none⟩ ∧ b7 < W.heap.size ∧ SlOf W 5 ROpr vo bk.instrs[q].operands ∧ W.cell? ⟨b7, off7 + q * 3 + 1, none⟩ = some vo := by
                obtain ⟨b7, off7, cs, h7, hcl7, ⟨vo, vs, rfl, ho7, hs7⟩, hc7⟩ := (HI.out _ (Below.refl _ _)).at q hltq
                have c1 := hc7 1 (by simp)
                simp at c1
                exact ⟨vo, b7, off7, h7, block_lt c1, ho7, c1⟩
              obtain ⟨b7, off7, rfl, hb7, ho7, cW⟩ := hvo
              obtain ⟨ao, co, rfl, lo⟩ := ho7.out
              unfold longest at lo
              have i7 := (hS.2.2.2.cell (p := ⟨b7, off7 + q * 3 + 1, none⟩) hb7).trans cW
              generalize bk.instrs[q].operands = ops at *
              go_wp2
              clear k0 k1 i7
              go_loopw [3, 8] (fun sv t wr => ∃ (p : Nat) (l : List Int) (v : Value), p ≤ ops.length ∧ v = sv ∧ t = .int .i64 p ∧ MkSt W bB (#[.slice ap bk.params.length cp, .slice (some ⟨b7, off7, none⟩) bk.instrs.length ci, .slice ae bk.edges.length ce]) wr v l ∧ Hid (allM blocks = l ++ (oprM (ops.drop p) ++ (insM (bk.instrs.drop (q + 1)) ++ allM (blocks.drop (i + 1)))))) (fun _ t _ => ops.length - (intOf t).toNat)
              case atStart => exact ⟨0, l, v, Nat.zero_le _, rfl, rfl, hS, HL2.out⟩
              case round =>
                clear hS HL2 hbwr
                obtain ⟨p, l, v, hpp, rfl, rfl, hS, HL⟩ := hrel
                have k0 : wr.cell? ⟨bB, 0, none⟩ = some (.slice ap bk.params.length cp) := by simp [World.cell?, hS.2.2.1]
                have k1 : wr.cell? ⟨bB, 1, none⟩ = some (.slice (some ⟨b7, off7, none⟩) bk.instrs.length ci) := by simp [World.cell?, hS.2.2.1]
                have hbwr : Below w.heap.size w wr := hbw.trans (hS.2.2.2.mono hbw.size)
                have i7 := (hS.2.2.2.cell (p := ⟨b7, off7 + q * 3 + 1, none⟩) hb7).trans cW
                by_cases hltp : p < ops.length
                · obtain ⟨b5, off5, rfl, hb5, c0, c1, c2, c3, c4⟩ := opr_cells (ho7.below hS.2.2.2 fun _ _ h => h) p hltp
                  have hd := oprM_drop ops p hltp
                  generalize ops[p] = o at *
                  by_cases hk2 : o.kind = 2
                  · have q2 : (o.kind == 2) = true := by simp [hk2]
                    have HL2 : Hid (allM blocks = (l ++ [o.value]) ++ (oprM (ops.drop (p + 1)) ++ (insM (bk.instrs.drop (q + 1)) ++ allM (blocks.drop (i + 1))))) := by
                      show _ = _
                      rw [HL.out, hd, if_pos hk2]
                      simp only [List.append_assoc]
                    clear hd hk2
                    have oA := hS.1.alloc (.cells #[.int .i64 o.value] 3)
                    have hzb0 := hS.2.2.2.size
                    have hLL : l.length < 10000 := by have := congrArg List.length HL.out; simp at this; omega
                    go_wp2_with (at_builtin; go_must (refine wpList_append_lies _ rfl _ _ 28 rfl W.heap.size 3 i3 (.int .i64 0) 1 8 Try.underlying28 hi3 hz3 hz31 hz32 rfl (by omega) v l.length _ (by rfl) oA ⟨wr.heap.size, 0, none⟩ 1 1 [.int .i64 o.value] (by rfl) (by rfl) ?c1 ?c2 (by omega) ?c3 ?c4 ?c5 (wr.heap.size + 1) ?c6 ?_))
                    case c1 => exact newsR rfl
                    case c2 => intro u hu; simp at hu; subst hu; rfl
                    case c3 => unfold maxLen; omega
                    case c4 => omega
                    case c5 => simp; omega
                    case c6 => simp
                    intro g cap wb hown hgrow hat hgl
                    have hS2 := hS.push o.value hown hgrow hat
                    clear oA hown hgrow hat
                    go_wp2
                    go_roundw
                    case rel => exact ⟨p + 1, l ++ [o.value], _, by omega, rfl, by go_num, hS2, HL2.out⟩
                    case measure => simp [intOf]; omega
                  · have q2 : (o.kind == 2) = false := by simpa using hk2
                    have HL2 : Hid (allM blocks = l ++ (oprM (ops.drop (p + 1)) ++ (insM (bk.instrs.drop (q + 1)) ++ allM (blocks.drop (i + 1))))) := by
                      show _ = _
                      rw [HL.out, hd, if_neg hk2]
                      rfl
                    clear hd hk2
                    go_wp2
                    go_roundw
                    case rel => exact ⟨p + 1, l, v, by omega, rfl, by go_num, hS, HL2.out⟩
                    case measure => simp [intOf]; omega
                · have HL2 : Hid (allM blocks = l ++ (insM (bk.instrs.drop (q + 1)) ++ allM (blocks.drop (i + 1)))) := by
                    show _ = _
                    rw [HL.out, List.drop_of_length_le (l := ops) (by omega)]
                    rfl
                  go_wp2
                  go_roundw
                  case rel => exact ⟨q + 1, l, v, by omega, rfl, by go_num, hS, HL2.out⟩
                  case measure => simp [intOf]; omega
            · have HL2 : Hid (allM blocks = l ++ allM (blocks.drop (i + 1))) := by
                show _ = _
                rw [HL.out, List.drop_of_length_le (l := bk.instrs) (by omega)]
                rfl
              go_wp2
              go_roundw
              case rel => exact ⟨i + 1, l, v, by omega, rfl, by go_num, hS.1, hS.2.2.2, HL2.out⟩
              case measure => simp [intOf]; omega
    · have e : l = allM blocks := by
        have := HL.out
        rw [List.drop_of_length_le (by omega)] at this
        simpa [allM] using this.symm
      subst e
      have HZ' := HZ.out
      rw [HZ'] at ho
      go_wp2
      go_ret
      exact ⟨_, rfl, ho, hbwr⟩
end Go.Proofs.Ytnghhhlcifpiaaa
