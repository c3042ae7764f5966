/-
  For every function live.Starts answers what the document's answer to P3.2 is: the first point of each block, and one behind all. Conditions: none but the statement's own (no argument is longer than memory has room for).
-/
import Derived.Test.YtjpmkamacbenhaaRows
import Derived.WalkKit
import Derived.ProofKit
import Derived.OpenShut
import Derived.Below
import Derived.SizedLaws
import Derived.WalkSpells
import Derived.WalkLawsBesides
import Derived.Test.YtjpmkamacbenhaaLLiveStarts
import Derived.Test.YtjpmkamacbenhaaLOpen
namespace Go.Proofs.Ytjpmkamacbenhaa.liveStarts
open Go.ChangeShapes Go.WideShapes Go.ChangeAt Go.RowKit
set_option linter.unusedVariables false

theorem own : ownKnob Try.prog.godebug = none := by kernel_rfl
theorem laidOut : laidOutB Try.prog = true := by kernel_rfl
theorem cellsF : Try.prog.cellsOf 25 = 2 := by kernel_rfl
theorem bytesB : Try.prog.bytesOf 44 = 72 := by kernel_rfl

theorem arr2 {α : Type} {cs : Array α} (h : cs.size = 2) : ∃ c0 c1, cs = #[c0, c1] := by
  obtain ⟨l⟩ := cs
  match l, h with
  | [c0, c1], _ => exact ⟨c0, c1, rfl⟩
/-- A slice that is read is no longer than memory has room for. -/
theorem slice_few {H : Type} {enc : TypeId × Value → H} {w : World} {base : Nat} {sp : Nat → Bool} {held : Bool} {t e : TypeId} (ht : Try.prog.underlying t = some (.slice e)) {fuel : Nat} {cs : List Value} {x : DataW H × List MemPlace} (h : DataW.trod enc Try.prog w base sp held fuel t cs = some x) (hw : ∀ n ∈ x.1.weights Try.prog t, n ≤ reachBytes) : ∃ a len cap, cs = [.slice a len cap] ∧ len * Try.prog.bytesOf e ≤ reachBytes := by
  rcases DataW.trod_slice ht h with ⟨rfl, rfl⟩ | ⟨a, len, cap, elems, rest, n, _, rfl, rfl, hb, hl, hm, hlen, hel, hsp, hns⟩
  · exact ⟨none, 0, 0, rfl, by simp⟩
  · have hw0 : (elems.length + rest.length) * Try.prog.bytesOf e ≤ reachBytes := hw _ (by simp [DataW.weights, ht])
    exact ⟨some a, len, cap, rfl, Nat.le_trans (Nat.mul_le_mul_right _ (by omega)) hw0⟩

set_option maxRecDepth 100000 in
theorem reads_fnB {H : Type} {enc : TypeId × Value → H} {w : World} {base : Nat} {sp : Nat → Bool} {held : Bool} (fuel : Nat) (cs : List Value) (x : DataW H × List MemPlace) (h : DataW.trod enc Try.prog w base sp held fuel 25 cs = some x) (hw : ∀ n ∈ x.1.weights Try.prog 25, n ≤ reachBytes) :
    ∃ (f : Fn) (vv vb : Value), cs = [vv, vb] ∧ SlOf w 1 RInt vv f.values ∧ SlOf w 3 (RBlk w) vb f.blocks ∧ f.blocks.length * 72 ≤ 140737488355328 := by
  have u := Try.underlying25
  obtain ⟨xs, n, _, rfl, hl, hxs, hf⟩ := DataW.trod_struct u h
  have hc : Try.prog.cellsOf 25 = 2 := by kernel_rfl
  rw [hc] at hl
  have k659 : Try.prog.cellsOf 23 = 1 := by kernel_rfl
  have k550 : Try.prog.cellsOf 22 = 1 := by kernel_rfl
  match cs, hl with
  | [c0, c1], _ =>
  match xs, hxs with
  | [y0, y1], _ =>
    have h0' : DataW.trod enc Try.prog w base sp held n 22 (([c0, c1].drop 0).take (Try.prog.cellsOf 22)) = some y0 := hf 0 _ rfl
    rw [k550] at h0'
    have h0 : DataW.trod enc Try.prog w base sp held n 22 [c0] = some y0 := h0'
    have h1' : DataW.trod enc Try.prog w base sp held n 23 (([c0, c1].drop 1).take (Try.prog.cellsOf 23)) = some y1 := hf 1 _ rfl
    rw [k659] at h1'
    have h1 : DataW.trod enc Try.prog w base sp held n 23 [c1] = some y1 := h1'
    obtain ⟨l0, v0, e0, s0⟩ := reads_ints _ _ _ h0 fun m hm => hw m (by simp only [DataW.weights, u]; exact DataW.weights_mem_each (j := 0) rfl rfl m hm)
    obtain rfl := List.cons.inj e0 |>.1
    obtain ⟨l1, v1, e1, s1⟩ := reads_blks _ _ _ h1 fun m hm => hw m (by simp only [DataW.weights, u]; exact DataW.weights_mem_each (j := 1) rfl rfl m hm)
    obtain rfl := List.cons.inj e1 |>.1
    obtain ⟨a', len, cap, e2, hfew⟩ := slice_few Try.underlying23 h1 fun m hm => hw m (by simp only [DataW.weights, u]; exact DataW.weights_mem_each (j := 1) rfl rfl m hm)
    refine ⟨⟨l0, l1⟩, _, _, rfl, s0, s1, ?_⟩
    obtain ⟨a2, c2, e3, _⟩ := s1.out
    have e4 := (List.cons.inj e2).1
    rw [e3] at e4
    simp only [Value.slice.injEq] at e4
    rw [bytesB, ← e4.2.1] at hfew
    have := reachBytes_lt
    simp only
    omega


set_option maxRecDepth 100000 in
theorem open_func {H : Type} {enc : TypeId × Value → H} {w : World} {r : Reach} {b0 base : Nat} {spare : Nat → Bool} {held : Bool} {v : Value} {d : DataW H} {p : List MemPlace}
    (hv : Value.okWide Try.prog w r b0 25 v) (h : DataW.Trod enc Try.prog w base spare held 25 v d p) (hw : ∀ n ∈ d.weights Try.prog 25, n ≤ reachBytes) :
    ∃ (f : Fn) (vv vb : Value), v = .agg #[vv, vb] ∧ SlOf w 1 RInt vv f.values ∧ SlOf w 3 (RBlk w) vb f.blocks ∧ f.blocks.length * 72 ≤ 140737488355328 := by
  obtain ⟨cs, rfl, hsz⟩ := okWide_struct Try.underlying25 hv
  obtain ⟨c0, c1, rfl⟩ := arr2 (hsz.trans cellsF)
  obtain ⟨fuel, hf⟩ := h
  obtain ⟨f, vv, vb, e, hs, hb, hl⟩ := reads_fnB fuel _ _ hf hw
  simp [Value.cells] at e
  obtain ⟨rfl, rfl⟩ := e
  exact ⟨f, _, _, rfl, hs, hb, hl⟩

set_option maxRecDepth 100000 in
theorem lifted (os : Os) (started : os.Started) (H : Type) (enc : TypeId × Value → H) :
    ReturnsInHanded {} Try.checked os 3 .any (Rows.liveStartsSpec.pre6 enc Try.prog Try.f3 Rows.liveStartsRow.domain false) (Rows.liveStartsSpec.post enc Try.prog Try.f3 false true false false) := by
  refine returnsInHanded_of_change_sized (C := Try.checked) own started (by kernel_rfl) Try.func3
    (ChangeSpec.witness6 (enc := enc) (C := Try.checked) false ⟨#[], #[.agg #[.slice none 0 0, .slice none 0 0]], []⟩ 8 (by kernel_rfl) (by kernel_rfl) (by kernel_rfl) (by kernel_rfl)) ?_
  intro W base args ds gs before hval0 hW hcnd hwt _
  have hval : ∀ (j : Nat) t v, Try.f3.params[j]? = some t → args[j]? = some v → Value.okWide Try.prog W .any base t v := hval0
  have hW' := hW
  obtain ⟨p, q, hA0, hV, rfl, hfz, hnd⟩ := hW
  have hA : DataW.TrodAll enc Try.prog W 0 (fun _ => true) true Try.f3.params.toList args.toList ds p := hA0
  have hwt1 : (DataW.weightsEach Try.prog (Try.f3.params.toList ++ _) (ds ++ gs)).all (· ≤ reachBytes) = true := hwt
  rw [Try.params3] at hA hval hwt1
  obtain ⟨v0, vs0, d0, ds0, p0, q0, hargs, rfl, rfl, h0, r0⟩ := trodAll_cons hA
  obtain ⟨rfl, rfl, rfl⟩ := trodAll_nil r0
  obtain rfl : args = #[v0] := by cases args; simp_all
  obtain ⟨rfl, rfl⟩ := trodVars_none hV
  have k0 := h0
  have lt0 : ∀ x ∈ p0, x.block < W.heap.size := by obtain ⟨m, hm⟩ := k0; exact DataW.trod_lt m _ _ _ hm
  have hw0 : ∀ n ∈ d0.weights Try.prog 25, n ≤ reachBytes := fun n hn => by
    have := List.all_eq_true.1 hwt1 n (DataW.weights_mem_each (j := 0) rfl rfl n hn)
    simpa using this
  obtain ⟨f, vv, vb, rfl, hsv, hsb, hfew⟩ := open_func (hval 0 25 v0 rfl rfl) h0 hw0
  clear hA0 hval0
  refine (liveStarts_walk f vv vb W hsv hsb hfew).mono fun e W' ⟨he, bel⟩ => ?_
  subst he
  exact ⟨_, rfl, _, _, _, [], _, [], hW', trodAll_mk1 (shut_bool Try.underlying4 _), (trodAll_cons_mk (Below.trod laidOut (by kernel_rfl) (of_decide_eq_true (by kernel_rfl)) k0 bel lt0) trodAll_mk0), rfl, bel.frame _, fun h => by cases h⟩

theorem over : Rows.liveStartsRow.holds Try.pinned (OpenSpec.ofChange Rows.liveStartsSpec) :=
  OpenClaim.holds_of_wide 3 Try.f3 rfl rfl rfl rfl rfl rfl rfl ⟨rfl, rfl, rfl, rfl, rfl⟩ rfl rfl rfl rfl rfl (by kernel_rfl) Try.func3 (by kernel_rfl)
    (of_decide_eq_true (by kernel_rfl)) (by unfold Func.isWrapper; first | (rw [if_pos (by decide +kernel)]; kernel_rfl) | (rw [if_neg (by decide +kernel)]; exact ⟨rfl, rfl⟩))
    (fun os started H enc _ => lifted os started H enc)

theorem proved : Rows.LiveStartsSaid := over
#print axioms proved
end Go.Proofs.Ytjpmkamacbenhaa.liveStarts
