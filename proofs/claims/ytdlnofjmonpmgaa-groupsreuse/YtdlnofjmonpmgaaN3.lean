/-
  A ring at whose end the first value is read: what is needed where, by computing. No Go in here but how it lies.
-/
import Derived.Test.YtdlnofjmonpmgaaV15
import Derived.Test.YtdlnofjmonpmgaaN2
namespace Go.Proofs.Ytdlnofjmonpmgaa
open Go.RowKit
set_option linter.unusedVariables false

/-- What is needed, k steps on. -/
def needN (bs : List Blk) : Nat → Nat → Nat → Bool
  | 0, _, _ => false
  | k + 1, b, v => decide (b < bs.length) && (!decide ((v : Int) ∈ makersOf (blkA bs b)) && (decide ((v : Int) ∈ insU (blkA bs b).instrs) || (decide ((v : Int) ∈ argsU (blkA bs b).edges) || (succM bs b).any fun t => needN bs k t v)))
def outN (bs : List Blk) (k b v : Nat) : Bool := decide (b < bs.length) && (decide ((v : Int) ∈ argsU (blkA bs b).edges) || (succM bs b).any fun t => needN bs k t v)
theorem needN_sound {bs : List Blk} : ∀ k b v, needN bs k b v = true → NeedIn bs b v
  | 0, _, _, h => by cases h
  | k + 1, b, v, h => by
    simp only [needN, Bool.and_eq_true, decide_eq_true_eq, Bool.not_eq_true', decide_eq_false_iff_not, Bool.or_eq_true, List.any_eq_true] at h
    obtain ⟨hb, hm, hu | hu | ⟨t, ht, hn⟩⟩ := h
    · exact .use b v hb hm (Or.inl hu)
    · exact .use b v hb hm (Or.inr hu)
    · exact .edge b v t hb hm ht (needN_sound k t v hn)
theorem needN_full {bs : List Blk} {k nv : Nat} (hc : ∀ b, b < bs.length → ∀ v, v < nv → needN bs (k + 1) b v = true → needN bs k b v = true) {b v : Nat} (h : NeedIn bs b v) : v < nv → needN bs k b v = true := by
  induction h with
  | use b v hb hm hu =>
    intro hv
    refine hc b hb v hv ?_
    simp only [needN, Bool.and_eq_true, decide_eq_true_eq, Bool.not_eq_true', decide_eq_false_iff_not, Bool.or_eq_true, List.any_eq_true]
    exact ⟨hb, hm, hu.imp id Or.inl⟩
  | edge b v t hb hm ht _ ih =>
    intro hv
    refine hc b hb v hv ?_
    simp only [needN, Bool.and_eq_true, decide_eq_true_eq, Bool.not_eq_true', decide_eq_false_iff_not, Bool.or_eq_true, List.any_eq_true]
    exact ⟨hb, hm, Or.inr (Or.inr ⟨t, ht, ih hv⟩)⟩
theorem told_is {bs : List Blk} {k nv : Nat} {I O : Tb} (hc : ∀ b, b < bs.length → ∀ v, v < nv → needN bs (k + 1) b v = true → needN bs k b v = true) (h : (∀ b v, v < nv → (I b v = true ↔ NeedIn bs b v)) ∧ ∀ b v, v < nv → (O b v = true ↔ NeedOut bs b v)) : ∀ b v, v < nv → I b v = needN bs k b v ∧ O b v = outN bs k b v := fun b v hv => by
  refine ⟨?_, ?_⟩
  · rw [Bool.eq_iff_iff, h.1 b v hv]
    exact ⟨fun h => needN_full hc h hv, needN_sound k b v⟩
  · rw [Bool.eq_iff_iff, h.2 b v hv]
    simp only [outN, NeedOut, Bool.and_eq_true, decide_eq_true_eq, Bool.or_eq_true, List.any_eq_true]
    refine and_congr_right fun _ => or_congr_right ?_
    exact ⟨fun ⟨t, ht, hn⟩ => ⟨t, ht, needN_full hc hn hv⟩, fun ⟨t, ht, hn⟩ => ⟨t, ht, needN_sound k t v hn⟩⟩
theorem spansM_congr {bs : List Blk} {nv : Nat} {I O I' O' : Tb} (h : ∀ b v, v < nv → I b v = I' b v ∧ O b v = O' b v) : ∀ k, spansM bs nv I O k = spansM bs nv I' O' k
  | 0 => rfl
  | k + 1 => by
    funext i
    simp only [spansM]
    rw [spansM_congr h k]
    have e1 : stIn I k (startM bs k) nv = stIn I' k (startM bs k) nv := by
      funext v
      unfold stIn
      by_cases hv : v < nv
      · rw [(h k v hv).1]
      · simp [hv]
    have e2 : ∀ fin s, stOut O k fin s nv = stOut O' k fin s nv := fun fin s => by
      funext v
      unfold stOut
      by_cases hv : v < nv
      · rw [(h k v hv).2]
      · simp [hv]
    unfold stayM stMid
    rw [e1, e2]
theorem rowL_congr {nv : Nat} {r r' : Nat → Bool} (h : ∀ v, v < nv → r v = r' v) : rowL nv r = rowL nv r' := by
  unfold rowL
  congr 1
  exact List.filter_congr fun v hv => h v (List.mem_range.1 hv)

def rsF (n : Nat) : Fn := ⟨List.replicate (n + 2) 0, [⟨[], [⟨1, [⟨2, 0, true, 1, 0⟩], []⟩], [⟨1, [0]⟩]⟩, ⟨[1], ringI1, [⟨2, []⟩, ⟨3, []⟩]⟩, ⟨[], (List.range n).map rgI, [⟨1, [(n : Int) + 1]⟩]⟩, ⟨[], [⟨3, [⟨1, 0, false, 1, 0⟩], []⟩], []⟩]⟩
set_option maxRecDepth 100000 in
theorem rs_flow : ∀ a : Nat, a < 20 → flowE (rsF (a + 1)) 10 10 (4 * 4 + 1) = 0 := by decide +kernel
set_option maxRecDepth 100000 in
theorem rs_closed : ∀ a : Nat, a < 20 → ∀ b, b < 4 → ∀ v, v < a + 1 + 2 → needN (rsF (a + 1)).blocks 7 b v = true → needN (rsF (a + 1)).blocks 6 b v = true := by decide +kernel
set_option maxRecDepth 100000 in
theorem rs_rows : ∀ a : Nat, a < 20 → rowL (a + 1 + 2) (needN (rsF (a + 1)).blocks 6 2) = [0, 1] ∧ rowL (a + 1 + 2) (outN (rsF (a + 1)).blocks 6 2) = [0, (a : Int) + 2] := by decide +kernel
set_option maxRecDepth 100000 in
theorem rs_span : ∀ a : Nat, a < 20 → spansM (rsF (a + 1)).blocks (a + 1 + 2) (fun b v => needN (rsF (a + 1)).blocks 6 b v) (fun b v => outN (rsF (a + 1)).blocks 6 b v) 4 0 = [(2, 14 + 2 * (a : Int))] := by decide +kernel
end Go.Proofs.Ytdlnofjmonpmgaa
