/-
  What is left at the beginning, move by move.
-/
import Derived.Test.YtdlglinbjkaokabOrP
namespace Go.Proofs.Ytdlglinbjkaokab
set_option linter.unusedVariables false

def leftS (f : Pl → Option Pl) (m : Mv) : Pl → Option Pl := if m.src = m.dst then f else updP f m.dst (some m.src)
def rdS (f : Pl → Int) (m : Mv) : Pl → Int := if m.src = m.dst then f else updP f m.src (f m.src + 1)
def leftF (l : List Mv) : Pl → Option Pl := l.foldl leftS fun _ => none
def rdF (l : List Mv) : Pl → Int := l.foldl rdS fun _ => 0
theorem leftF_snoc (l : List Mv) (m : Mv) : leftF (l ++ [m]) = leftS (leftF l) m := by simp [leftF]
theorem rdF_snoc (l : List Mv) (m : Mv) : rdF (l ++ [m]) = rdS (rdF l) m := by simp [rdF]
theorem leftF_go : ∀ (l : List Mv) (f : Pl → Option Pl) (q : Pl), (dsts l).Nodup → l.foldl leftS f q = match l.find? (fun m => decide (m.dst = q)) with | some m => (if m.src = m.dst then f q else some m.src) | none => f q
  | [], f, q, _ => rfl
  | m :: l, f, q, hn => by
    have hn' := List.nodup_cons.1 (show (m.dst :: dsts l).Nodup from hn)
    rw [List.foldl_cons, leftF_go l _ q hn'.2, List.find?_cons]
    by_cases h : m.dst = q
    · have hnone : l.find? (fun y => decide (y.dst = q)) = none := by
        rw [List.find?_eq_none]
        intro y hy hy'
        exact hn'.1 (List.mem_map.2 ⟨y, hy, by rw [of_decide_eq_true hy', h]⟩)
      rw [hnone]
      simp only [h, decide_true]
      unfold leftS
      rw [h]
      by_cases h2 : m.src = q
      · rw [if_pos h2, if_pos h2]
      · rw [if_neg h2, if_neg h2, updP_same]
    · simp only [h, decide_false]
      have e : leftS f m q = f q := by
        unfold leftS
        split
        · rfl
        · exact updP_other (Ne.symm h)
      rw [e]
theorem leftF_is {l : List Mv} (hn : (dsts l).Nodup) : leftF l = leftOf l := by
  funext q
  unfold leftF
  rw [leftF_go l _ q hn]
  unfold leftOf srcOf
  cases h : l.find? (fun m => decide (m.dst = q)) with
  | none => simp
  | some m =>
    have hq : m.dst = q := by simpa using List.find?_some h
    simp only [hq]
theorem rdF_go : ∀ (l : List Mv) (f : Pl → Int) (p : Pl), l.foldl rdS f p = f p + ((l.filter fun m => decide (m.src = p ∧ m.src ≠ m.dst)).length : Int)
  | [], f, p => by simp
  | m :: l, f, p => by
    rw [List.foldl_cons, rdF_go l _ p, List.filter_cons]
    by_cases h : m.src = m.dst
    · have e1 : rdS f m = f := if_pos h
      rw [e1, if_neg (by simp [h])]
    · have e1 : rdS f m = updP f m.src (f m.src + 1) := if_neg h
      rw [e1]
      by_cases h2 : m.src = p
      · rw [if_pos (by simp [h2]; exact fun e => h (h2.trans e))]
        rw [h2, updP_same]
        simp only [List.length_cons]
        omega
      · rw [updP_other (Ne.symm h2), if_neg (by simp [h2])]
theorem rdF_is {l : List Mv} (hn : (dsts l).Nodup) (p : Pl) : rdF l p = (cntR l (leftOf l) p : Int) := by
  unfold rdF
  rw [rdF_go, Int.zero_add]
  unfold cntR
  congr 2
  refine List.filter_congr fun m hm => ?_
  unfold leftOf
  rw [srcOf_mem hn hm]
  by_cases h : m.src = m.dst
  · simp [h]
  · simp [h]
end Go.Proofs.Ytdlglinbjkaokab
