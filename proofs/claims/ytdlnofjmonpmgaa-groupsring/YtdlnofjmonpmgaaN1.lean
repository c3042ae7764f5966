/-
  The statements' own 'def', 'use' and 'op'; and how far 'line' has come: what lies where, and that it is kept.
  The contract of the statements' own 'line': what it has made reads as such a function; it writes to nothing that was there.
  'line' of two values: what lies where; the statements' own 'big'.
-/
import Derived.Test.YtdlnofjmonpmgaaA4
import Derived.Deep.OwnRows
import Derived.Test.YtdlnofjmonpmgaaA5
import Derived.Deep.DeepCutAuto
import Derived.Deep.CutBlock
namespace Go.Proofs.Ytdlnofjmonpmgaa
open Go.RowKit
set_option linter.unusedVariables false

theorem def_any (v : Int) (w : World) :
    Calls Try.prog 30 #[.int .i64 v] w fun e w' => e = .returned (.agg #[.int .i64 2, .int .i64 v, .bool true, .int .i64 1, .int .i64 0]) ∧ w' = w.alloc (.cells #[.int .i64 2, .int .i64 v, .bool true, .int .i64 1, .int .i64 0] 51) := by
  go_enter Try.func30, Try.ntmps30
  go_wp2
  exact bodyPost_ret (v := .agg #[.int .i64 2, .int .i64 v, .bool true, .int .i64 1, .int .i64 0]) (by simp [results, Try.results30, go_sem]) rfl ⟨rfl, rfl⟩
theorem use_any (v : Int) (w : World) :
    Calls Try.prog 17 #[.int .i64 v] w fun e w' => e = .returned (.agg #[.int .i64 1, .int .i64 v, .bool false, .int .i64 1, .int .i64 0]) ∧ w' = w.alloc (.cells #[.int .i64 1, .int .i64 v, .bool false, .int .i64 1, .int .i64 0] 51) := by
  go_enter Try.func17, Try.ntmps17
  go_wp2
  exact bodyPost_ret (v := .agg #[.int .i64 1, .int .i64 v, .bool false, .int .i64 1, .int .i64 0]) (by simp [results, Try.results17, go_sem]) rfl ⟨rfl, rfl⟩
theorem op_any (n : Int) (b k c : Nat) (w : World) :
    Calls Try.prog 16 #[.int .i64 n, .slice (some ⟨b, 0, none⟩) k c] w fun e w' => e = .returned (.agg #[.int .i64 n, .slice (some ⟨b, 0, none⟩) k c, .slice none 0 0]) ∧ w' = w.alloc (.cells #[.int .i64 n, .slice (some ⟨b, 0, none⟩) k c, .slice none 0 0] 55) := by
  go_enter Try.func16, Try.ntmps16
  go_wp2
  exact bodyPost_ret (v := .agg #[.int .i64 n, .slice (some ⟨b, 0, none⟩) k c, .slice none 0 0]) (by simp [results, Try.results16, go_sem]) rfl ⟨rfl, rfl⟩

/-- The operands of line's instruction number k. -/
def lnO (k : Nat) : List Opr := if k = 0 then [⟨2, 0, true, 1, 0⟩] else [⟨1, (k : Int) - 1, false, 1, 0⟩, ⟨2, k, true, 1, 0⟩]
def lnI (k : Nat) : Ins := ⟨((k % 256 : Nat) : Int), lnO k, []⟩
def lineF (n : Nat) : Fn := ⟨List.replicate n 0, [⟨[], (List.range n).map lnI, []⟩]⟩
def lnX (o : Nat) (k : Nat) : List Value := [.int .i64 ((k % 256 : Nat) : Int), .slice (some ⟨o, 0, none⟩) (lnO k).length (lnO k).length, .slice none 0 0]
def lnXs (ob : Nat → Nat) (i : Nat) : List Value := (List.range i).flatMap fun k => lnX (ob k) k
theorem lnXs_snoc (ob : Nat → Nat) (i o : Nat) : lnXs (fun k => if k = i then o else ob k) (i + 1) = lnXs ob i ++ lnX o i := by
  unfold lnXs
  rw [List.range_succ, List.flatMap_append]
  congr 1
  · simp only [List.flatMap_def]
    congr 1
    refine List.map_congr_left fun k hk => ?_
    have : k < i := List.mem_range.1 hk
    rw [if_neg (by omega)]
  · simp [lnX]
theorem rep_snoc0 (i : Nat) : (List.replicate (i + 1) (0 : Int)).flatMap cI = (List.replicate i 0).flatMap cI ++ [.int .i64 0] := by rw [List.replicate_succ', List.flatMap_append]; rfl

def apartW (v v' : Value) : Prop := ∀ g, v.ownBlock = some g → v'.ownBlock ≠ some g
/-- The operands' own blocks. -/
structure ObOk (wr : World) (M i : Nat) (vv vi : Value) (ob : Nat → Nat) (k : Nat) : Prop where
  base : M + 1 + 1 + 1 ≤ ob k
  lt : ob k < wr.heap.size
  nv : vv.ownBlock ≠ some (ob k)
  ni : vi.ownBlock ≠ some (ob k)
  blk : wr.heap[ob k]? = some (.cells ((lnO k).flatMap cO).toArray 51)
structure LineSt (M nv ni : Nat) (vv vi : Value) (ob : Nat → Nat) (wr : World) : Prop where
  r1 : wr.rowIs (M + 1) 44 3 (fun q => if q = 1 then vi else .slice none 0 0)
  r2 : wr.rowIs (M + 1 + 1) 30 2 (fun q => if q = 0 then vv else .slice (some ⟨M + 1, 0, none⟩) 1 1)
  ov : wr.ownsRow (M + 1 + 1 + 1) 3 1 vv nv ((List.replicate nv (0 : Int)).flatMap cI)
  oi : wr.ownsRow (M + 1 + 1 + 1) 55 3 vi ni (lnXs ob ni)
  ap : apartW vv vi
  obs : ∀ k, k < ni → ObOk wr M ni vv vi ob k
  inj : ∀ j k, j < ni → k < ni → ob j = ob k → j = k

theorem LineSt.below {M nv ni : Nat} {vv vi : Value} {ob : Nat → Nat} {wr w' : World} (h : LineSt M nv ni vv vi ob wr) (hb : Below wr.heap.size wr w') : LineSt M nv ni vv vi ob w' := by
  have kept := hb.block
  refine ⟨h.r1.of_block (kept _ h.r1.lt), h.r2.of_block (kept _ h.r2.lt), own_keep h.ov fun g _ _ hl => kept g hl, own_keep h.oi fun g _ _ hl => kept g hl, h.ap, fun k hk => ?_, h.inj⟩
  have o := h.obs k hk
  exact ⟨o.base, Nat.lt_of_lt_of_le o.lt hb.size, o.nv, o.ni, (kept _ o.lt).trans o.blk⟩

theorem lineSt0 (w : World) : LineSt w.heap.size 0 0 (.slice none 0 0) (.slice none 0 0) (fun _ => 0) (((w.alloc (.cells #[.slice none 0 0, .slice none 0 0] 30)).alloc (.cells #[.slice none 0 0, .slice none 0 0, .slice none 0 0] 44)).alloc (.cells #[.slice none 0 0, .slice (some ⟨w.heap.size + 1, 0, none⟩) 1 1] 30)) := by
  obtain ⟨V1, hV1⟩ : ∃ V1, V1 = w.alloc (.cells #[.slice none 0 0, .slice none 0 0] 30) := ⟨_, rfl⟩
  have z1 : V1.heap.size = w.heap.size + 1 := by rw [hV1]; simp
  rw [← hV1]
  obtain ⟨V2, hV2⟩ : ∃ V2, V2 = V1.alloc (.cells #[.slice none 0 0, .slice none 0 0, .slice none 0 0] 44) := ⟨_, rfl⟩
  have z2 : V2.heap.size = w.heap.size + 1 + 1 := by rw [hV2]; simp [z1]
  have r1 : V2.rowIs (w.heap.size + 1) 44 3 (fun q => if q = 1 then .slice none 0 0 else .slice none 0 0) := by
    rw [hV2, ← z1]; exact World.rowIs_alloc _ _ _ _ (fun i hi => by match i, hi with | 0, _ => rfl | 1, _ => rfl | 2, _ => rfl)
  rw [← hV2]
  have r2 : (V2.alloc (.cells #[.slice none 0 0, .slice (some ⟨w.heap.size + 1, 0, none⟩) 1 1] 30)).rowIs (w.heap.size + 1 + 1) 30 2 (fun q => if q = 0 then .slice none 0 0 else .slice (some ⟨w.heap.size + 1, 0, none⟩) 1 1) := by
    rw [← z2]; exact World.rowIs_alloc _ _ _ _ (fun i hi => by match i, hi with | 0, _ => rfl | 1, _ => rfl)
  exact ⟨r1.alloc _, r2, World.ownsRow_nil _ _ _ _, World.ownsRow_nil _ _ _ _, fun g h => by simp [Value.ownBlock] at h, fun k hk => absurd hk (by omega), fun j k hj => absurd hj (by omega)⟩

/-- A write to a block ahead of all that. -/
theorem LineSt.after {M nv ni : Nat} {vv vi : Value} {ob : Nat → Nat} {wr w' : World} (h : LineSt M nv ni vv vi ob wr) (B : Nat) (hB : B < M + 1) (hB' : B < wr.heap.size) (hz : wr.heap.size ≤ w'.heap.size) (hk : ∀ b, b ≠ B → w'.heap[b]? = wr.heap[b]?) : LineSt M nv ni vv vi ob w' := by
  refine ⟨h.r1.of_block (hk _ (by omega)), h.r2.of_block (hk _ (by omega)), own_keep h.ov fun g _ hb _ => hk g (by omega), own_keep h.oi fun g _ hb _ => hk g (by omega), h.ap, fun k hk' => ?_, h.inj⟩
  have o := h.obs k hk'
  exact ⟨o.base, Nat.lt_of_lt_of_le o.lt hz, o.nv, o.ni, (hk _ (by have := o.base; omega)).trans o.blk⟩

/-- One value more. -/
theorem LineSt.vals {M nv ni : Nat} {vv vi : Value} {ob : Nat → Nat} {wr w1 : World} (h : LineSt M nv ni vv vi ob wr) {o : Obj} {g cap : Nat}
    (hown : w1.ownsRow (M + 1 + 1 + 1) 3 1 (.slice (some ⟨g, 0, none⟩) (nv + 1) cap) (nv + 1) ((List.replicate nv (0 : Int)).flatMap cI ++ [.int .i64 0]))
    (hgrow : (wr.alloc o).grownBy w1 vv.ownBlock) (hat : vv.ownBlock = some g ∨ g = wr.heap.size + 1) :
    w1.rowIs (M + 1 + 1) 30 2 (fun q => if q = 0 then vv else .slice (some ⟨M + 1, 0, none⟩) 1 1) ∧ LineSt M (nv + 1) ni (.slice (some ⟨g, 0, none⟩) (nv + 1) cap) vi ob (w1.setCell ⟨M + 1 + 1, 0, none⟩ (.slice (some ⟨g, 0, none⟩) (nv + 1) cap)) := by
  have kept : ∀ b, b < wr.heap.size → some b ≠ vv.ownBlock → w1.heap[b]? = wr.heap[b]? := fun b hb hne => (hgrow.block b (by simp; omega) hne).trans (Below.heap_alloc _ _ _ hb)
  have far : ∀ b, b < M + 1 + 1 + 1 → some b ≠ vv.ownBlock := fun b hb e => by have := own_base h.ov e.symm; omega
  have hz := hgrow.size
  simp at hz
  have k1 := h.r1.of_block (kept (M + 1) h.r1.lt (far _ (by omega)))
  have k2 := h.r2.of_block (kept (M + 1 + 1) h.r2.lt (far _ (by omega)))
  have ni' : w1.ownsRow (M + 1 + 1 + 1) 55 3 vi ni (lnXs ob ni) := own_keep h.oi fun b hx hb hlt => kept b hlt fun e => h.ap b e.symm hx
  have avi : ∀ b, vi.ownBlock = some b → b ≠ g := fun b hx e => by
    subst e
    rcases hat with hat | hat
    · exact h.ap b hat hx
    · have := own_base h.oi hx; omega
  have nn : w1.ownsRow (M + 1 + 1 + 1) 3 1 (.slice (some ⟨g, 0, none⟩) (nv + 1) cap) (nv + 1) ((List.replicate (nv + 1) (0 : Int)).flatMap cI) := by rw [rep_snoc0]; exact hown
  have hst : ∀ b, M + 1 + 1 + 1 ≤ b → (w1.setCell ⟨M + 1 + 1, 0, none⟩ (.slice (some ⟨g, 0, none⟩) (nv + 1) cap)).heap[b]? = w1.heap[b]? := fun b hh => Below.heap_setCell _ _ _ _ (by show b ≠ M + 1 + 1; omega)
  refine ⟨k2, k1.setOther (by show M + 1 ≠ M + 1 + 1; omega) _, (k2.set 0 _).congr fun q hq => by match q, hq with | 0, _ => rfl | 1, _ => rfl, own_keep nn fun b _ hb _ => hst b hb, own_keep ni' fun b _ hb _ => hst b hb, (fun b hx => by simp [Value.ownBlock] at hx; intro hy; exact avi b hy hx.symm), fun k hk => ?_, h.inj⟩
  have o := h.obs k hk
  refine ⟨o.base, by have := o.lt; simp; omega, ?_, o.ni, (hst _ o.base).trans ((kept _ o.lt (Ne.symm o.nv)).trans o.blk)⟩
  simp [Value.ownBlock]
  intro e
  rcases hat with hat | hat
  · exact o.nv (by rw [hat, e])
  · have := o.lt; omega

/-- One instruction more. -/
theorem LineSt.instr {M nv ni o : Nat} {vv vi : Value} {ob : Nat → Nat} {wr wa w1 : World} (h : LineSt M nv ni vv vi ob wr) (ho : M + 1 + 1 + 1 ≤ o) (hol : o < wr.heap.size) (hov : vv.ownBlock ≠ some o) (hoi : vi.ownBlock ≠ some o) (hob : ∀ k, k < ni → ob k ≠ o) (hoc : wr.heap[o]? = some (.cells ((lnO ni).flatMap cO).toArray 51))
    {g cap : Nat} (hown : w1.ownsRow (M + 1 + 1 + 1) 55 3 (.slice (some ⟨g, 0, none⟩) (ni + 1) cap) (ni + 1) (lnXs ob ni ++ lnX o ni))
    (hwa : Below wr.heap.size wr wa) (hgrow : wa.grownBy w1 vi.ownBlock) (hat : vi.ownBlock = some g ∨ wr.heap.size ≤ g) :
    LineSt M nv (ni + 1) vv (.slice (some ⟨g, 0, none⟩) (ni + 1) cap) (fun k => if k = ni then o else ob k) (w1.setCell ⟨M + 1, 1, none⟩ (.slice (some ⟨g, 0, none⟩) (ni + 1) cap)) := by
  have hza := hwa.size
  have hz := hgrow.size
  have kept : ∀ b, b < wr.heap.size → some b ≠ vi.ownBlock → w1.heap[b]? = wr.heap[b]? := fun b hb hne => (hgrow.block b (by omega) hne).trans (hwa.block b hb)
  have far : ∀ b, b < M + 1 + 1 + 1 → some b ≠ vi.ownBlock := fun b hb e => by have := own_base h.oi e.symm; omega
  have k1 := h.r1.of_block (kept (M + 1) h.r1.lt (far _ (by omega)))
  have k2 := h.r2.of_block (kept (M + 1 + 1) h.r2.lt (far _ (by omega)))
  have nv' : w1.ownsRow (M + 1 + 1 + 1) 3 1 vv nv ((List.replicate nv (0 : Int)).flatMap cI) := own_keep h.ov fun b hx hb hlt => kept b hlt fun e => h.ap b hx e.symm
  have avv : ∀ b, vv.ownBlock = some b → b ≠ g := fun b hx e => by
    subst e
    rcases hat with hat | hat
    · exact h.ap b hx hat
    · have := own_base h.ov hx; omega
  have nn : w1.ownsRow (M + 1 + 1 + 1) 55 3 (.slice (some ⟨g, 0, none⟩) (ni + 1) cap) (ni + 1) (lnXs (fun k => if k = ni then o else ob k) (ni + 1)) := by rw [lnXs_snoc]; exact hown
  have hst : ∀ b, M + 1 + 1 + 1 ≤ b → (w1.setCell ⟨M + 1, 1, none⟩ (.slice (some ⟨g, 0, none⟩) (ni + 1) cap)).heap[b]? = w1.heap[b]? := fun b hh => Below.heap_setCell _ _ _ _ (by show b ≠ M + 1; omega)
  have ong : ∀ b, b < wr.heap.size → vi.ownBlock ≠ some b → g ≠ b := fun b hb hne e => by
    rcases hat with hat | hat
    · exact hne (by rw [hat, e])
    · omega
  refine ⟨(k1.set 1 _).congr fun q hq => by match q, hq with | 0, _ => rfl | 1, _ => rfl | 2, _ => rfl, k2.setOther (by show M + 1 + 1 ≠ M + 1; omega) _, own_keep nv' fun b _ hb _ => hst b hb, own_keep nn fun b _ hb _ => hst b hb, (fun b hx => by simp [Value.ownBlock]; intro e; exact avv b hx e.symm), fun k hk => ?_, fun j k hj hk e => ?_⟩
  · by_cases hkn : k = ni
    · subst hkn
      exact ⟨by simpa using ho, by simp; omega, by simpa using hov, by simpa [Value.ownBlock] using ong o hol hoi, by simpa using (hst _ ho).trans ((kept _ hol (Ne.symm hoi)).trans hoc)⟩
    · have q := h.obs k (by omega)
      exact ⟨by simpa [hkn] using q.base, by have := q.lt; simp [hkn]; omega, by simpa [hkn] using q.nv, by simpa [hkn, Value.ownBlock] using ong _ q.lt q.ni, by simpa [hkn] using (hst _ q.base).trans ((kept _ q.lt (Ne.symm q.ni)).trans q.blk)⟩
  · by_cases hj' : j = ni <;> by_cases hk' : k = ni
    · omega
    · simp [hj', hk'] at e; exact absurd e.symm (hob k (by omega))
    · simp [hj', hk'] at e; exact absurd e (hob j (by omega))
    · simp [hj', hk'] at e; exact h.inj j k (by omega) (by omega) e

theorem infoI3 : (Try.prog.info? 3).map (fun i => (i.zero, i.size, i.bytes)) = some (some (.int .i64 0), 1, 8) := by kernel_rfl
theorem infoIn : (Try.prog.info? 55).map (fun i => (i.zero, i.size, i.bytes)) = some (some (.agg #[.int .i64 0, .slice none 0 0, .slice none 0 0]), 3, 56) := by kernel_rfl
end Go.Proofs.Ytdlnofjmonpmgaa
namespace Go.Proofs.Ytdlnofjmonpmgaa
open Go.RowKit
set_option linter.unusedVariables false

theorem newsL {w : World} {ob : Obj} {cs : Array Value} {t : Nat} (h : ob = .cells cs t) : ∀ j u, cs.toList[j]? = some u → (w.alloc ob).cell? ((⟨w.heap.size, 0, none⟩ : Addr).add j) = some u := by
  subst h
  exact World.news_of_block (heap_alloc_new w _)
theorem heap_atL {W : World} {o : Obj} {n : Nat} (h : n = W.heap.size) : (W.alloc o).heap[n]? = some o := by subst h; exact heap_alloc_new W o

theorem own_formL {w : World} {base e k n : Nat} {v : Value} {xs : List Value} (h : w.ownsRow base e k v n xs) : ∃ a cap, v = .slice a n cap := by
  rcases h.2 with ⟨rfl, rfl⟩ | ⟨g, cap, cur, rfl, _⟩
  · exact ⟨none, 0, rfl⟩
  · exact ⟨_, _, rfl⟩

set_option maxHeartbeats 4000000 in
theorem line_any (n : Nat) (w : World) (h1 : 1 ≤ n) (hn : n ≤ 100000) :
    Calls Try.prog 15 #[.int .i64 n] w fun e w' => ∃ vv vi ob, e = .returned (.agg #[vv, .slice (some ⟨w.heap.size + 1, 0, none⟩) 1 1]) ∧ LineSt w.heap.size n n vv vi ob w' ∧ Below w.heap.size w w' := by
  obtain ⟨i3, hi3, hz3, hz31, hz32⟩ := info_parts infoI3
  obtain ⟨i30, hi30, hz30, hz301, hz302⟩ := info_parts infoIn
  go_enter Try.func15, Try.ntmps15
  go_wp2_with fail
  go_loopw [4] (fun t wr => ∃ (i : Nat) (vv vi : Value) (ob : Nat → Nat), i ≤ n ∧ t = .int .i64 i ∧ LineSt w.heap.size i i vv vi ob wr ∧ Below (w.heap.size + 1) (w.alloc (.cells #[.slice none 0 0, .slice none 0 0] 30)) wr) (fun t _ => n - (intOf t).toNat)
  case atStart => exact ⟨0, .slice none 0 0, .slice none 0 0, fun _ => 0, Nat.zero_le _, rfl, lineSt0 w, ((Below.refl _ _).alloc (by simp) _).alloc (by simp) _⟩
  case round =>
    obtain ⟨i, vv, vi, ob, hi, rfl, hS, hbr⟩ := hrel
    have hz0 := hS.r2.lt
    by_cases hlt : i < n
    · have o1 := hS.ov
      have c20 : wr.cell? ⟨w.heap.size + 1 + 1, 0, none⟩ = some vv := hS.r2.cell (i := 0) (by omega)
      have oA := o1.alloc (.cells #[.int .i64 0] 3)
      go_wp2_with (at_builtin; go_must (refine wpList_append_lies _ rfl _ _ 27 rfl (w.heap.size + 1 + 1 + 1) 3 i3 (.int .i64 0) 1 8 Try.underlying27 hi3 hz3 hz31 hz32 rfl (by omega) vv i _ (by rfl) oA ⟨wr.heap.size, 0, none⟩ 1 1 [.int .i64 0] (by rfl) (by rfl) ?c1 ?c2 (by omega) ?c3 ?c4 ?c5 (wr.heap.size + 1) ?c6 ?_))
      case c1 => exact newsL rfl
      case c2 => intro u hu; simp at hu; subst hu; rfl
      case c3 => unfold maxLen; omega
      case c4 => omega
      case c5 => simp; omega
      case c6 => simp
      intro g cap wb hown hgrow hat hgl
      obtain ⟨q2, hS1⟩ := hS.vals hown hgrow hat
      have hzb := hgrow.size
      simp at hzb
      have f2 := q2.frozen 0
      have x2 : wb.cell? ⟨w.heap.size + 1 + 1, 0, none⟩ = some vv := q2.cell (i := 0) (by omega)
      have hbb : Below (w.heap.size + 1) _ wb := (hbr.alloc (by omega) _).grown hgrow (by simp; omega) (fun h hh => by have := own_base o1 hh; omega)
      have hbs : Below (w.heap.size + 1) _ (wb.setCell ⟨w.heap.size + 1 + 1, 0, none⟩ (.slice (some ⟨g, 0, none⟩) (i + 1) cap)) := hbb.setCell (by simp) _
      obtain ⟨wc, hwc⟩ : ∃ wc, wc = wb.setCell ⟨w.heap.size + 1 + 1, 0, none⟩ (.slice (some ⟨g, 0, none⟩) (i + 1) cap) := ⟨_, rfl⟩
      have hzc : wc.heap.size = wb.heap.size := by rw [hwc]; simp
      have HC : Hid (wc = wb.setCell ⟨w.heap.size + 1 + 1, 0, none⟩ (.slice (some ⟨g, 0, none⟩) (i + 1) cap)) := hwc
      rw [← hwc] at hS1 hbs
      clear hwc hzc oA hown hgrow c20
      have hz1 := hS1.r2.lt
      go_upto_region 6 with fail
      rw [← HC.out]
      clear q2 f2 x2 hbb HC
      by_cases hp : 0 < i
      · go_wp2_with (first
          | (go_at_call 30; refine (def_any _ _).mono ?_; rintro e w' ⟨rfl, rfl⟩)
          | (go_at_call 17; refine (use_any _ _).mono ?_; rintro e w' ⟨rfl, rfl⟩)
          | (go_at_call 16; refine (op_any _ _ _ _ _).mono ?_; rintro e w' ⟨rfl, rfl⟩))
        obtain ⟨wn, hwn⟩ : ∃ wn, wn = ((((((((wc.alloc (.cells #[.int .i64 2, .int .i64 i, .bool true, .int .i64 1, .int .i64 0] 51)).alloc (.cells #[.int .i64 2, .int .i64 i, .bool true, .int .i64 1, .int .i64 0] 51)).alloc (.cells #[.int .i64 ((i : Int) % 256), .slice (some ⟨wc.heap.size + 1, 0, none⟩) 1 1, .slice none 0 0] 55)).alloc (.cells #[.int .i64 ((i : Int) % 256), .slice (some ⟨wc.heap.size + 1 + 1 + 1 + 1 + 1 + 1, 0, none⟩) 2 2, .slice none 0 0] 55)).alloc (.cells #[.int .i64 1, .int .i64 ((i : Int) - 1), .bool false, .int .i64 1, .int .i64 0] 51)).alloc (.cells #[.int .i64 2, .int .i64 i, .bool true, .int .i64 1, .int .i64 0] 51)).alloc (.cells #[.int .i64 1, .int .i64 ((i : Int) - 1), .bool false, .int .i64 1, .int .i64 0, .int .i64 2, .int .i64 i, .bool true, .int .i64 1, .int .i64 0] 51)).alloc (.cells #[.int .i64 ((i : Int) % 256), .slice (some ⟨wc.heap.size + 1 + 1 + 1 + 1 + 1 + 1, 0, none⟩) 2 2, .slice none 0 0] 55)) := ⟨_, rfl⟩
        have zn : wn.heap.size = wc.heap.size + 1 + 1 + 1 + 1 + 1 + 1 + 1 + 1 := by rw [hwn]; simp
        have hbn : Below wc.heap.size wc wn := by
          rw [hwn]
          repeat (first | exact Below.refl _ _ | refine Below.alloc ?_ (by simp; try omega) _)
        have hSx := hS1.below hbn
        have x0 : wn.cell? ⟨wc.heap.size + 1 + 1 + 1, 0, none⟩ = some (.int .i64 ((i : Int) % 256)) := by rw [hwn]; go_simp
        have x1 : wn.cell? ⟨wc.heap.size + 1 + 1 + 1, 1, none⟩ = some (.slice (some ⟨wc.heap.size + 1 + 1 + 1 + 1 + 1 + 1, 0, none⟩) 2 2) := by rw [hwn]; go_simp
        have x2 : wn.cell? ⟨wc.heap.size + 1 + 1 + 1, 2, none⟩ = some (.slice none 0 0) := by rw [hwn]; go_simp
        have hoc : wn.heap[wc.heap.size + 1 + 1 + 1 + 1 + 1 + 1]? = some (.cells ((lnO i).flatMap cO).toArray 51) := by
          rw [hwn]
          rw [Below.heap_alloc _ _ _ (by simp)]
          have e : (lnO i).flatMap cO = [.int .i64 1, .int .i64 ((i : Int) - 1), .bool false, .int .i64 1, .int .i64 0, .int .i64 2, .int .i64 i, .bool true, .int .i64 1, .int .i64 0] := by rw [lnO, if_neg (by omega)]; rfl
          rw [e]
          exact heap_atL (by simp)
        rw [← hwn]
        clear hwn
        obtain ⟨o0, ho0⟩ : ∃ o0, o0 = wc.heap.size + 1 + 1 + 1 + 1 + 1 + 1 := ⟨_, rfl⟩
        obtain ⟨xb, hxb⟩ : ∃ xb, xb = wc.heap.size + 1 + 1 + 1 := ⟨_, rfl⟩
        rw [← ho0] at x1 hoc ⊢
        rw [← hxb] at x0 x1 x2 ⊢
        have own := hSx.oi
        have b1 : wn.cell? ⟨w.heap.size + 1, 1, none⟩ = some vi := hSx.r1.cell (i := 1) (by omega)
        have zb := hSx.r1.frozen 1
        have f1 : wn.cell? ⟨w.heap.size + 1 + 1, 1, none⟩ = some (.slice (some ⟨w.heap.size + 1, 0, none⟩) 1 1) := hSx.r2.cell (i := 1) (by omega)
        have lB := hSx.r1.lt
        have lF := hSx.r2.lt
        have lX : xb < wn.heap.size := by omega
        have nB : some (w.heap.size + 1) ≠ vi.ownBlock := fun e => by have := own_base own e.symm; omega
        have nF : some (w.heap.size + 1 + 1) ≠ vi.ownBlock := fun e => by have := own_base own e.symm; omega
        have nX : some xb ≠ vi.ownBlock := fun e => by have := own_base hS1.oi e.symm; omega
        have nO : vi.ownBlock ≠ some o0 := fun e => by have := own_base hS1.oi e; omega
        have nV : (Value.slice (some ⟨g, 0, none⟩) (i + 1) cap).ownBlock ≠ some o0 := fun e => by have := own_base hS1.ov e; omega
        have nOb : ∀ k, k < i → ob k ≠ o0 := fun k hk e => by have := (hS1.obs k hk).lt; omega
        have lO : w.heap.size + 1 + 1 + 1 ≤ o0 ∧ o0 < wn.heap.size := by omega
        have dX : ¬ w.heap.size + 1 = xb := by omega
        have hbn' := hbs.trans (hbn.mono (by omega))
        have oA := (own.alloc (.cells #[.int .i64 ((i : Int) % 256), .slice (some ⟨o0, 0, none⟩) 2 2, .slice none 0 0] 55)).drew
        have LB := old_cell (w.heap.size + 1)
        have LF := old_cell (w.heap.size + 1 + 1)
        have LX := old_cell xb
        have cB : ((wn.alloc (.cells #[.int .i64 ((i : Int) % 256), .slice (some ⟨o0, 0, none⟩) 2 2, .slice none 0 0] 55)).drew).cell? ⟨w.heap.size + 1, 1, none⟩ = some vi := (LB _ _ _ lB).trans b1
        have cZ : ((wn.alloc (.cells #[.int .i64 ((i : Int) % 256), .slice (some ⟨o0, 0, none⟩) 2 2, .slice none 0 0] 55)).drew).frozen? ⟨w.heap.size + 1, 1, none⟩ = false := (frozen?_alloc_cells _ _ _ _).trans zb
        have cF : ((wn.alloc (.cells #[.int .i64 ((i : Int) % 256), .slice (some ⟨o0, 0, none⟩) 2 2, .slice none 0 0] 55)).drew).cell? ⟨w.heap.size + 1 + 1, 1, none⟩ = some (.slice (some ⟨w.heap.size + 1, 0, none⟩) 1 1) := (LF _ _ _ lF).trans f1
        have cX0 := (LX wn (.cells #[.int .i64 ((i : Int) % 256), .slice (some ⟨o0, 0, none⟩) 2 2, .slice none 0 0] 55) 0 lX).trans x0
        have cX1 := (LX wn (.cells #[.int .i64 ((i : Int) % 256), .slice (some ⟨o0, 0, none⟩) 2 2, .slice none 0 0] 55) 1 lX).trans x1
        have cX2 := (LX wn (.cells #[.int .i64 ((i : Int) % 256), .slice (some ⟨o0, 0, none⟩) 2 2, .slice none 0 0] 55) 2 lX).trans x2
        have lB' : (w.heap.size + 1) < ((wn.alloc (.cells #[.int .i64 ((i : Int) % 256), .slice (some ⟨o0, 0, none⟩) 2 2, .slice none 0 0] 55)).drew).heap.size := by simp; omega
        have lF' : (w.heap.size + 1 + 1) < ((wn.alloc (.cells #[.int .i64 ((i : Int) % 256), .slice (some ⟨o0, 0, none⟩) 2 2, .slice none 0 0] 55)).drew).heap.size := by simp; omega
        have lX' : xb < ((wn.alloc (.cells #[.int .i64 ((i : Int) % 256), .slice (some ⟨o0, 0, none⟩) 2 2, .slice none 0 0] 55)).drew).heap.size := by simp; omega
        have HN : Hid (∀ j u, ([.int .i64 ((i : Int) % 256), .slice (some ⟨o0, 0, none⟩) 2 2, .slice none 0 0] : List Value)[j]? = some u → ((wn.alloc (.cells #[.int .i64 ((i : Int) % 256), .slice (some ⟨o0, 0, none⟩) 2 2, .slice none 0 0] 55)).drew).cell? ((⟨wn.heap.size, 0, none⟩ : Addr).add j) = some u) := World.news_of_block (cs := #[.int .i64 ((i : Int) % 256), .slice (some ⟨o0, 0, none⟩) 2 2, .slice none 0 0]) (t := 55) (fr := (0, 0)) (heap_alloc_new wn _)
        have h1c : ∀ u ∈ ([.int .i64 ((i : Int) % 256), .slice (some ⟨o0, 0, none⟩) 2 2, .slice none 0 0] : List Value), u.oneCell' = true := by intro u hu; simp at hu; rcases hu with rfl | rfl | rfl <;> rfl
        have HM : Hid (wc.heap.size ≤ wn.heap.size) := hbn.size
        have HI : Hid (LineSt w.heap.size (i + 1) i (.slice (some ⟨g, 0, none⟩) (i + 1) cap) vi ob wn) := hSx
        have HO : Hid (wn.heap[o0]? = some (.cells ((lnO i).flatMap cO).toArray 51)) := hoc
        have eX : [.int .i64 ((i : Int) % 256), .slice (some ⟨o0, 0, none⟩) 2 2, .slice none 0 0] = lnX o0 i := by
          unfold lnX lnO
          rw [if_neg (by omega), Int.natCast_emod]; rfl
        have EX : Hid ([.int .i64 ((i : Int) % 256), .slice (some ⟨o0, 0, none⟩) 2 2, .slice none 0 0] = lnX o0 i) := eX
        clear hSx hoc eX hS1 hS ho0 hxb zn hbn hat hzb hgl hz1 hz0 hbs hbr o1
        refine wp_region_X (fun w' => w'.cell? ⟨w.heap.size + 1 + 1, 1, none⟩ = some (.slice (some ⟨w.heap.size + 1, 0, none⟩) 1 1) ∧ w'.cell? ⟨w.heap.size + 1, 1, none⟩ = some vi ∧ w'.cell? ⟨xb, 0, none⟩ = some (.int .i64 ((i : Int) % 256)) ∧ w'.cell? ⟨xb, 1, none⟩ = some (.slice (some ⟨o0, 0, none⟩) 2 2) ∧ w'.cell? ⟨xb, 2, none⟩ = some (.slice none 0 0)) 12 (by kernel_rfl) ⟨f1, b1, x0, x1, x2⟩ (fun hHeld => ?_)
        refine wpXn 0 rfl (v := ?_) (by kernel_rfl) (fun _ _ _ h => h) rfl ?_ hHeld ?_
        rotate_left
        · intro w' hSw
          go_simp <;> with_reducible rfl
        simp only [Act.put, List.setIfInBounds_toArray, List.set_cons_zero, List.set_cons_succ]
        refine wpXn 1 rfl (v := ?_) (by kernel_rfl) (fun _ _ _ h => h) rfl ?_ hHeld ?_
        rotate_left
        · intro w' hSw
          go_simp <;> with_reducible rfl
        simp only [Act.put, List.setIfInBounds_toArray, List.set_cons_zero, List.set_cons_succ]
        refine wpXn 2 rfl (v := ?_) (by kernel_rfl) (fun _ _ _ h => h) rfl ?_ hHeld ?_
        rotate_left
        · intro w' hSw
          go_simp <;> with_reducible rfl
        simp only [Act.put, List.setIfInBounds_toArray, List.set_cons_zero, List.set_cons_succ]
        refine wpXn 3 rfl (v := ?_) (by kernel_rfl) (fun _ _ _ h => h) rfl ?_ hHeld ?_
        rotate_left
        · intro w' hSw
          go_simp <;> with_reducible rfl
        simp only [Act.put, List.setIfInBounds_toArray, List.set_cons_zero, List.set_cons_succ]
        refine wpXn 4 rfl (v := ?_) (by kernel_rfl) (fun _ _ _ h => h) rfl ?_ hHeld ?_
        rotate_left
        · intro w' hSw
          go_simp <;> with_reducible rfl
        simp only [Act.put, List.setIfInBounds_toArray, List.set_cons_zero, List.set_cons_succ]
        refine wpXn 5 rfl (v := ?_) (by kernel_rfl) (fun _ _ _ h => h) rfl ?_ hHeld ?_
        rotate_left
        · intro w' hSw
          go_simp <;> with_reducible rfl
        simp only [Act.put, List.setIfInBounds_toArray, List.set_cons_zero, List.set_cons_succ]
        refine wpXn 6 rfl (v := ?_) (by kernel_rfl) (fun _ _ _ h => h) rfl ?_ hHeld ?_
        rotate_left
        · intro w' hSw
          go_simp <;> with_reducible rfl
        simp only [Act.put, List.setIfInBounds_toArray, List.set_cons_zero, List.set_cons_succ]
        refine wpXn 7 rfl (v := ?_) (by kernel_rfl) (fun _ _ _ h => h) rfl ?_ hHeld ?_
        rotate_left
        · intro w' hSw
          go_simp <;> with_reducible rfl
        simp only [Act.put, List.setIfInBounds_toArray, List.set_cons_zero, List.set_cons_succ]
        refine wpXs 8 rfl (by kernel_rfl) (fun K hK => ?_)
        go_simp
        refine hK.out _ _ ⟨cF, cB, cX0, cX1, cX2⟩ (fun hHeld => ?_)
        clear hK K
        refine wpXs 9 rfl (by kernel_rfl) (fun K hK => ?_)
        refine step_append_lies _ (by rfl) _ _ _ (by rfl) (w.heap.size + 1 + 1 + 1) 55 i30 _ 3 56 Try.underlying41 hi30 hz30 hz301 hz302 rfl (by omega) vi i (lnXs ob i) (by rfl) oA ⟨wn.heap.size, 0, none⟩ 1 1 [.int .i64 ((i : Int) % 256), .slice (some ⟨o0, 0, none⟩) 2 2, .slice none 0 0] (by rfl) (by rfl) HN.out h1c (by omega) (by unfold maxLen; omega) (by omega) (by simp; omega) (wn.heap.size + 1) (by simp) ?_
        intro gg cap2 wb2 hown1 hgrow hat2 hlt2
        have b1' := (hgrow.cell_far _ lB' nB).trans cB
        have zb' := (hgrow.frozen_far _ lB' nB).trans cZ
        have f1' := (hgrow.cell_far _ lF' nF).trans cF
        have x0' := (hgrow.cell_far _ lX' nX).trans cX0
        have x1' := (hgrow.cell_far _ lX' nX).trans cX1
        have x2' := (hgrow.cell_far _ lX' nX).trans cX2
        refine hK.out _ _ ⟨f1', b1', x0', x1', x2'⟩ (fun hHeld => ?_)
        clear hK K
        simp only [Act.put, List.setIfInBounds_toArray, List.set_cons_zero, List.set_cons_succ]
        refine wpXs 10 rfl (by kernel_rfl) (fun K hK => ?_)
        go_simp
        refine hK.out _ _ ⟨f1', b1', x0', x1', x2'⟩ (fun hHeld => ?_)
        clear hK K
        refine wpXn 11 rfl (v := ?_) (by kernel_rfl) (fun _ _ _ h => h) rfl ?_ hHeld ?_
        rotate_left
        · intro w' hSw
          go_simp <;> with_reducible rfl
        simp only [Act.put, List.setIfInBounds_toArray, List.set_cons_zero, List.set_cons_succ]
        refine wpXl 12 rfl (by kernel_rfl) rfl (by kernel_rfl) (fun K hK => ?_)
        go_simp
        refine hK.out _ _ ?_
        clear hK K
        go_wp2
        go_roundw
        case rel =>
          have hS3 := HI.out.instr lO.1 lO.2 nV nO nOb HO.out (g := gg) (cap := cap2) (by rw [← EX.out]; exact hown1) (((Below.refl _ _).alloc (Nat.le_refl _) _).drew) hgrow (hat2.imp id fun h => by omega)
          have hb3 : Below (w.heap.size + 1) (w.alloc (.cells #[.slice none 0 0, .slice none 0 0] 30)) (wb2.setCell ⟨w.heap.size + 1, 1, none⟩ (.slice (some ⟨gg, 0, none⟩) (i + 1) cap2)) := Below.setCell (((hbn'.alloc (by omega) _).drew).grown hgrow (by simp; omega) (fun h hh => by have := own_base own hh; omega)) (by simp) _
          exact ⟨i + 1, _, _, _, by omega, by go_num, hS3, hb3⟩
        case measure => simp [intOf]; omega

      · go_wp2_with (first
          | (go_at_call 30; refine (def_any _ _).mono ?_; rintro e w' ⟨rfl, rfl⟩)
          | (go_at_call 17; refine (use_any _ _).mono ?_; rintro e w' ⟨rfl, rfl⟩)
          | (go_at_call 16; refine (op_any _ _ _ _ _).mono ?_; rintro e w' ⟨rfl, rfl⟩))
        obtain ⟨wn, hwn⟩ : ∃ wn, wn = ((((wc.alloc (.cells #[.int .i64 2, .int .i64 i, .bool true, .int .i64 1, .int .i64 0] 51)).alloc (.cells #[.int .i64 2, .int .i64 i, .bool true, .int .i64 1, .int .i64 0] 51)).alloc (.cells #[.int .i64 ((i : Int) % 256), .slice (some ⟨wc.heap.size + 1, 0, none⟩) 1 1, .slice none 0 0] 55)).alloc (.cells #[.int .i64 ((i : Int) % 256), .slice (some ⟨wc.heap.size + 1, 0, none⟩) 1 1, .slice none 0 0] 55)) := ⟨_, rfl⟩
        have zn : wn.heap.size = wc.heap.size + 1 + 1 + 1 + 1 := by rw [hwn]; simp
        have hbn : Below wc.heap.size wc wn := by
          rw [hwn]
          repeat (first | exact Below.refl _ _ | refine Below.alloc ?_ (by simp; try omega) _)
        have hSx := hS1.below hbn
        have x0 : wn.cell? ⟨wc.heap.size + 1 + 1 + 1, 0, none⟩ = some (.int .i64 ((i : Int) % 256)) := by rw [hwn]; go_simp
        have x1 : wn.cell? ⟨wc.heap.size + 1 + 1 + 1, 1, none⟩ = some (.slice (some ⟨wc.heap.size + 1, 0, none⟩) 1 1) := by rw [hwn]; go_simp
        have x2 : wn.cell? ⟨wc.heap.size + 1 + 1 + 1, 2, none⟩ = some (.slice none 0 0) := by rw [hwn]; go_simp
        have hoc : wn.heap[wc.heap.size + 1]? = some (.cells ((lnO i).flatMap cO).toArray 51) := by
          rw [hwn]
          rw [Below.heap_alloc _ _ _ (by simp), Below.heap_alloc _ _ _ (by simp)]
          have e : (lnO i).flatMap cO = [.int .i64 2, .int .i64 i, .bool true, .int .i64 1, .int .i64 0] := by have e0 : i = 0 := (by omega); subst e0; rfl
          rw [e]
          exact heap_atL (by simp)
        rw [← hwn]
        clear hwn
        obtain ⟨o0, ho0⟩ : ∃ o0, o0 = wc.heap.size + 1 := ⟨_, rfl⟩
        obtain ⟨xb, hxb⟩ : ∃ xb, xb = wc.heap.size + 1 + 1 + 1 := ⟨_, rfl⟩
        rw [← hxb] at x0 x1 x2 ⊢
        rw [← ho0] at x1 hoc ⊢
        have own := hSx.oi
        have b1 : wn.cell? ⟨w.heap.size + 1, 1, none⟩ = some vi := hSx.r1.cell (i := 1) (by omega)
        have zb := hSx.r1.frozen 1
        have f1 : wn.cell? ⟨w.heap.size + 1 + 1, 1, none⟩ = some (.slice (some ⟨w.heap.size + 1, 0, none⟩) 1 1) := hSx.r2.cell (i := 1) (by omega)
        have lB := hSx.r1.lt
        have lF := hSx.r2.lt
        have lX : xb < wn.heap.size := by omega
        have nB : some (w.heap.size + 1) ≠ vi.ownBlock := fun e => by have := own_base own e.symm; omega
        have nF : some (w.heap.size + 1 + 1) ≠ vi.ownBlock := fun e => by have := own_base own e.symm; omega
        have nX : some xb ≠ vi.ownBlock := fun e => by have := own_base hS1.oi e.symm; omega
        have nO : vi.ownBlock ≠ some o0 := fun e => by have := own_base hS1.oi e; omega
        have nV : (Value.slice (some ⟨g, 0, none⟩) (i + 1) cap).ownBlock ≠ some o0 := fun e => by have := own_base hS1.ov e; omega
        have nOb : ∀ k, k < i → ob k ≠ o0 := fun k hk e => by have := (hS1.obs k hk).lt; omega
        have lO : w.heap.size + 1 + 1 + 1 ≤ o0 ∧ o0 < wn.heap.size := by omega
        have dX : ¬ w.heap.size + 1 = xb := by omega
        have hbn' := hbs.trans (hbn.mono (by omega))
        have oA := (own.alloc (.cells #[.int .i64 ((i : Int) % 256), .slice (some ⟨o0, 0, none⟩) 1 1, .slice none 0 0] 55)).drew
        have LB := old_cell (w.heap.size + 1)
        have LF := old_cell (w.heap.size + 1 + 1)
        have LX := old_cell xb
        have cB : ((wn.alloc (.cells #[.int .i64 ((i : Int) % 256), .slice (some ⟨o0, 0, none⟩) 1 1, .slice none 0 0] 55)).drew).cell? ⟨w.heap.size + 1, 1, none⟩ = some vi := (LB _ _ _ lB).trans b1
        have cZ : ((wn.alloc (.cells #[.int .i64 ((i : Int) % 256), .slice (some ⟨o0, 0, none⟩) 1 1, .slice none 0 0] 55)).drew).frozen? ⟨w.heap.size + 1, 1, none⟩ = false := (frozen?_alloc_cells _ _ _ _).trans zb
        have cF : ((wn.alloc (.cells #[.int .i64 ((i : Int) % 256), .slice (some ⟨o0, 0, none⟩) 1 1, .slice none 0 0] 55)).drew).cell? ⟨w.heap.size + 1 + 1, 1, none⟩ = some (.slice (some ⟨w.heap.size + 1, 0, none⟩) 1 1) := (LF _ _ _ lF).trans f1
        have cX0 := (LX wn (.cells #[.int .i64 ((i : Int) % 256), .slice (some ⟨o0, 0, none⟩) 1 1, .slice none 0 0] 55) 0 lX).trans x0
        have cX1 := (LX wn (.cells #[.int .i64 ((i : Int) % 256), .slice (some ⟨o0, 0, none⟩) 1 1, .slice none 0 0] 55) 1 lX).trans x1
        have cX2 := (LX wn (.cells #[.int .i64 ((i : Int) % 256), .slice (some ⟨o0, 0, none⟩) 1 1, .slice none 0 0] 55) 2 lX).trans x2
        have lB' : (w.heap.size + 1) < ((wn.alloc (.cells #[.int .i64 ((i : Int) % 256), .slice (some ⟨o0, 0, none⟩) 1 1, .slice none 0 0] 55)).drew).heap.size := by simp; omega
        have lF' : (w.heap.size + 1 + 1) < ((wn.alloc (.cells #[.int .i64 ((i : Int) % 256), .slice (some ⟨o0, 0, none⟩) 1 1, .slice none 0 0] 55)).drew).heap.size := by simp; omega
        have lX' : xb < ((wn.alloc (.cells #[.int .i64 ((i : Int) % 256), .slice (some ⟨o0, 0, none⟩) 1 1, .slice none 0 0] 55)).drew).heap.size := by simp; omega
        have HN : Hid (∀ j u, ([.int .i64 ((i : Int) % 256), .slice (some ⟨o0, 0, none⟩) 1 1, .slice none 0 0] : List Value)[j]? = some u → ((wn.alloc (.cells #[.int .i64 ((i : Int) % 256), .slice (some ⟨o0, 0, none⟩) 1 1, .slice none 0 0] 55)).drew).cell? ((⟨wn.heap.size, 0, none⟩ : Addr).add j) = some u) := World.news_of_block (cs := #[.int .i64 ((i : Int) % 256), .slice (some ⟨o0, 0, none⟩) 1 1, .slice none 0 0]) (t := 55) (fr := (0, 0)) (heap_alloc_new wn _)
        have h1c : ∀ u ∈ ([.int .i64 ((i : Int) % 256), .slice (some ⟨o0, 0, none⟩) 1 1, .slice none 0 0] : List Value), u.oneCell' = true := by intro u hu; simp at hu; rcases hu with rfl | rfl | rfl <;> rfl
        have HM : Hid (wc.heap.size ≤ wn.heap.size) := hbn.size
        have HI : Hid (LineSt w.heap.size (i + 1) i (.slice (some ⟨g, 0, none⟩) (i + 1) cap) vi ob wn) := hSx
        have HO : Hid (wn.heap[o0]? = some (.cells ((lnO i).flatMap cO).toArray 51)) := hoc
        have eX : [.int .i64 ((i : Int) % 256), .slice (some ⟨o0, 0, none⟩) 1 1, .slice none 0 0] = lnX o0 i := by
          unfold lnX lnO
          rw [if_pos (by omega), Int.natCast_emod]; rfl
        have EX : Hid ([.int .i64 ((i : Int) % 256), .slice (some ⟨o0, 0, none⟩) 1 1, .slice none 0 0] = lnX o0 i) := eX
        clear hSx hoc eX hS1 hS ho0 hxb zn hbn hat hzb hgl hz1 hz0 hbs hbr o1
        refine wp_region_X (fun w' => w'.cell? ⟨w.heap.size + 1 + 1, 1, none⟩ = some (.slice (some ⟨w.heap.size + 1, 0, none⟩) 1 1) ∧ w'.cell? ⟨w.heap.size + 1, 1, none⟩ = some vi ∧ w'.cell? ⟨xb, 0, none⟩ = some (.int .i64 ((i : Int) % 256)) ∧ w'.cell? ⟨xb, 1, none⟩ = some (.slice (some ⟨o0, 0, none⟩) 1 1) ∧ w'.cell? ⟨xb, 2, none⟩ = some (.slice none 0 0)) 12 (by kernel_rfl) ⟨f1, b1, x0, x1, x2⟩ (fun hHeld => ?_)
        refine wpXn 0 rfl (v := ?_) (by kernel_rfl) (fun _ _ _ h => h) rfl ?_ hHeld ?_
        rotate_left
        · intro w' hSw
          go_simp <;> with_reducible rfl
        simp only [Act.put, List.setIfInBounds_toArray, List.set_cons_zero, List.set_cons_succ]
        refine wpXn 1 rfl (v := ?_) (by kernel_rfl) (fun _ _ _ h => h) rfl ?_ hHeld ?_
        rotate_left
        · intro w' hSw
          go_simp <;> with_reducible rfl
        simp only [Act.put, List.setIfInBounds_toArray, List.set_cons_zero, List.set_cons_succ]
        refine wpXn 2 rfl (v := ?_) (by kernel_rfl) (fun _ _ _ h => h) rfl ?_ hHeld ?_
        rotate_left
        · intro w' hSw
          go_simp <;> with_reducible rfl
        simp only [Act.put, List.setIfInBounds_toArray, List.set_cons_zero, List.set_cons_succ]
        refine wpXn 3 rfl (v := ?_) (by kernel_rfl) (fun _ _ _ h => h) rfl ?_ hHeld ?_
        rotate_left
        · intro w' hSw
          go_simp <;> with_reducible rfl
        simp only [Act.put, List.setIfInBounds_toArray, List.set_cons_zero, List.set_cons_succ]
        refine wpXn 4 rfl (v := ?_) (by kernel_rfl) (fun _ _ _ h => h) rfl ?_ hHeld ?_
        rotate_left
        · intro w' hSw
          go_simp <;> with_reducible rfl
        simp only [Act.put, List.setIfInBounds_toArray, List.set_cons_zero, List.set_cons_succ]
        refine wpXn 5 rfl (v := ?_) (by kernel_rfl) (fun _ _ _ h => h) rfl ?_ hHeld ?_
        rotate_left
        · intro w' hSw
          go_simp <;> with_reducible rfl
        simp only [Act.put, List.setIfInBounds_toArray, List.set_cons_zero, List.set_cons_succ]
        refine wpXn 6 rfl (v := ?_) (by kernel_rfl) (fun _ _ _ h => h) rfl ?_ hHeld ?_
        rotate_left
        · intro w' hSw
          go_simp <;> with_reducible rfl
        simp only [Act.put, List.setIfInBounds_toArray, List.set_cons_zero, List.set_cons_succ]
        refine wpXn 7 rfl (v := ?_) (by kernel_rfl) (fun _ _ _ h => h) rfl ?_ hHeld ?_
        rotate_left
        · intro w' hSw
          go_simp <;> with_reducible rfl
        simp only [Act.put, List.setIfInBounds_toArray, List.set_cons_zero, List.set_cons_succ]
        refine wpXs 8 rfl (by kernel_rfl) (fun K hK => ?_)
        go_simp
        refine hK.out _ _ ⟨cF, cB, cX0, cX1, cX2⟩ (fun hHeld => ?_)
        clear hK K
        refine wpXs 9 rfl (by kernel_rfl) (fun K hK => ?_)
        refine step_append_lies _ (by rfl) _ _ _ (by rfl) (w.heap.size + 1 + 1 + 1) 55 i30 _ 3 56 Try.underlying41 hi30 hz30 hz301 hz302 rfl (by omega) vi i (lnXs ob i) (by rfl) oA ⟨wn.heap.size, 0, none⟩ 1 1 [.int .i64 ((i : Int) % 256), .slice (some ⟨o0, 0, none⟩) 1 1, .slice none 0 0] (by rfl) (by rfl) HN.out h1c (by omega) (by unfold maxLen; omega) (by omega) (by simp; omega) (wn.heap.size + 1) (by simp) ?_
        intro gg cap2 wb2 hown1 hgrow hat2 hlt2
        have b1' := (hgrow.cell_far _ lB' nB).trans cB
        have zb' := (hgrow.frozen_far _ lB' nB).trans cZ
        have f1' := (hgrow.cell_far _ lF' nF).trans cF
        have x0' := (hgrow.cell_far _ lX' nX).trans cX0
        have x1' := (hgrow.cell_far _ lX' nX).trans cX1
        have x2' := (hgrow.cell_far _ lX' nX).trans cX2
        refine hK.out _ _ ⟨f1', b1', x0', x1', x2'⟩ (fun hHeld => ?_)
        clear hK K
        simp only [Act.put, List.setIfInBounds_toArray, List.set_cons_zero, List.set_cons_succ]
        refine wpXs 10 rfl (by kernel_rfl) (fun K hK => ?_)
        go_simp
        refine hK.out _ _ ⟨f1', b1', x0', x1', x2'⟩ (fun hHeld => ?_)
        clear hK K
        refine wpXn 11 rfl (v := ?_) (by kernel_rfl) (fun _ _ _ h => h) rfl ?_ hHeld ?_
        rotate_left
        · intro w' hSw
          go_simp <;> with_reducible rfl
        simp only [Act.put, List.setIfInBounds_toArray, List.set_cons_zero, List.set_cons_succ]
        refine wpXl 12 rfl (by kernel_rfl) rfl (by kernel_rfl) (fun K hK => ?_)
        go_simp
        refine hK.out _ _ ?_
        clear hK K
        go_wp2
        go_roundw
        case rel =>
          have hS3 := HI.out.instr lO.1 lO.2 nV nO nOb HO.out (g := gg) (cap := cap2) (by rw [← EX.out]; exact hown1) (((Below.refl _ _).alloc (Nat.le_refl _) _).drew) hgrow (hat2.imp id fun h => by omega)
          have hb3 : Below (w.heap.size + 1) (w.alloc (.cells #[.slice none 0 0, .slice none 0 0] 30)) (wb2.setCell ⟨w.heap.size + 1, 1, none⟩ (.slice (some ⟨gg, 0, none⟩) (i + 1) cap2)) := Below.setCell (((hbn'.alloc (by omega) _).drew).grown hgrow (by simp; omega) (fun h hh => by have := own_base own hh; omega)) (by simp) _
          exact ⟨i + 1, _, _, _, by omega, by go_num, hS3, hb3⟩
        case measure => simp [intOf]; omega

    · have hin : i = n := by omega
      subst hin
      have c20 : wr.cell? ⟨w.heap.size + 1 + 1, 0, none⟩ = some vv := hS.r2.cell (i := 0) (by omega)
      have c21 : wr.cell? ⟨w.heap.size + 1 + 1, 1, none⟩ = some (.slice (some ⟨w.heap.size + 1, 0, none⟩) 1 1) := hS.r2.cell (i := 1) (by omega)
      have c00 : wr.cell? ⟨w.heap.size, 0, none⟩ = some (.slice none 0 0) := (hbr.cell (by simp)).trans (by go_simp)
      have c01 : wr.cell? ⟨w.heap.size, 1, none⟩ = some (.slice none 0 0) := (hbr.cell (by simp)).trans (by go_simp)
      have z00 : wr.frozen? ⟨w.heap.size, 0, none⟩ = false := (hbr.frozen (by simp)).trans (by go_simp)
      have z01 : wr.frozen? ⟨w.heap.size, 1, none⟩ = false := (hbr.frozen (by simp)).trans (by go_simp)
      obtain ⟨avv, cvv, rfl⟩ := own_formL hS.ov
      have hl0 := hS.r1.lt
      have hbX : Below w.heap.size w ((wr.setCell ⟨w.heap.size, 0, none⟩ (.slice avv i cvv)).setCell ⟨w.heap.size, 1, none⟩ (.slice (some ⟨w.heap.size + 1, 0, none⟩) 1 1)) := Below.setCell (Below.setCell (((Below.refl _ _).alloc (Nat.le_refl _) _).trans (hbr.mono (by omega))) (by simp) _) (by simp) _
      have hSX := hS.after w.heap.size (by omega) (by omega) (w' := (wr.setCell ⟨w.heap.size, 0, none⟩ (.slice avv i cvv)).setCell ⟨w.heap.size, 1, none⟩ (.slice (some ⟨w.heap.size + 1, 0, none⟩) 1 1)) (by simp) (fun b hb => by rw [Below.heap_setCell _ _ _ _ (by simpa using hb), Below.heap_setCell _ _ _ _ (by simpa using hb)])
      obtain ⟨WX, hWX⟩ : ∃ WX, WX = (wr.setCell ⟨w.heap.size, 0, none⟩ (.slice avv i cvv)).setCell ⟨w.heap.size, 1, none⟩ (.slice (some ⟨w.heap.size + 1, 0, none⟩) 1 1) := ⟨_, rfl⟩
      have d0 : WX.cell? ⟨w.heap.size, 0, none⟩ = some (.slice avv i cvv) := by rw [hWX]; go_simp
      have d1 : WX.cell? ⟨w.heap.size, 1, none⟩ = some (.slice (some ⟨w.heap.size + 1, 0, none⟩) 1 1) := by rw [hWX]; go_simp
      rw [← hWX] at hbX hSX
      have HW : Hid (WX = (wr.setCell ⟨w.heap.size, 0, none⟩ (.slice avv i cvv)).setCell ⟨w.heap.size, 1, none⟩ (.slice (some ⟨w.heap.size + 1, 0, none⟩) 1 1)) := hWX
      clear hWX
      go_wp2
      rw [← HW.out]
      exact bodyPost_ret (v := .agg #[.slice avv i cvv, .slice (some ⟨w.heap.size + 1, 0, none⟩) 1 1]) (by simp [results, Try.results15, go_sem, d0, d1]) rfl ⟨_, vi, ob, rfl, hSX, hbX⟩
end Go.Proofs.Ytdlnofjmonpmgaa
namespace Go.Proofs.Ytdlnofjmonpmgaa
open Go.RowKit
set_option linter.unusedVariables false

theorem own_rowL {w : World} {base e k n : Nat} {v : Value} {xs : List Value} (h : w.ownsRow base e k v n xs) (hn : 0 < n) : ∃ g cap, v = .slice (some ⟨g, 0, none⟩) n cap ∧ base ≤ g ∧ g < w.heap.size ∧ (∀ j (hj : j < xs.length), w.cell? ⟨g, j, none⟩ = some xs[j]) ∧ ∀ j, w.frozen? ⟨g, j, none⟩ = false := by
  obtain ⟨hlen, h⟩ := h
  rcases h with ⟨rfl, rfl⟩ | ⟨g, cap, cur, rfl, hb, hg, hnc, hc, hcs, htake⟩
  · omega
  · refine ⟨g, cap, rfl, hb, ?_, fun j hj => ?_, fun j => by simp [World.frozen?, hg]⟩
    · rcases Nat.lt_or_ge g w.heap.size with h1 | h1
      · exact h1
      · rw [Array.getElem?_eq_none h1] at hg; cases hg
    · have h1 : xs[j]? = some xs[j] := List.getElem?_eq_getElem hj
      obtain ⟨v, hv'⟩ : ∃ v, xs[j] = v := ⟨_, rfl⟩
      rw [hv'] at h1 ⊢
      rw [← htake, List.getElem?_take, if_pos (by omega)] at h1
      simp only [World.cell?, hg]
      simpa using h1
theorem blk_cellL {w : World} {b : Nat} {cs : Array Value} {t : Nat} (h : w.heap[b]? = some (.cells cs t)) (j : Nat) (hj : j < cs.size) : w.cell? ⟨b, j, none⟩ = some cs[j] := by
  simp [World.cell?, h, hj]
theorem blk_frozenL {w : World} {b : Nat} {cs : Array Value} {t : Nat} (h : w.heap[b]? = some (.cells cs t)) (j : Nat) : w.frozen? ⟨b, j, none⟩ = false := by
  simp [World.frozen?, h]

/-- What a line of two values has where. -/
structure L2 (M gv cv gi ci o0 o1 : Nat) (w : World) : Prop where
  lB : M + 1 < w.heap.size
  lv : M + 1 + 1 < gv ∧ gv < w.heap.size
  li : M + 1 + 1 < gi ∧ gi < w.heap.size
  l0 : M + 1 + 1 < o0 ∧ o0 < w.heap.size
  l1 : M + 1 + 1 < o1 ∧ o1 < w.heap.size
  d : gv ≠ gi ∧ gv ≠ o0 ∧ gv ≠ o1 ∧ gi ≠ o0 ∧ gi ≠ o1 ∧ o0 ≠ o1
  v0 : w.cell? ⟨gv, 0, none⟩ = some (.int .i64 0)
  v1 : w.cell? ⟨gv, 1, none⟩ = some (.int .i64 0)
  b0 : w.cell? ⟨M + 1, 0, none⟩ = some (.slice none 0 0)
  b1 : w.cell? ⟨M + 1, 1, none⟩ = some (.slice (some ⟨gi, 0, none⟩) 2 ci)
  b2 : w.cell? ⟨M + 1, 2, none⟩ = some (.slice none 0 0)
  i0 : w.cell? ⟨gi, 0, none⟩ = some (.int .i64 0)
  i1 : w.cell? ⟨gi, 1, none⟩ = some (.slice (some ⟨o0, 0, none⟩) 1 1)
  i2 : w.cell? ⟨gi, 2, none⟩ = some (.slice none 0 0)
  i3 : w.cell? ⟨gi, 3, none⟩ = some (.int .i64 1)
  i4 : w.cell? ⟨gi, 4, none⟩ = some (.slice (some ⟨o1, 0, none⟩) 2 2)
  i5 : w.cell? ⟨gi, 5, none⟩ = some (.slice none 0 0)
  p0 : w.cell? ⟨o0, 0, none⟩ = some (.int .i64 2)
  p1 : w.cell? ⟨o0, 1, none⟩ = some (.int .i64 0)
  p2 : w.cell? ⟨o0, 2, none⟩ = some (.bool true)
  p3 : w.cell? ⟨o0, 3, none⟩ = some (.int .i64 1)
  p4 : w.cell? ⟨o0, 4, none⟩ = some (.int .i64 0)
  q0 : w.cell? ⟨o1, 0, none⟩ = some (.int .i64 1)
  q1 : w.cell? ⟨o1, 1, none⟩ = some (.int .i64 0)
  q2 : w.cell? ⟨o1, 2, none⟩ = some (.bool false)
  q3 : w.cell? ⟨o1, 3, none⟩ = some (.int .i64 1)
  q4 : w.cell? ⟨o1, 4, none⟩ = some (.int .i64 0)
  q5 : w.cell? ⟨o1, 5, none⟩ = some (.int .i64 2)
  q6 : w.cell? ⟨o1, 6, none⟩ = some (.int .i64 1)
  q7 : w.cell? ⟨o1, 7, none⟩ = some (.bool true)
  q8 : w.cell? ⟨o1, 8, none⟩ = some (.int .i64 1)
  q9 : w.cell? ⟨o1, 9, none⟩ = some (.int .i64 0)
  zv : ∀ j, w.frozen? ⟨gv, j, none⟩ = false
  zi : ∀ j, w.frozen? ⟨gi, j, none⟩ = false
  z1 : ∀ j, w.frozen? ⟨o1, j, none⟩ = false
  zB : ∀ j, w.frozen? ⟨M + 1, j, none⟩ = false

theorem line2_any (w : World) :
    Calls Try.prog 15 #[.int .i64 2] w fun e w' => ∃ gv cv gi ci o0 o1, e = .returned (.agg #[.slice (some ⟨gv, 0, none⟩) 2 cv, .slice (some ⟨w.heap.size + 1, 0, none⟩) 1 1]) ∧ L2 w.heap.size gv cv gi ci o0 o1 w' ∧ Below w.heap.size w w' := by
  refine (line_any 2 w (by omega) (by omega)).mono ?_
  rintro e w' ⟨vv, vi, ob, rfl, hS, hb⟩
  obtain ⟨gv, cv, rfl, hgv, hgv', cv', zv⟩ := own_rowL hS.ov (by omega)
  obtain ⟨gi, ci, rfl, hgi, hgi', ci', zi⟩ := own_rowL hS.oi (by omega)
  have O0 := hS.obs 0 (by omega)
  have O1 := hS.obs 1 (by omega)
  have dd : gv ≠ gi := fun e => hS.ap gv rfl (by simp [Value.ownBlock, e])
  have e01 : ob 0 ≠ ob 1 := fun e => absurd (hS.inj 0 1 (by omega) (by omega) e) (by omega)
  have n0 := O0.nv
  have n1 := O1.nv
  have m0 := O0.ni
  have m1 := O1.ni
  simp [Value.ownBlock] at n0 n1 m0 m1
  have b0 := O0.base
  have b1 := O1.base
  have t0 := O0.lt
  have t1 := O1.lt
  have k0 := O0.blk
  have k1 := O1.blk
  refine ⟨gv, cv, gi, ci, ob 0, ob 1, rfl, ⟨hS.r1.lt, ⟨by omega, hgv'⟩, ⟨by omega, hgi'⟩, ⟨by omega, t0⟩, ⟨by omega, t1⟩, ⟨dd, n0, n1, m0, m1, e01⟩, cv' 0 (by decide), cv' 1 (by decide), hS.r1.cell (i := 0) (by omega), hS.r1.cell (i := 1) (by omega), hS.r1.cell (i := 2) (by omega), ?_, ?_, ?_, ?_, ?_, ?_, ?_, ?_, ?_, ?_, ?_, ?_, ?_, ?_, ?_, ?_, ?_, ?_, ?_, ?_, ?_, zv, zi, fun j => blk_frozenL k1 j, hS.r1.frozen⟩, hb⟩
  · exact ci' 0 (show _ < 6 by omega)
  · exact ci' 1 (show _ < 6 by omega)
  · exact ci' 2 (show _ < 6 by omega)
  · exact ci' 3 (show _ < 6 by omega)
  · exact ci' 4 (show _ < 6 by omega)
  · exact ci' 5 (show _ < 6 by omega)
  · exact blk_cellL k0 0 (by decide)
  · exact blk_cellL k0 1 (by decide)
  · exact blk_cellL k0 2 (by decide)
  · exact blk_cellL k0 3 (by decide)
  · exact blk_cellL k0 4 (by decide)
  · exact blk_cellL k1 0 (by decide)
  · exact blk_cellL k1 1 (by decide)
  · exact blk_cellL k1 2 (by decide)
  · exact blk_cellL k1 3 (by decide)
  · exact blk_cellL k1 4 (by decide)
  · exact blk_cellL k1 5 (by decide)
  · exact blk_cellL k1 6 (by decide)
  · exact blk_cellL k1 7 (by decide)
  · exact blk_cellL k1 8 (by decide)
  · exact blk_cellL k1 9 (by decide)

theorem L2.below {M gv cv gi ci o0 o1 : Nat} {w w' : World} (h : L2 M gv cv gi ci o0 o1 w) (hb : Below w.heap.size w w') : L2 M gv cv gi ci o0 o1 w' := by
  have kv : ∀ j, w'.cell? ⟨gv, j, none⟩ = w.cell? ⟨gv, j, none⟩ := fun j => hb.cell h.lv.2
  have kB : ∀ j, w'.cell? ⟨M + 1, j, none⟩ = w.cell? ⟨M + 1, j, none⟩ := fun j => hb.cell h.lB
  have ki : ∀ j, w'.cell? ⟨gi, j, none⟩ = w.cell? ⟨gi, j, none⟩ := fun j => hb.cell h.li.2
  have k0 : ∀ j, w'.cell? ⟨o0, j, none⟩ = w.cell? ⟨o0, j, none⟩ := fun j => hb.cell h.l0.2
  have k1 : ∀ j, w'.cell? ⟨o1, j, none⟩ = w.cell? ⟨o1, j, none⟩ := fun j => hb.cell h.l1.2
  have z := hb.size
  exact ⟨Nat.lt_of_lt_of_le h.lB z, ⟨h.lv.1, Nat.lt_of_lt_of_le h.lv.2 z⟩, ⟨h.li.1, Nat.lt_of_lt_of_le h.li.2 z⟩, ⟨h.l0.1, Nat.lt_of_lt_of_le h.l0.2 z⟩, ⟨h.l1.1, Nat.lt_of_lt_of_le h.l1.2 z⟩, h.d, (kv 0).trans h.v0, (kv 1).trans h.v1, (kB 0).trans h.b0, (kB 1).trans h.b1, (kB 2).trans h.b2, (ki 0).trans h.i0, (ki 1).trans h.i1, (ki 2).trans h.i2, (ki 3).trans h.i3, (ki 4).trans h.i4, (ki 5).trans h.i5, (k0 0).trans h.p0, (k0 1).trans h.p1, (k0 2).trans h.p2, (k0 3).trans h.p3, (k0 4).trans h.p4, (k1 0).trans h.q0, (k1 1).trans h.q1, (k1 2).trans h.q2, (k1 3).trans h.q3, (k1 4).trans h.q4, (k1 5).trans h.q5, (k1 6).trans h.q6, (k1 7).trans h.q7, (k1 8).trans h.q8, (k1 9).trans h.q9, fun j => (hb.frozen h.lv.2).trans (h.zv j), fun j => (hb.frozen h.li.2).trans (h.zi j), fun j => (hb.frozen h.l1.2).trans (h.z1 j), fun j => (hb.frozen h.lB).trans (h.zB j)⟩

theorem big_any (w : World) :
    Calls Try.prog 14 #[] w fun e w' => e = .returned (.agg #[.int .i64 10, .int .i64 10]) ∧ Below w.heap.size w w' := by
  have pm : pickedOf 8 9 = 8 := by decide
  go_enter Try.func14, Try.ntmps14
  go_wp2_with fail
  refine (machine_any 8 8 _ (by omega) (by omega) (by omega) (by omega)).mono ?_
  rintro e w1 ⟨rfl, hb1⟩
  rw [pm]
  have c0 : w1.cell? ⟨w.heap.size, 0, none⟩ = some (.int .i64 0) := (hb1.cell (by simp)).trans (by go_simp)
  have c1 : w1.cell? ⟨w.heap.size, 1, none⟩ = some (.int .i64 0) := (hb1.cell (by simp)).trans (by go_simp)
  have z0 : w1.frozen? ⟨w.heap.size, 0, none⟩ = false := (hb1.frozen (by simp)).trans (by go_simp)
  have z1 : w1.frozen? ⟨w.heap.size, 1, none⟩ = false := (hb1.frozen (by simp)).trans (by go_simp)
  have hbw : Below w.heap.size w w1 := ((Below.refl _ _).alloc (Nat.le_refl _) _).trans (hb1.mono (by simp))
  obtain ⟨W, hW⟩ : ∃ W, W = (w1.setCell ⟨w.heap.size, 0, none⟩ (.int .i64 10)).setCell ⟨w.heap.size, 1, none⟩ (.int .i64 10) := ⟨_, rfl⟩
  have hbW : Below w.heap.size w W := by rw [hW]; exact (hbw.setCell (by simp) _).setCell (by simp) _
  have d0 : W.cell? ⟨w.heap.size, 0, none⟩ = some (.int .i64 10) := by rw [hW]; go_simp
  have d1 : W.cell? ⟨w.heap.size, 1, none⟩ = some (.int .i64 10) := by rw [hW]; go_simp
  have HW : Hid (W = (w1.setCell ⟨w.heap.size, 0, none⟩ (.int .i64 10)).setCell ⟨w.heap.size, 1, none⟩ (.int .i64 10)) := hW
  clear hW
  go_wp2
  rw [← HW.out]
  exact bodyPost_ret (v := .agg #[.int .i64 10, .int .i64 10]) (by simp [results, Try.results14, go_sem, d0, d1]) rfl ⟨rfl, hbW⟩
end Go.Proofs.Ytdlnofjmonpmgaa
