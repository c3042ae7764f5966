/-
  The contract of 'workOf': what is left, and how many are from where.
-/
import Derived.Test.YtdlglinbjkaokabOrB
import Derived.Test.YtdlglinbjkaokabOrP2
import Derived.Deep.DeepCutAuto
import Derived.Deep.CutBlock
import Derived.Carry
namespace Go.Proofs.Ytdlglinbjkaokab
open Go.RowKit
set_option linter.unusedVariables false

abbrev nilV : Value := .slice none 0 0
/-- While the maps are filled. -/
structure WkI (w1 : World) (bl br : Nat) (l : List Mv) (w : World) : Prop where
  kq : Kq bl bl br nilV nilV w1 w
  ml : MapF w bl l.length (leftV (leftF l))
  mr : ∃ fR, MapF w br l.length fR ∧ ∀ p, (fR p).getD (.int .i64 0) = .int .i64 (rdF l p)
theorem zeroPl (w : World) : (zeroValue 26).run Try.prog w = .ok (.agg #[.int .i64 0, .int .i64 0, .int .i64 0]) w := by kernel_rfl
theorem zeroI (w : World) : (zeroValue 3).run Try.prog w = .ok (.int .i64 0) w := by kernel_rfl
theorem wk_start (w : World) (a1 : Obj) (cs2 : Array Value) (cs : Array Value) (T : TypeId) (f f2 : Nat → Value) (hc2 : ∀ i, i < cs2.size → cs2[i]? = some (f2 i)) (hc : ∀ i, i < cs.size → cs[i]? = some (f i)) (w1 : World) (h : w1 = ((((w.alloc a1).alloc (.cells cs2 T)).alloc (.map #[] 0)).alloc (.map #[] 0)).alloc (.cells cs T)) :
    MapF w1 (w.heap.size + 1 + 1) 0 (fun _ => none) ∧ MapF w1 (w.heap.size + 1 + 1 + 1) 0 (fun _ => none) ∧ w1.rowIs (w.heap.size + 1 + 1 + 1 + 1) T cs.size f ∧ Below w.heap.size w w1 ∧ w1.heap.size = w.heap.size + 1 + 1 + 1 + 1 + 1 ∧ w1.rowIs (w.heap.size + 1) T cs2.size f2 := by
  have z1 : (w.alloc a1).heap.size = w.heap.size + 1 := by simp
  have z2 : ((w.alloc a1).alloc (.cells cs2 T)).heap.size = w.heap.size + 1 + 1 := by simp
  have z3 : (((w.alloc a1).alloc (.cells cs2 T)).alloc (.map #[] 0)).heap.size = w.heap.size + 1 + 1 + 1 := by simp
  have z4 : ((((w.alloc a1).alloc (.cells cs2 T)).alloc (.map #[] 0)).alloc (.map #[] 0)).heap.size = w.heap.size + 1 + 1 + 1 + 1 := by simp
  have m1 := MapF.made ((w.alloc a1).alloc (.cells cs2 T))
  have m2 := MapF.made (((w.alloc a1).alloc (.cells cs2 T)).alloc (.map #[] 0))
  rw [z2] at m1
  rw [z3] at m2
  have b4 := (Below.refl ((((w.alloc a1).alloc (.cells cs2 T)).alloc (.map #[] 0)).alloc (.map #[] 0)).heap.size ((((w.alloc a1).alloc (.cells cs2 T)).alloc (.map #[] 0)).alloc (.map #[] 0))).alloc (Nat.le_refl _) (.cells cs T)
  have b3 := ((Below.refl (((w.alloc a1).alloc (.cells cs2 T)).alloc (.map #[] 0)).heap.size (((w.alloc a1).alloc (.cells cs2 T)).alloc (.map #[] 0))).alloc (Nat.le_refl _) (.map #[] 0))
  rw [z4] at b4
  rw [z3] at b3
  have r := World.rowIs_alloc ((((w.alloc a1).alloc (.cells cs2 T)).alloc (.map #[] 0)).alloc (.map #[] 0)) cs T f hc
  rw [z4] at r
  subst h
  have q := ((((World.rowIs_alloc (w.alloc a1) cs2 T f2 hc2).alloc (.map #[] 0)).alloc (.map #[] 0)).alloc (.cells cs T))
  rw [z1] at q
  refine ⟨?_, ?_, r, ?_, by simp, q⟩
  · exact (m1.below b3 (by omega)).below b4 (by omega)
  · exact m2.below b4 (by omega)
  · exact ((((Below.refl _ _).alloc (Nat.le_refl _) _).alloc (by simp) _).alloc (by simp; omega) _).alloc (by simp; omega) _ |>.alloc (by simp; omega) _
theorem WkI.same {w1 : World} {bl br : Nat} {l l' : List Mv} {m : Mv} {w : World} (h : WkI w1 bl br l w) (e : l' = l ++ [m]) (hm : m.src = m.dst) (_ : True) {o : Obj} : WkI w1 bl br l' (w.alloc o) := by
  subst e
  have hb := (Below.refl w.heap.size w).alloc (Nat.le_refl _) o
  obtain ⟨fR, hR, hR2⟩ := h.mr
  refine ⟨h.kq.trans (Kq.of_below hb), ?_, fR, ((hR.below hb hR.lt).mono (by simp)), ?_⟩
  · have e : leftF (l ++ [m]) = leftF l := by rw [leftF_snoc]; exact if_pos hm
    rw [e]
    exact (h.ml.below hb h.ml.lt).mono (by simp)
  · have e : rdF (l ++ [m]) = rdF l := by rw [rdF_snoc]; exact if_pos hm
    rw [e]
    exact hR2
theorem Kq.of_turned {X bl br b : Nat} {vd : Value} {w w' : World} (h : w.mapTurned w' b) (hb : b = bl ∨ b = br) : Kq X bl br vd vd w w' := by
  obtain ⟨h1, h2, h3, h4⟩ := turned_rest h
  refine ⟨h1, h2, h3, by omega, fun q hq _ n1 n2 _ => turned_block h fun e => ?_, fun _ h => Or.inl h⟩
  rcases hb with e2 | e2
  · exact n1 (e.trans e2)
  · exact n2 (e.trans e2)
theorem leftV_upd (f : Pl → Option Pl) (p q : Pl) : leftV (updP f p (some q)) = updP (leftV f) p (some (plVal q)) := by
  funext x
  unfold leftV updP
  split <;> rfl
theorem leftV_del (f : Pl → Option Pl) (p : Pl) : leftV (updP f p none) = updP (leftV f) p none := by
  funext x
  unfold leftV updP
  split <;> rfl
theorem rd_upd {fR : Pl → Option Value} {rd : Pl → Int} (h : ∀ p, (fR p).getD (.int .i64 0) = .int .i64 (rd p)) (q : Pl) (v : Int) : ∀ p, (updP fR q (some (.int .i64 v)) p).getD (.int .i64 0) = .int .i64 (updP rd q v p) := fun p => by
  unfold updP
  split
  · rfl
  · exact h p
theorem WkI.next {w1 : World} {bl br : Nat} {l l' : List Mv} {m : Mv} {w wa w2 w3 w4 : World} {fR : Pl → Option Value} (h : WkI w1 bl br l w) (e : l' = l ++ [m]) (hm : m.src ≠ m.dst) (hne : bl ≠ br) (hb : Below w.heap.size w wa) (t1 : wa.mapTurned w2 bl) (m1 : MapF w2 bl (l.length + 1) (updP (leftV (leftF l)) m.dst (some (plVal m.src)))) (t2 : w2.drew.mapTurned w3 br) (t3 : w3.mapTurned w4 br) (m4 : MapF w4 br (l.length + 1) (updP fR m.src (some (.int .i64 (rdF l m.src + 1))))) (hfR : ∀ p, (fR p).getD (.int .i64 0) = .int .i64 (rdF l p)) : WkI w1 bl br l' w4 := by
  subst e
  have d2 : Below w2.heap.size w2 w2.drew := (Below.refl _ _).drew
  refine ⟨((((h.kq.trans (Kq.of_below hb)).trans (Kq.of_turned t1 (Or.inl rfl))).trans (Kq.of_below d2)).trans (Kq.of_turned t2 (Or.inr rfl))).trans (Kq.of_turned t3 (Or.inr rfl)), ?_, _, by simpa using m4, ?_⟩
  · have e : leftF (l ++ [m]) = updP (leftF l) m.dst (some m.src) := by rw [leftF_snoc]; exact if_neg hm
    rw [e, leftV_upd]
    have m2 := m1.of_block (w' := w4) ((turned_block t3 hne).trans ((turned_block t2 hne).trans (d2.block _ m1.lt)))
    simpa using m2
  · have e : rdF (l ++ [m]) = updP (rdF l) m.src (rdF l m.src + 1) := by rw [rdF_snoc]; exact if_neg hm
    rw [e]
    exact rd_upd hfR _ _
theorem rdF_bd (l : List Mv) (p : Pl) : 0 ≤ rdF l p ∧ rdF l p ≤ (l.length : Int) := by
  unfold rdF
  rw [rdF_go, Int.zero_add]
  have := List.length_filter_le (fun m : Mv => decide (m.src = p ∧ m.src ≠ m.dst)) l
  omega
def wk0 (r0 r1 fr : Int) (bc bl br : Nat) (i : Nat) : Value := woF r0 r1 fr bc bl br nilV i
set_option maxHeartbeats 8000000 in
theorem workOf_any (r0 r1 fr : Int) (vl : Value) (l : List Mv) (bc : Nat) (w : World) (hl : SlOf w 6 RMv vl l) (hlen : l.length ≤ 5000) (hwf : ∀ m ∈ l, PlWf m.src ∧ PlWf m.dst) (hbc : bc < w.heap.size) :
    Calls Try.prog 11 #[.agg #[.int .i64 r0, .int .i64 r1], vl, .map (some bc), .int .i64 fr] w fun e w' => ∃ bl br, e = .returned (.agg #[.int .i64 r0, .int .i64 r1, .int .i64 fr, .map (some bc), .map (some bl), .map (some br), .slice none 0 0]) ∧ Below w.heap.size w w' ∧ bc < bl ∧ bl < br ∧ br < w'.heap.size ∧ MapF w' bl l.length (leftV (leftF l)) ∧ ∃ fR, MapF w' br l.length fR ∧ ∀ p, (fR p).getD (.int .i64 0) = .int .i64 (rdF l p) := by
  obtain ⟨a, c, rfl, -⟩ := hl.out
  obtain ⟨n, hn⟩ : ∃ n, l.length = n := ⟨_, rfl⟩
  rw [hn] at hl ⊢
  have HL : Hid (SlOf w 6 RMv (.slice a n c) l) := hl
  have HN : Hid (l.length = n) := hn
  have hn5 : n ≤ 5000 := by omega
  clear hl hn hlen
  have hmm := @run_makeMap Try.prog
  go_enter Try.func11, Try.ntmps11
  go_upto_region 3 with fail
  --CUT1
  obtain ⟨w1, hw1⟩ : ∃ w1, w1 = ((((w.alloc (.cells #[.int .i64 r0, .int .i64 r1] 35)).alloc (.cells #[.int .i64 0, .int .i64 0, .int .i64 0, .map none, .map none, .map none, .slice none 0 0] 45)).alloc (.map #[] 0)).alloc (.map #[] 0)).alloc (.cells #[.int .i64 r0, .int .i64 r1, .int .i64 fr, .map (some bc), .map (some (w.heap.size + 1 + 1)), .map (some (w.heap.size + 1 + 1 + 1)), .slice none 0 0] 45) := ⟨_, rfl⟩
  obtain ⟨s1, s2, s3, s4, s5, s6⟩ := wk_start w _ _ _ _ (woF r0 r1 fr bc (w.heap.size + 1 + 1) (w.heap.size + 1 + 1 + 1) nilV) (fun i => if i < 3 then .int .i64 0 else if i < 6 then .map none else nilV) (fun i hi => by
    have : i = 0 ∨ i = 1 ∨ i = 2 ∨ i = 3 ∨ i = 4 ∨ i = 5 ∨ i = 6 := by simp at hi; omega
    rcases this with rfl | rfl | rfl | rfl | rfl | rfl | rfl <;> rfl) (fun i hi => by
    have : i = 0 ∨ i = 1 ∨ i = 2 ∨ i = 3 ∨ i = 4 ∨ i = 5 ∨ i = 6 := by simp at hi; omega
    rcases this with rfl | rfl | rfl | rfl | rfl | rfl | rfl <;> rfl) w1 hw1
  rw [← hw1]
  clear hw1
  obtain ⟨bl, hbl⟩ : ∃ bl, w.heap.size + 1 + 1 = bl := ⟨_, rfl⟩
  obtain ⟨R, hR⟩ : ∃ R, w.heap.size + 1 = R := ⟨_, rfl⟩
  rw [hbl] at s1 s2 s3 s5 ⊢
  obtain ⟨br, hbr⟩ : ∃ br, bl + 1 = br := ⟨_, rfl⟩
  rw [hbr] at s2 s3 s5 ⊢
  obtain ⟨Zw, hZw⟩ : ∃ Zw, br + 1 = Zw := ⟨_, rfl⟩
  rw [hZw] at s3 s5 ⊢
  rw [hR] at s6 ⊢
  have HR : Hid (w1.rowIs R 45 7 (fun i => if i < 3 then .int .i64 0 else if i < 6 then .map none else nilV)) := s6
  have HSZ : Hid (w.heap.size + 1 = R ∧ w.heap.size + 1 + 1 = bl ∧ bl + 1 = br ∧ br + 1 = Zw) := ⟨hR, hbl, hbr, hZw⟩
  have l0 : w.heap.size < bl := by omega
  have l1 : bl < br := by omega
  have l2 : br < Zw := by omega
  have l3 : Zw < w1.heap.size := by omega
  have l4 : R < bl := by omega
  have HB : Hid (Below w.heap.size w w1) := s4
  have HBX : Hid (w1.rowIs Zw 45 7 (woF r0 r1 fr bc bl br nilV)) := s3
  have HS0 : Hid (WkI w1 bl br [] w1) := ⟨Kq.refl _ _ _ _ _, s1.mono (Nat.le_refl _), fun _ => none, s2.mono (Nat.le_refl _), fun p => rfl⟩
  clear s1 s2 s3 s4 s5 s6 hbl hbr hZw hR hmm
  go_loopw [20] (fun i wr => ∃ j : Nat, j ≤ n ∧ i = .int .i64 j ∧ Hid (WkI w1 bl br (l.take j) wr)) (fun i _ => n - (intOf i).toNat)
  case atStart => exact ⟨0, Nat.zero_le _, rfl, by simpa using HS0⟩
  case round =>
    clear HS0
    obtain ⟨j, hj, rfl, HI⟩ := hrel
    by_cases hlt : j < n
    · have hjl : j < l.length := by rw [HN.out]; exact hlt
      obtain ⟨b8, off8, rfl, hb8, e0, e1, e2, e3, e4, e5⟩ := mv_at HL.out j hjl
      have hq := HI.out.kq.below (B := w.heap.size) (by omega) (by omega) (by omega) (by omega) (fun g hg => by cases hg)
      have hlow := HB.out.trans hq
      have e0 := (hlow.cell (p := ⟨b8, _, none⟩) hb8).trans e0
      have e1 := (hlow.cell (p := ⟨b8, _, none⟩) hb8).trans e1
      have e2 := (hlow.cell (p := ⟨b8, _, none⟩) hb8).trans e2
      have e3 := (hlow.cell (p := ⟨b8, _, none⟩) hb8).trans e3
      have e4 := (hlow.cell (p := ⟨b8, _, none⟩) hb8).trans e4
      have e5 := (hlow.cell (p := ⟨b8, _, none⟩) hb8).trans e5
      have hwj := hwf l[j] (List.getElem_mem hjl)
      have HT : Hid (l.take (j + 1) = l.take j ++ [l[j]]) := List.take_succ_eq_append_getElem hjl
      clear hq hlow hb8
      generalize l[j] = m at *
      --CUT2
      by_cases hne : m.src = m.dst
      · have hb : decide (m.src ≠ m.dst) = false := by simpa using hne
        have HI2 : Hid (WkI w1 bl br (l.take (j + 1)) (wr.alloc (.cells #[.int .i64 m.src.kind, .int .i64 m.src.cls, .int .i64 m.src.n, .int .i64 m.dst.kind, .int .i64 m.dst.cls, .int .i64 m.dst.n] 29))) := HI.out.same HT.out hne trivial
        clear HI HT hne
        go_wp2_with (refine wpL_neq rfl _ _ rfl (p := m.src) (q := m.dst) rfl rfl hb ?_)
        --CUT3
        exact ⟨⟨j + 1, by omega, by simp, HI2⟩, by simp [intOf]; omega⟩
      · have hb : decide (m.src ≠ m.dst) = true := by simpa using hne
        have hbA : Below wr.heap.size wr (wr.alloc (.cells #[.int .i64 m.src.kind, .int .i64 m.src.cls, .int .i64 m.src.n, .int .i64 m.dst.kind, .int .i64 m.dst.cls, .int .i64 m.dst.n] 29)) := (Below.refl _ _).alloc (Nat.le_refl _) _
        obtain ⟨fR, hR, hR2⟩ := HI.out.mr
        obtain ⟨w2, hr1, m1, t1⟩ := (HI.out.ml.below hbA HI.out.ml.lt).store (n := (l.take j).length) Try.underlying43 (by simp [maxLen]; omega) hwj.2 (plVal m.src)
        have lbr := hR.lt
        have hx2 := turned_block (q := br) t1 (by omega)
        have hR' : MapF w2.drew br (l.take j).length fR := (hR.below hbA hR.lt).of_block hx2
        have hv := hR2 m.src
        have hbd := rdF_bd (l.take j) m.src
        have hbd2 : (l.take j).length ≤ 5000 := by simp; omega
        obtain ⟨v, hvv⟩ : ∃ v, rdF (l.take j) m.src = v := ⟨_, rfl⟩
        rw [hvv] at hv hbd
        have hv0 : 0 ≤ v := hbd.1
        have hv1 : v ≤ 5000 := by omega
        obtain ⟨st, es1, clock1, rE, mid, t2, r3⟩ := hR'.entry (z := .int .i64 0) Try.underlying40 zeroI (by simp [maxLen]; omega) hwj.1
        rw [hv] at rE mid
        obtain ⟨w3, hw3⟩ : ∃ w3, w3 = ChangeMaps.setBlock w2.drew br (.map es1 clock1) := ⟨_, rfl⟩
        rw [← hw3] at rE mid t2
        have hR9 := hR'
        obtain ⟨D0, ⟨es0, cl0, hx1, _⟩, _⟩ := hR9
        have hw3b : w3.heap[br]? = some (.map es1 clock1) := by rw [hw3]; exact ChangeMaps.heap_setBlock_same hx1 _
        clear hw3
        obtain ⟨w4, r4, m4, t3⟩ := r3 w3 hw3b (.int .i64 (v + 1))
        have hwr : IntKind.i64.wrap (v + 1) = v + 1 := by rw [IntKind.wrap_i64]; omega
        have k1 := HI.out.kq
        have zr : w1.heap.size ≤ wr.heap.size := k1.size
        have z2 : w2.heap.size = wr.heap.size + 1 := by rw [(turned_rest t1).2.2.2]; simp
        have hZ := k1.row HBX.out (by omega) (by omega) (by omega) (by simp [Value.ownBlock])
        have x5 : wr.cell? ⟨Zw, 5, none⟩ = some (.map (some br)) := hZ.cell (i := 5) (by omega)
        have x4 : wr.cell? ⟨Zw, 4, none⟩ = some (.map (some bl)) := hZ.cell (i := 4) (by omega)
        have tm := topO wr #[.int .i64 m.src.kind, .int .i64 m.src.cls, .int .i64 m.src.n, .int .i64 m.dst.kind, .int .i64 m.dst.cls, .int .i64 m.dst.n] 29
        obtain ⟨M, hM⟩ : ∃ M, wr.heap.size = M := ⟨_, rfl⟩
        have lZM : Zw < M := by omega
        have lZw : Zw < wr.heap.size := by omega
        rw [hM] at tm
        have keep : ∀ q, q ≠ bl → q ≠ br → w4.heap[q]? = (wr.alloc (.cells #[.int .i64 m.src.kind, .int .i64 m.src.cls, .int .i64 m.src.n, .int .i64 m.dst.kind, .int .i64 m.dst.cls, .int .i64 m.dst.n] 29)).heap[q]? ∧ w3.heap[q]? = (wr.alloc (.cells #[.int .i64 m.src.kind, .int .i64 m.src.cls, .int .i64 m.src.n, .int .i64 m.dst.kind, .int .i64 m.dst.cls, .int .i64 m.dst.n] 29)).heap[q]? ∧ w2.heap[q]? = (wr.alloc (.cells #[.int .i64 m.src.kind, .int .i64 m.src.cls, .int .i64 m.src.n, .int .i64 m.dst.kind, .int .i64 m.dst.cls, .int .i64 m.dst.n] 29)).heap[q]? := fun q n1 n2 =>
          have a1 := turned_block t1 n1
          have a2 := (turned_block t2 n2).trans a1
          ⟨(turned_block t3 n2).trans a2, a2, a1⟩
        have mm0 : (wr.alloc (.cells #[.int .i64 m.src.kind, .int .i64 m.src.cls, .int .i64 m.src.n, .int .i64 m.dst.kind, .int .i64 m.dst.cls, .int .i64 m.dst.n] 29)).cell? ⟨M, 0, none⟩ = some (.int .i64 m.src.kind) := tm 0
        have mm1 : (wr.alloc (.cells #[.int .i64 m.src.kind, .int .i64 m.src.cls, .int .i64 m.src.n, .int .i64 m.dst.kind, .int .i64 m.dst.cls, .int .i64 m.dst.n] 29)).cell? ⟨M, 1, none⟩ = some (.int .i64 m.src.cls) := tm 1
        have mm2 : (wr.alloc (.cells #[.int .i64 m.src.kind, .int .i64 m.src.cls, .int .i64 m.src.n, .int .i64 m.dst.kind, .int .i64 m.dst.cls, .int .i64 m.dst.n] 29)).cell? ⟨M, 2, none⟩ = some (.int .i64 m.src.n) := tm 2
        have xx5 : (wr.alloc (.cells #[.int .i64 m.src.kind, .int .i64 m.src.cls, .int .i64 m.src.n, .int .i64 m.dst.kind, .int .i64 m.dst.cls, .int .i64 m.dst.n] 29)).cell? ⟨Zw, 5, none⟩ = some (.map (some br)) := (World.cell?_alloc_lt _ _ _ (by show Zw < _; omega)).trans x5
        have kM := keep M (by omega) (by omega)
        have kZ := keep Zw (by omega) (by omega)
        have lk : ∀ W nn f, MapF W br nn f → (f m.src).getD (.int .i64 0) = .int .i64 v → (Instr.lookup 40 (.map (some br)) (.agg #[.int .i64 m.src.kind, .int .i64 m.src.cls, .int .i64 m.src.n]) false).run Try.prog W = .ok (.int .i64 v) W := fun W nn f hf hv2 => by
          have := hf.look Try.underlying40 (zeroI W) hwj.1
          rw [hv2] at this
          exact this
        have HS1 : Hid ((fun w' => w'.cell? ⟨Zw, 5, none⟩ = some (.map (some br)) ∧ w'.cell? ⟨M, 0, none⟩ = some (.int .i64 m.src.kind) ∧ w'.cell? ⟨M, 1, none⟩ = some (.int .i64 m.src.cls) ∧ w'.cell? ⟨M, 2, none⟩ = some (.int .i64 m.src.n) ∧ (Instr.lookup 40 (.map (some br)) (.agg #[.int .i64 m.src.kind, .int .i64 m.src.cls, .int .i64 m.src.n]) false).run Try.prog w' = .ok (.int .i64 v) w') w2.drew) := ⟨(World.cell?_of_block (a := ⟨Zw, 5, none⟩) kZ.2.2).trans xx5, (World.cell?_of_block (a := ⟨M, 0, none⟩) kM.2.2).trans mm0, (World.cell?_of_block (a := ⟨M, 1, none⟩) kM.2.2).trans mm1, (World.cell?_of_block (a := ⟨M, 2, none⟩) kM.2.2).trans mm2, lk _ _ _ hR' hv⟩
        have HS2 : Hid ((fun w' => w'.cell? ⟨Zw, 5, none⟩ = some (.map (some br)) ∧ w'.cell? ⟨M, 0, none⟩ = some (.int .i64 m.src.kind) ∧ w'.cell? ⟨M, 1, none⟩ = some (.int .i64 m.src.cls) ∧ w'.cell? ⟨M, 2, none⟩ = some (.int .i64 m.src.n) ∧ (Instr.lookup 40 (.map (some br)) (.agg #[.int .i64 m.src.kind, .int .i64 m.src.cls, .int .i64 m.src.n]) false).run Try.prog w' = .ok (.int .i64 v) w') w3) := ⟨(World.cell?_of_block (a := ⟨Zw, 5, none⟩) kZ.2.1).trans xx5, (World.cell?_of_block (a := ⟨M, 0, none⟩) kM.2.1).trans mm0, (World.cell?_of_block (a := ⟨M, 1, none⟩) kM.2.1).trans mm1, (World.cell?_of_block (a := ⟨M, 2, none⟩) kM.2.1).trans mm2, lk _ _ _ mid (by rw [updP_same]; rfl)⟩
        have HI2 : Hid (WkI w1 bl br (l.take (j + 1)) w4) := HI.out.next HT.out hne (by omega) hbA t1 m1 t2 t3 (by rw [hvv]; exact m4) hR2
        have HM : Hid (wr.heap.size = M) := hM
        have hr1' : (Instr.mapUpdate 43 (.map (some bl)) (.agg #[.int .i64 m.dst.kind, .int .i64 m.dst.cls, .int .i64 m.dst.n]) (.agg #[.int .i64 m.src.kind, .int .i64 m.src.cls, .int .i64 m.src.n])).run Try.prog (wr.alloc (.cells #[.int .i64 m.src.kind, .int .i64 m.src.cls, .int .i64 m.src.n, .int .i64 m.dst.kind, .int .i64 m.dst.cls, .int .i64 m.dst.n] 29)) = .ok () w2 := hr1
        clear HI HT hne hbA hR hR2 m1 t1 hR' hv mid t2 t3 r3 m4 k1 hZ tm keep mm0 mm1 mm2 xx5 kM kZ lk x5 hM hr1 hw3b
        go_wp2_with (first | (refine wpL_neq rfl _ _ rfl (p := m.src) (q := m.dst) rfl rfl hb ?_) | (at_mapUpdate; refine wpL_mapUpdate rfl _ _ _ _ rfl rfl rfl rfl hr1' ?_))
        --CUT4
        rw [HM.out]
        refine wp_region_X (fun w' => w'.cell? ⟨Zw, 5, none⟩ = some (.map (some br)) ∧ w'.cell? ⟨M, 0, none⟩ = some (.int .i64 m.src.kind) ∧ w'.cell? ⟨M, 1, none⟩ = some (.int .i64 m.src.cls) ∧ w'.cell? ⟨M, 2, none⟩ = some (.int .i64 m.src.n) ∧ (Instr.lookup 40 (.map (some br)) (.agg #[.int .i64 m.src.kind, .int .i64 m.src.cls, .int .i64 m.src.n]) false).run Try.prog w' = .ok (.int .i64 v) w') 8 (by kernel_rfl) HS1.out (fun hHeld => ?_)
        refine wpXt (v := ?_) 0 rfl (by kernel_rfl) (fun _ _ _ h => h) (by rfl) ?_ hHeld ?_
        rotate_left
        · intro w' hSw
          go_simp <;> with_reducible rfl
        try simp only [Act.put, List.setIfInBounds_toArray, List.set_cons_zero, List.set_cons_succ]
        refine wpXt (v := ?_) 1 rfl (by kernel_rfl) (fun _ _ _ h => h) (by rfl) ?_ hHeld ?_
        rotate_left
        · intro w' hSw
          go_simp <;> with_reducible rfl
        try simp only [Act.put, List.setIfInBounds_toArray, List.set_cons_zero, List.set_cons_succ]
        refine wpXt (v := ?_) 2 rfl (by kernel_rfl) (fun _ _ _ h => h) (by rfl) ?_ hHeld ?_
        rotate_left
        · intro w' hSw
          go_simp <;> with_reducible rfl
        try simp only [Act.put, List.setIfInBounds_toArray, List.set_cons_zero, List.set_cons_succ]
        refine wpXt (v := ?_) 3 rfl (by kernel_rfl) (fun _ _ _ h => h) (by rfl) ?_ hHeld ?_
        rotate_left
        · intro w' hSw
          go_simp <;> with_reducible rfl
        try simp only [Act.put, List.setIfInBounds_toArray, List.set_cons_zero, List.set_cons_succ]
        refine wpXt (v := .int .i64 v) 4 rfl (by kernel_rfl) (fun _ _ _ h => h) (by rfl) ?_ hHeld ?_
        · intro w' hSw
          exact execO_lookup _ _ _ _ rfl rfl rfl hSw.2.2.2.2
        try simp only [Act.put, List.setIfInBounds_toArray, List.set_cons_zero, List.set_cons_succ]
        refine wpXt (v := ?_) 5 rfl (by kernel_rfl) (fun _ _ _ h => h) (by rfl) ?_ hHeld ?_
        rotate_left
        · intro w' hSw
          go_simp <;> with_reducible rfl
        try simp only [Act.put, List.setIfInBounds_toArray, List.set_cons_zero, List.set_cons_succ]
        refine wpXs 6 rfl (by kernel_rfl) (fun K hK => ?_)
        rw [if_pos (by rfl)]
        refine wpO_mapEntry _ _ _ rfl rfl rfl rE ?_
        refine hK.out _ _ HS2.out (fun hHeld => ?_)
        clear hK K
        try simp only [Act.put, List.setIfInBounds_toArray, List.set_cons_zero, List.set_cons_succ]
        refine wpXt (v := ?_) 7 rfl (by kernel_rfl) (fun _ _ _ h => h) (by rfl) ?_ hHeld ?_
        rotate_left
        · intro w' hSw
          go_simp <;> with_reducible rfl
        try simp only [Act.put, List.setIfInBounds_toArray, List.set_cons_zero, List.set_cons_succ]
        refine wpXl 8 rfl (by kernel_rfl) rfl (by kernel_rfl) (fun K hK => ?_)
        rw [if_pos (by rfl)]
        refine wpO_entryStore _ _ _ _ rfl rfl rfl rfl r4 ?_
        refine hK.out _ _ ?_
        clear hK K
        try simp only [Act.put]
        --CUT6
        go_wp2
        exact ⟨⟨j + 1, by omega, by simp, HI2⟩, by simp [intOf]; omega⟩
    · have hjn : j = n := by omega
      subst hjn
      have k1 := HI.out.kq
      have hZ := k1.row HBX.out (by omega) (by omega) (by omega) (by simp [Value.ownBlock])
      have hRr := k1.row HR.out (by omega) (by omega) (by omega) (by simp [Value.ownBlock])
      have HLL : Hid (l.take j = l) := List.take_of_length_le (by rw [HN.out]; exact Nat.le_refl _)
      have HBW : Hid (Below w.heap.size w wr) := HB.out.trans (k1.below (B := w.heap.size) (by omega) (by omega) (by omega) (by omega) (fun g hg => by cases hg))
      have x0 : wr.cell? ⟨Zw, 0, none⟩ = some (.int .i64 r0) := hZ.cell (i := 0) (by omega)
      have x1 : wr.cell? ⟨Zw, 1, none⟩ = some (.int .i64 r1) := hZ.cell (i := 1) (by omega)
      have x2 : wr.cell? ⟨Zw, 2, none⟩ = some (.int .i64 fr) := hZ.cell (i := 2) (by omega)
      have x3 : wr.cell? ⟨Zw, 3, none⟩ = some (.map (some bc)) := hZ.cell (i := 3) (by omega)
      have x4 : wr.cell? ⟨Zw, 4, none⟩ = some (.map (some bl)) := hZ.cell (i := 4) (by omega)
      have x5 : wr.cell? ⟨Zw, 5, none⟩ = some (.map (some br)) := hZ.cell (i := 5) (by omega)
      have x6 : wr.cell? ⟨Zw, 6, none⟩ = some (.slice none 0 0) := hZ.cell (i := 6) (by omega)
      have y0 := hRr.cell (i := 0) (by omega)
      have y1 := hRr.cell (i := 1) (by omega)
      have y2 := hRr.cell (i := 2) (by omega)
      have y3 := hRr.cell (i := 3) (by omega)
      have y4 := hRr.cell (i := 4) (by omega)
      have y5 := hRr.cell (i := 5) (by omega)
      have y6 := hRr.cell (i := 6) (by omega)
      simp only [Nat.reduceLT, if_true, if_false] at y0 y1 y2 y3 y4 y5 y6
      have z0 := hRr.frozen 0
      have z1 := hRr.frozen 1
      have z2 := hRr.frozen 2
      have z3 := hRr.frozen 3
      have z4 := hRr.frozen 4
      have z5 := hRr.frozen 5
      have z6 := hRr.frozen 6
      have HZR : Hid (wr.rowIs R 45 7 (fun i => if i < 3 then .int .i64 0 else if i < 6 then .map none else nilV)) := hRr
      have zr : w1.heap.size ≤ wr.heap.size := k1.size
      clear hZ hRr k1
      go_wp2
      --CUT5
      have off : ∀ q, q ≠ R → (((((((wr.setCell ⟨R, 0, none⟩ (.int .i64 r0)).setCell ⟨R, 1, none⟩ (.int .i64 r1)).setCell ⟨R, 2, none⟩ (.int .i64 fr)).setCell ⟨R, 3, none⟩ (.map (some bc))).setCell ⟨R, 4, none⟩ (.map (some bl))).setCell ⟨R, 5, none⟩ (.map (some br))).setCell ⟨R, 6, none⟩ (.slice none 0 0)).heap[q]? = wr.heap[q]? := fun q hq => by
        have h : ∀ (W : World) (o : Nat) (v : Value), (W.setCell ⟨R, o, none⟩ v).heap[q]? = W.heap[q]? := fun W o v => Below.heap_setCell _ _ _ _ (by show q ≠ R; exact hq)
        rw [h, h, h, h, h, h, h]
      obtain ⟨fR, hR1, hR2⟩ := HI.out.mr
      rw [HLL.out] at hR1 hR2
      have hm := HI.out.ml
      rw [HLL.out] at hm
      have hwR : w.heap.size ≤ R := by have := HSZ.out.1; omega
      refine bodyPost_ret (v := .agg #[.int .i64 r0, .int .i64 r1, .int .i64 fr, .map (some bc), .map (some bl), .map (some br), .slice none 0 0]) (by simp [results, Try.results11, go_sem, y0, y1, y2, y3, y4, y5, y6]) rfl ⟨bl, br, rfl, ?_, by omega, by omega, by simp [World.setCell]; omega, (hm.of_block (off _ (by omega))).mono (by rw [HN.out]; exact Nat.le_refl _), fR, (hR1.of_block (off _ (by omega))).mono (by rw [HN.out]; exact Nat.le_refl _), hR2⟩
      exact (((((((HBW.out.setCell hwR _).setCell hwR _).setCell hwR _).setCell hwR _).setCell hwR _).setCell hwR _).setCell hwR _)
end Go.Proofs.Ytdlglinbjkaokab
