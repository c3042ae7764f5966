/-
  Which error moves have (plain), and what order.Order answers.
-/
import Derived.Test.YtdlglinbjkaokabOrN
import Derived.Test.YtdlglinbjkaokabOrO
namespace Go.Proofs.Ytdlglinbjkaokab
open Go.RowKit Go.Lib
set_option linter.unusedVariables false

def ordGo (r0 r1 fr : Int) : List Pl → List (Mv × Int) → Int
  | _, [] => 0
  | seen, p :: r => if chkE r0 r1 fr p.1 p.2 ≠ 0 then chkE r0 r1 fr p.1 p.2 else if p.1.dst ∈ seen then 7 else ordGo r0 r1 fr (seen ++ [p.1.dst]) r
def ordE (r0 r1 fr : Int) (l : List Mv) (cs : List Int) : Int :=
  if machErr r0 r1 ≠ 0 then 2 else if fr < 0 ∨ 1000 ≤ fr ∨ 5000 < l.length then 1 else if cs.length ≠ l.length then 4 else ordGo r0 r1 fr [] (l.zip cs)
def goalS (f : Pl → Option Value) (p : Mv × Int) : Pl → Option Value := updP f p.1.dst (some (.int .i64 p.2))
def goalF (ps : List (Mv × Int)) : Pl → Option Value := ps.foldl goalS fun _ => none
theorem goalF_snoc (ps : List (Mv × Int)) (p : Mv × Int) : goalF (ps ++ [p]) = updP (goalF ps) p.1.dst (some (.int .i64 p.2)) := by simp [goalF, goalS]
def pDst (ps : List (Mv × Int)) : List Pl := ps.map fun p => p.1.dst
theorem goal_go : ∀ (ps : List (Mv × Int)) (f : Pl → Option Value) (q : Pl), (pDst ps).Nodup → ps.foldl goalS f q = match ps.find? (fun p => decide (p.1.dst = q)) with | some p => some (.int .i64 p.2) | none => f q
  | [], f, q, _ => rfl
  | p :: ps, f, q, hn => by
    have hn' := List.nodup_cons.1 (show (p.1.dst :: pDst ps).Nodup from hn)
    rw [List.foldl_cons, goal_go ps _ q hn'.2, List.find?_cons]
    by_cases h : p.1.dst = q
    · have hnone : ps.find? (fun y => decide (y.1.dst = q)) = none := by
        rw [List.find?_eq_none]
        intro y hy hy'
        exact hn'.1 (List.mem_map.2 ⟨y, hy, by rw [of_decide_eq_true hy', h]⟩)
      rw [hnone]
      simp only [h, decide_true]
      unfold goalS
      rw [h, updP_same]
    · simp only [h, decide_false]
      have e : goalS f p q = f q := updP_other (Ne.symm h)
      rw [e]
theorem nodup_inj {α β : Type} (f : α → β) : ∀ (l : List α), (l.map f).Nodup → ∀ a ∈ l, ∀ b ∈ l, f a = f b → a = b
  | [], _, a, ha, _, _, _ => by cases ha
  | x :: l, hn, a, ha, b, hb, e => by
    have hn' := List.nodup_cons.1 (show (f x :: l.map f).Nodup from hn)
    rcases List.mem_cons.1 ha with ea | ha
    · rcases List.mem_cons.1 hb with eb | hb
      · exact ea.trans eb.symm
      · exact (hn'.1 (List.mem_map.2 ⟨b, hb, ea ▸ e.symm⟩)).elim
    · rcases List.mem_cons.1 hb with eb | hb
      · exact (hn'.1 (List.mem_map.2 ⟨a, ha, eb ▸ e⟩)).elim
      · exact nodup_inj f l hn'.2 a ha b hb e
theorem goal_mem {ps : List (Mv × Int)} (hn : (pDst ps).Nodup) {p : Mv × Int} (hp : p ∈ ps) : goalF ps p.1.dst = some (.int .i64 p.2) := by
  unfold goalF
  rw [goal_go ps _ _ hn]
  cases h : ps.find? (fun y => decide (y.1.dst = p.1.dst)) with
  | none =>
    have := List.find?_eq_none.1 h p hp
    simp at this
  | some y =>
    have hy := List.mem_of_find?_eq_some h
    have hd : y.1.dst = p.1.dst := by simpa using List.find?_some h
    have : y = p := nodup_inj (fun p : Mv × Int => p.1.dst) ps hn y hy p hp hd
    rw [this]
theorem goal_some {ps : List (Mv × Int)} (hn : (pDst ps).Nodup) (q : Pl) : (goalF ps q).isSome = decide (q ∈ pDst ps) := by
  unfold goalF
  rw [goal_go ps _ _ hn]
  cases h : ps.find? (fun y => decide (y.1.dst = q)) with
  | none =>
    have : q ∉ pDst ps := fun hq => by
      obtain ⟨y, hy, e⟩ := List.mem_map.1 hq
      have := List.find?_eq_none.1 h y hy
      simp [e] at this
    simp [this]
  | some y =>
    have hy := List.mem_of_find?_eq_some h
    have hd : y.1.dst = q := by simpa using List.find?_some h
    have : q ∈ pDst ps := List.mem_map.2 ⟨y, hy, hd⟩
    simp [this]
def clO (ps : List (Mv × Int)) (q : Pl) : Int := match goalF ps q with | some (.int _ c) => c | _ => 0
theorem clO_mem {ps : List (Mv × Int)} (hn : (pDst ps).Nodup) {p : Mv × Int} (hp : p ∈ ps) : clO ps p.1.dst = p.2 := by
  unfold clO
  rw [goal_mem hn hp]
theorem chk_ok {r0 r1 fr : Int} {m : Mv} {c : Int} (h : chkE r0 r1 fr m c = 0) : (c = 0 ∨ c = 1) ∧ (RealP r0 r1 fr m.src ∧ SuitP c m.src) ∧ (RealP r0 r1 fr m.dst ∧ SuitP c m.dst) := by
  have key : ∀ p, holdO r0 r1 fr p = true → suitO c p = true → RealP r0 r1 fr p ∧ SuitP c p := fun p h1 h2 => by
    refine ⟨real_iff.1 h1, fun hk => ?_⟩
    unfold suitO at h2
    simp only [Bool.or_eq_true, decide_eq_true_eq] at h2
    rcases h2 with e | e
    · omega
    · exact e
  unfold chkE at h
  split at h
  · cases h
  split at h
  · cases h
  cases b1 : holdO r0 r1 fr m.src
  · rw [if_pos b1] at h; cases h
  cases b2 : holdO r0 r1 fr m.dst
  · rw [if_neg (by rw [b1]; simp), if_pos b2] at h; cases h
  cases b3 : suitO c m.src
  · rw [if_neg (by rw [b1]; simp), if_neg (by rw [b2]; simp), if_pos b3] at h; cases h
  cases b4 : suitO c m.dst
  · rw [if_neg (by rw [b1]; simp), if_neg (by rw [b2]; simp), if_neg (by rw [b3]; simp), if_pos b4] at h; cases h
  exact ⟨by omega, key _ b1 b3, key _ b2 b4⟩
theorem zip_fst : ∀ (l : List Mv) (cs : List Int), cs.length = l.length → pDst (l.zip cs) = dsts l
  | [], [], _ => rfl
  | [], _ :: _, h => by simp at h
  | _ :: _, [], h => by simp at h
  | m :: l, c :: cs, h => by
    show m.dst :: pDst (l.zip cs) = m.dst :: dsts l
    rw [zip_fst l cs (by simpa using h)]
theorem mem_zip : ∀ (l : List Mv) (cs : List Int), cs.length = l.length → ∀ m ∈ l, ∃ c, (m, c) ∈ l.zip cs
  | [], _, _, m, hm => by cases hm
  | _ :: _, [], h, _, _ => by simp at h
  | x :: l, c :: cs, h, m, hm => by
    rcases List.mem_cons.1 hm with rfl | hm
    · exact ⟨c, by simp⟩
    · obtain ⟨d, hd⟩ := mem_zip l cs (by simpa using h) m hm
      exact ⟨d, List.mem_cons_of_mem _ hd⟩
theorem fit_ord {r0 r1 fr : Int} {l : List Mv} {cs : List Int} (h0 : 0 ≤ r0) (h1 : 0 ≤ r1) (hf : 0 ≤ fr) (hlen : cs.length = l.length) (hn : (dsts l).Nodup) (hok : ∀ p ∈ l.zip cs, chkE r0 r1 fr p.1 p.2 = 0) : FitO r0 r1 fr l (clO (l.zip cs)) ∧ ∀ m ∈ l, goalF (l.zip cs) m.dst = some (.int .i64 (clO (l.zip cs) m.dst)) := by
  have hn2 : (pDst (l.zip cs)).Nodup := by rw [zip_fst l cs hlen]; exact hn
  have key : ∀ m ∈ l, ∃ c, clO (l.zip cs) m.dst = c ∧ goalF (l.zip cs) m.dst = some (.int .i64 c) ∧ chkE r0 r1 fr m c = 0 := fun m hm => by
    obtain ⟨c, hc⟩ := mem_zip l cs hlen m hm
    exact ⟨c, clO_mem hn2 hc, goal_mem hn2 hc, hok _ hc⟩
  refine ⟨⟨h0, h1, hf, hn, fun m hm => ?_, fun m hm => ?_, fun m hm => ?_⟩, fun m hm => ?_⟩
  · obtain ⟨c, e, _, h⟩ := key m hm
    rw [e]
    exact (chk_ok h).1
  · obtain ⟨c, e, _, h⟩ := key m hm
    rw [e]
    exact (chk_ok h).2.1
  · obtain ⟨c, e, _, h⟩ := key m hm
    rw [e]
    exact (chk_ok h).2.2
  · obtain ⟨c, e, g, _⟩ := key m hm
    rw [e]
    exact g
/-- While moves are looked at. -/
structure OdI (W2 : World) (bc : Nat) (r0 r1 fr : Int) (l : List Mv) (cs : List Int) (j : Nat) (w : World) : Prop where
  kq : Kq bc bc bc nilV nilV W2 w
  mp : MapF w bc j (goalF ((l.zip cs).take j))
  nd : (dsts (l.take j)).Nodup
  ok : ∀ p ∈ (l.zip cs).take j, chkE r0 r1 fr p.1 p.2 = 0
  go : ordGo r0 r1 fr [] (l.zip cs) = ordGo r0 r1 fr (dsts (l.take j)) ((l.zip cs).drop j)
  tk : pDst ((l.zip cs).take j) = dsts (l.take j)
section
variable {P : Program} {o : Oper} {a : Act} {w w' : World} {K : Act → World → Prop} {Q : Exit → Act → World → Prop}
theorem wpL_lookup {ops : Array Oper} {rest : List Oper} (hgd : o.guard = none) (m x : Operand) (t : TypeId) (c : Bool) (ho : o.op = .lookup t m x c) {v1 v2 v : Value} (h1 : a.eval m = v1) (h2 : a.eval x = v2) (hr : (Instr.lookup t v1 v2 c).run P w = .ok v w) (h : wpList P ops Q rest (a.put o.dst v) w) : wpList P ops Q (o :: rest) a w :=
  wpList_plain hgd fun _ hK => by
    unfold Oper.wp
    rw [execO_lookup m x t c ho h1 h2 hr]
    exact hK _ _ h
end
theorem mkMap (n : Nat) (W' : World) : (Instr.makeMap 40 (some (.int .i64 (n : Int)))).run Try.prog W' = .ok (.map (some W'.heap.size)) (W'.alloc (.map #[] 0)) := by kernel_rfl
theorem int_at {w : World} {a : Option Addr} {n c : Nat} {l : List Int} (h : SlOf w 1 RInt (.slice a n c) l) (j : Nat) (hj : j < l.length) : ∃ b off, a = some ⟨b, off, none⟩ ∧ b < w.heap.size ∧ w.cell? ⟨b, off + j, none⟩ = some (.int .i64 l[j]) := by
  obtain ⟨b, off, cs, h1, h2, h3, h4⟩ := h.at j hj
  unfold RInt at h3
  subst h3
  have c0 := h4 0 (by simp)
  simp at c0
  exact ⟨b, off, h1, block_lt c0, c0⟩
set_option maxHeartbeats 16000000 in
theorem order_any (r0 r1 fr : Int) (vl vc : Value) (l : List Mv) (cs : List Int) (w : World) (hl : SlOf w 6 RMv vl l) (hc : SlOf w 1 RInt vc cs) (hwf : ∀ m ∈ l, PlWf m.src ∧ PlWf m.dst) :
    Calls Try.prog 6 #[.agg #[.int .i64 r0, .int .i64 r1], vl, vc, .int .i64 fr] w fun e w' => Below w.heap.size w w' ∧ ∃ v, e = .returned (.tuple #[v, .int .i64 (ordE r0 r1 fr l cs)]) ∧ (ordE r0 r1 fr l cs ≠ 0 → v = .slice none 0 0) ∧ (ordE r0 r1 fr l cs = 0 → ∃ done, SlOf w' 6 RMv v done ∧ RightO r0 r1 fr l done) := by
  obtain ⟨al, cl0, rfl, hlong⟩ := hl.out
  obtain ⟨ac, cc0, rfl, hlong2⟩ := hc.out
  unfold longest at hlong hlong2
  obtain ⟨n, hn⟩ : ∃ n, l.length = n := ⟨_, rfl⟩
  obtain ⟨nc, hnc⟩ : ∃ nc, cs.length = nc := ⟨_, rfl⟩
  rw [hn] at hl hlong ⊢
  rw [hnc] at hc hlong2 ⊢
  obtain ⟨N, hN⟩ : ∃ N, w.heap.size = N := ⟨_, rfl⟩
  obtain ⟨W, hW⟩ : ∃ W, W = w.alloc (.cells #[.int .i64 r0, .int .i64 r1] 35) := ⟨_, rfl⟩
  have hbw : Below w.heap.size w W := by rw [hW]; exact (Below.refl _ _).alloc (Nat.le_refl _) _
  have t0 := topO w #[.int .i64 r0, .int .i64 r1] 35
  rw [← hW, hN] at t0
  have zN : N < W.heap.size := by rw [hW, ← hN]; simp
  have m0 : W.cell? ⟨N, 0, none⟩ = some (.int .i64 r0) := t0 0
  have m1 : W.cell? ⟨N, 1, none⟩ = some (.int .i64 r1) := t0 1
  have HCM := checkMachine_any r0 r1 W
  have HL : Hid (SlOf w 6 RMv (.slice al n cl0) l ∧ l.length = n ∧ SlOf w 1 RInt (.slice ac nc cc0) cs ∧ cs.length = nc ∧ ∀ m ∈ l, PlWf m.src ∧ PlWf m.dst) := ⟨hl, hn, hc, hnc, hwf⟩
  have HW : Hid (W = w.alloc (.cells #[.int .i64 r0, .int .i64 r1] 35)) := hW
  have HN : Hid (w.heap.size = N) := hN
  have HBW : Hid (Below w.heap.size w W) := hbw
  have HE0 : Hid (ordE r0 r1 fr l cs = if machErr r0 r1 ≠ 0 then 2 else if fr < 0 ∨ 1000 ≤ fr ∨ 5000 < n then 1 else if nc ≠ n then 4 else ordGo r0 r1 fr [] (l.zip cs)) := by
    show _ = _
    unfold ordE
    rw [hn, hnc]
  clear hl hn hc hnc hwf hW hN hbw t0
  by_cases hm : machErr r0 r1 = 0
  rotate_left
  · have hm2 : machErr r0 r1 = 2 := by unfold machErr at *; split at hm <;> simp_all
    have HE : Hid (ordE r0 r1 fr l cs = 2) := by show _ = _; rw [HE0.out, if_pos hm]
    rw [hm2] at HCM
    clear hm hm2 HE0
    go_enter Try.func6, Try.ntmps6
    go_upto_region 1 with fail
    rw [← HW.out, HN.out]
    go_wp2_with (go_at_call 9; refine HCM.mono ?_; clear HCM; rintro e w1 ⟨rfl, hb1⟩)
    refine bodyPost_ret (results_tmp2 rfl _ _ _) rfl ?_
    exact ⟨HBW.out.trans (hb1.mono HBW.out.size), _, by rw [HE.out]; rfl, fun _ => rfl, fun h => by rw [HE.out] at h; cases h⟩
  have HM : Hid (2 ≤ r0 ∧ 2 ≤ r1) := by
    show _ ∧ _
    unfold machErr at hm
    split at hm
    · omega
    · cases hm
  rw [hm] at HCM
  have HE1 : Hid (ordE r0 r1 fr l cs = if fr < 0 ∨ 1000 ≤ fr ∨ 5000 < n then 1 else if nc ≠ n then 4 else ordGo r0 r1 fr [] (l.zip cs)) := by show _ = _; rw [HE0.out, if_neg (by rw [hm]; simp)]
  clear hm HE0
  by_cases k0 : fr < 0
  · have HE : Hid (ordE r0 r1 fr l cs = 1) := by show _ = _; rw [HE1.out, if_pos (Or.inl k0)]
    clear HE1
    go_enter Try.func6, Try.ntmps6
    go_upto_region 1 with fail
    rw [← HW.out, HN.out]
    go_wp2_with (go_at_call 9; refine HCM.mono ?_; clear HCM; rintro e w1 ⟨rfl, hb1⟩)
    refine bodyPost_ret (results_tmp2 rfl _ _ _) rfl ?_
    exact ⟨HBW.out.trans (hb1.mono HBW.out.size), _, by rw [HE.out]; rfl, fun _ => rfl, fun h => by rw [HE.out] at h; cases h⟩
  by_cases k1 : 1000 ≤ fr
  · have HE : Hid (ordE r0 r1 fr l cs = 1) := by show _ = _; rw [HE1.out, if_pos (Or.inr (Or.inl k1))]
    clear HE1
    go_enter Try.func6, Try.ntmps6
    go_upto_region 1 with fail
    rw [← HW.out, HN.out]
    go_wp2_with (go_at_call 9; refine HCM.mono ?_; clear HCM; rintro e w1 ⟨rfl, hb1⟩)
    refine bodyPost_ret (results_tmp2 rfl _ _ _) rfl ?_
    exact ⟨HBW.out.trans (hb1.mono HBW.out.size), _, by rw [HE.out]; rfl, fun _ => rfl, fun h => by rw [HE.out] at h; cases h⟩
  by_cases k2 : 5000 < n
  · have HE : Hid (ordE r0 r1 fr l cs = 1) := by show _ = _; rw [HE1.out, if_pos (Or.inr (Or.inr k2))]
    clear HE1
    go_enter Try.func6, Try.ntmps6
    go_upto_region 1 with fail
    rw [← HW.out, HN.out]
    go_wp2_with (go_at_call 9; refine HCM.mono ?_; clear HCM; rintro e w1 ⟨rfl, hb1⟩)
    refine bodyPost_ret (results_tmp2 rfl _ _ _) rfl ?_
    exact ⟨HBW.out.trans (hb1.mono HBW.out.size), _, by rw [HE.out]; rfl, fun _ => rfl, fun h => by rw [HE.out] at h; cases h⟩
  have HE2 : Hid (ordE r0 r1 fr l cs = if nc ≠ n then 4 else ordGo r0 r1 fr [] (l.zip cs)) := by show _ = _; rw [HE1.out, if_neg (by omega)]
  clear HE1
  by_cases k3 : nc = n
  rotate_left
  · have HE : Hid (ordE r0 r1 fr l cs = 4) := by show _ = _; rw [HE2.out, if_pos k3]
    clear HE2
    go_enter Try.func6, Try.ntmps6
    go_upto_region 1 with fail
    rw [← HW.out, HN.out]
    go_wp2_with (go_at_call 9; refine HCM.mono ?_; clear HCM; rintro e w1 ⟨rfl, hb1⟩)
    refine bodyPost_ret (results_tmp2 rfl _ _ _) rfl ?_
    exact ⟨HBW.out.trans (hb1.mono HBW.out.size), _, by rw [HE.out]; rfl, fun _ => rfl, fun h => by rw [HE.out] at h; cases h⟩
  have HE3 : Hid (ordE r0 r1 fr l cs = ordGo r0 r1 fr [] (l.zip cs)) := by show _ = _; rw [HE2.out, if_neg (by simpa using k3)]
  clear HE2
  subst k3
  have hmm := mkMap nc
  --CUT1
  go_enter Try.func6, Try.ntmps6
  go_upto_region 1 with fail
  rw [← HW.out, HN.out]
  go_upto_region 2 with (go_at_call 9; refine HCM.mono ?_; clear HCM; rintro e w1 ⟨rfl, hb1⟩)
  --CUT2
  obtain ⟨bc, hbc⟩ : ∃ bc, w1.heap.size = bc := ⟨_, rfl⟩
  obtain ⟨W2, hW2⟩ : ∃ W2, W2 = w1.alloc (.map #[] 0) := ⟨_, rfl⟩
  have mp0 := MapF.made w1
  rw [hbc, ← hW2] at mp0
  have hb2 : Below w1.heap.size w1 W2 := by rw [hW2]; exact (Below.refl _ _).alloc (Nat.le_refl _) _
  have hlowW : Below W.heap.size W W2 := hb1.trans (hb2.mono hb1.size)
  have hlow : Below w.heap.size w W2 := HBW.out.trans (hlowW.mono HBW.out.size)
  have lbc : w.heap.size ≤ bc ∧ N < bc := by have := HBW.out.size; have := hb1.size; omega
  have zW2 : W2.heap.size = bc + 1 := by rw [hW2, ← hbc]; simp
  have n0 : W2.cell? ⟨N, 0, none⟩ = some (.int .i64 r0) := (hlowW.cell (p := ⟨N, 0, none⟩) zN).trans m0
  have n1 : W2.cell? ⟨N, 1, none⟩ = some (.int .i64 r1) := (hlowW.cell (p := ⟨N, 1, none⟩) zN).trans m1
  have HW2 : Hid (W2 = w1.alloc (.map #[] 0)) := hW2
  have HBC : Hid (w1.heap.size = bc) := hbc
  have HLO : Hid (Below w.heap.size w W2 ∧ w.heap.size ≤ bc ∧ N < bc ∧ W2.heap.size = bc + 1 ∧ N < W2.heap.size) := ⟨hlow, lbc.1, lbc.2, zW2, by omega⟩
  have HN01 : Hid (W2.cell? ⟨N, 0, none⟩ = some (.int .i64 r0) ∧ W2.cell? ⟨N, 1, none⟩ = some (.int .i64 r1)) := ⟨n0, n1⟩
  have HS0 : Hid (OdI W2 bc r0 r1 fr l cs 0 W2) := ⟨Kq.refl _ _ _ _ _, mp0, by simp [dsts], fun p hp => by simp at hp, by simp [dsts], by simp [pDst, dsts]⟩
  clear hbc hW2 mp0 hb2 hlowW hlow lbc zW2 n0 n1 m0 m1 hb1 zN
  go_upto_region 10 with fail
  rw [← HW2.out, HBC.out]
  clear HW2 HBC hmm
  --CUT3
  go_loopw [44] (fun i wr => ∃ j : Nat, j ≤ nc ∧ i = .int .i64 j ∧ Hid (OdI W2 bc r0 r1 fr l cs j wr)) (fun i _ => nc - (intOf i).toNat)
  case atStart => exact ⟨0, Nat.zero_le _, rfl, HS0⟩
  case round =>
    clear HS0
    obtain ⟨j, hj, rfl, HI⟩ := hrel
    obtain ⟨hLow, hwb, hNb, hzW2, hNW2⟩ := HLO.out
    have hq := HI.out.kq.below (B := w.heap.size) hLow.size hwb hwb hwb (fun g hg => by cases hg)
    have hlow := hLow.trans hq
    have kN := HI.out.kq.block N hNW2 (by omega) (by omega) (by omega) (by simp [Value.ownBlock])
    have n0 := (World.cell?_of_block (a := ⟨N, 0, none⟩) kN).trans HN01.out.1
    have n1 := (World.cell?_of_block (a := ⟨N, 1, none⟩) kN).trans HN01.out.2
    have hzr := HI.out.kq.size
    by_cases hlt : j < nc
    · have hjl : j < l.length := by rw [HL.out.2.1]; exact hlt
      have hjc : j < cs.length := by rw [HL.out.2.2.2.1]; exact hlt
      obtain ⟨b8, off8, rfl, hb8, e0, e1, e2, e3, e4, e5⟩ := mv_at HL.out.1 j hjl
      obtain ⟨bq, offq, rfl, hbq, ec⟩ := int_at HL.out.2.2.1 j hjc
      replace e0 := (hlow.cell (p := ⟨b8, _, none⟩) hb8).trans e0
      replace e1 := (hlow.cell (p := ⟨b8, _, none⟩) hb8).trans e1
      replace e2 := (hlow.cell (p := ⟨b8, _, none⟩) hb8).trans e2
      replace e3 := (hlow.cell (p := ⟨b8, _, none⟩) hb8).trans e3
      replace e4 := (hlow.cell (p := ⟨b8, _, none⟩) hb8).trans e4
      replace e5 := (hlow.cell (p := ⟨b8, _, none⟩) hb8).trans e5
      replace ec := (hlow.cell (p := ⟨bq, _, none⟩) hbq).trans ec
      obtain ⟨m, hm⟩ : ∃ m, l[j] = m := ⟨_, rfl⟩
      obtain ⟨cj, hcj⟩ : ∃ cj, cs[j] = cj := ⟨_, rfl⟩
      have hml : m ∈ l := by rw [← hm]; exact List.getElem_mem hjl
      have hzl : j < (l.zip cs).length := by rw [List.length_zip]; omega
      have hzj : (l.zip cs)[j] = (m, cj) := by rw [List.getElem_zip, hm, hcj]
      have HT : Hid (l.take (j + 1) = l.take j ++ [m]) := by show _ = _; rw [← hm]; exact List.take_succ_eq_append_getElem hjl
      have HTZ : Hid ((l.zip cs).take (j + 1) = (l.zip cs).take j ++ [(m, cj)]) := by show _ = _; rw [← hzj]; exact List.take_succ_eq_append_getElem hzl
      have HDZ : Hid ((l.zip cs).drop j = (m, cj) :: (l.zip cs).drop (j + 1)) := by show _ = _; rw [← hzj]; exact List.drop_eq_getElem_cons hzl
      rw [hm] at e0 e1 e2 e3 e4 e5
      rw [hcj] at ec
      have hwd : PlWf m.dst := (HL.out.2.2.2.2 m hml).2
      obtain ⟨V, hV⟩ : ∃ V, wr.heap.size = V := ⟨_, rfl⟩
      obtain ⟨W3, hW3⟩ : ∃ W3, W3 = wr.alloc (.cells #[.int .i64 m.src.kind, .int .i64 m.src.cls, .int .i64 m.src.n, .int .i64 m.dst.kind, .int .i64 m.dst.cls, .int .i64 m.dst.n] 29) := ⟨_, rfl⟩
      have hb3 : Below wr.heap.size wr W3 := by rw [hW3]; exact (Below.refl _ _).alloc (Nat.le_refl _) _
      have t3 := topO wr #[.int .i64 m.src.kind, .int .i64 m.src.cls, .int .i64 m.src.n, .int .i64 m.dst.kind, .int .i64 m.dst.cls, .int .i64 m.dst.n] 29
      rw [← hW3, hV] at t3
      have zV : V < W3.heap.size := by rw [hW3, ← hV]; simp
      have lbqr : bq < wr.heap.size := by have := hlow.size; omega
      have HSS : Hid (∀ w', Below W3.heap.size W3 w' → (fun w' => w'.cell? ⟨N, 0, none⟩ = some (.int .i64 r0) ∧ w'.cell? ⟨N, 1, none⟩ = some (.int .i64 r1) ∧ w'.cell? ⟨V, 0, none⟩ = some (.int .i64 m.src.kind) ∧ w'.cell? ⟨V, 1, none⟩ = some (.int .i64 m.src.cls) ∧ w'.cell? ⟨V, 2, none⟩ = some (.int .i64 m.src.n) ∧ w'.cell? ⟨V, 3, none⟩ = some (.int .i64 m.dst.kind) ∧ w'.cell? ⟨V, 4, none⟩ = some (.int .i64 m.dst.cls) ∧ w'.cell? ⟨V, 5, none⟩ = some (.int .i64 m.dst.n) ∧ w'.cell? ⟨bq, offq + j, none⟩ = some (.int .i64 cj)) w') := fun w' hh => by
        have hh2 := hb3.trans (hh.mono hb3.size)
        exact ⟨(hh2.cell (p := ⟨N, 0, none⟩) (by show N < _; omega)).trans n0, (hh2.cell (p := ⟨N, 1, none⟩) (by show N < _; omega)).trans n1, (hh.cell (p := ⟨V, 0, none⟩) zV).trans (t3 0), (hh.cell (p := ⟨V, 1, none⟩) zV).trans (t3 1), (hh.cell (p := ⟨V, 2, none⟩) zV).trans (t3 2), (hh.cell (p := ⟨V, 3, none⟩) zV).trans (t3 3), (hh.cell (p := ⟨V, 4, none⟩) zV).trans (t3 4), (hh.cell (p := ⟨V, 5, none⟩) zV).trans (t3 5), (hh2.cell (p := ⟨bq, offq + j, none⟩) lbqr).trans ec⟩
      obtain ⟨ev, hev⟩ : ∃ ev, chkE r0 r1 fr m cj = ev := ⟨_, rfl⟩
      have HC := check_any m r0 r1 fr cj W3.drew
      rw [hev] at HC
      have HEV : Hid (chkE r0 r1 fr m cj = ev) := hev
      have HW3 : Hid (W3 = wr.alloc (.cells #[.int .i64 m.src.kind, .int .i64 m.src.cls, .int .i64 m.src.n, .int .i64 m.dst.kind, .int .i64 m.dst.cls, .int .i64 m.dst.n] 29)) := hW3
      have HVV : Hid (wr.heap.size = V) := hV
      have HB3 : Hid (Below wr.heap.size wr W3 ∧ V < W3.heap.size) := ⟨hb3, zV⟩
      clear hev hW3 hV hm hcj hzj hzl t3 hb3 hq hlow hb8 hbq kN n0 n1 hLow lbqr zV
      go_upto_region 12 with fail
      rw [← HW3.out, HVV.out]
      clear HW3 e0 e1 e2 e3 e4 e5
      --CUT4
      refine wp_region_X (fun w' => w'.cell? ⟨N, 0, none⟩ = some (.int .i64 r0) ∧ w'.cell? ⟨N, 1, none⟩ = some (.int .i64 r1) ∧ w'.cell? ⟨V, 0, none⟩ = some (.int .i64 m.src.kind) ∧ w'.cell? ⟨V, 1, none⟩ = some (.int .i64 m.src.cls) ∧ w'.cell? ⟨V, 2, none⟩ = some (.int .i64 m.src.n) ∧ w'.cell? ⟨V, 3, none⟩ = some (.int .i64 m.dst.kind) ∧ w'.cell? ⟨V, 4, none⟩ = some (.int .i64 m.dst.cls) ∧ w'.cell? ⟨V, 5, none⟩ = some (.int .i64 m.dst.n) ∧ w'.cell? ⟨bq, offq + j, none⟩ = some (.int .i64 cj)) 99 (by kernel_rfl) (HSS.out _ (Below.refl _ _).drew) (fun hHeld => ?_)
      refine wpXt (v := ?_) 0 rfl (by kernel_rfl) (fun _ _ _ h => h) (by rfl) ?_ hHeld ?_
      rotate_left
      · intro w' hSw
        go_simp <;> with_reducible rfl
      try simp only [Act.put, List.setIfInBounds_toArray, List.set_cons_zero, List.set_cons_succ]
      refine wpXt (v := ?_) 1 rfl (by kernel_rfl) (fun _ _ _ h => h) (by rfl) ?_ hHeld ?_
      rotate_left
      · intro w' hSw
        go_simp <;> with_reducible rfl
      try simp only [Act.put, List.setIfInBounds_toArray, List.set_cons_zero, List.set_cons_succ]
      refine wpXt (v := ?_) 2 rfl (by kernel_rfl) (fun _ _ _ h => h) (by rfl) ?_ hHeld ?_
      rotate_left
      · intro w' hSw
        go_simp <;> with_reducible rfl
      try simp only [Act.put, List.setIfInBounds_toArray, List.set_cons_zero, List.set_cons_succ]
      refine wpXt (v := ?_) 3 rfl (by kernel_rfl) (fun _ _ _ h => h) (by rfl) ?_ hHeld ?_
      rotate_left
      · intro w' hSw
        go_simp <;> with_reducible rfl
      try simp only [Act.put, List.setIfInBounds_toArray, List.set_cons_zero, List.set_cons_succ]
      refine wpXt (v := ?_) 4 rfl (by kernel_rfl) (fun _ _ _ h => h) (by rfl) ?_ hHeld ?_
      rotate_left
      · intro w' hSw
        go_simp <;> with_reducible rfl
      try simp only [Act.put, List.setIfInBounds_toArray, List.set_cons_zero, List.set_cons_succ]
      refine wpXt (v := ?_) 5 rfl (by kernel_rfl) (fun _ _ _ h => h) (by rfl) ?_ hHeld ?_
      rotate_left
      · intro w' hSw
        go_simp <;> with_reducible rfl
      try simp only [Act.put, List.setIfInBounds_toArray, List.set_cons_zero, List.set_cons_succ]
      refine wpXt (v := ?_) 6 rfl (by kernel_rfl) (fun _ _ _ h => h) (by rfl) ?_ hHeld ?_
      rotate_left
      · intro w' hSw
        go_simp <;> with_reducible rfl
      try simp only [Act.put, List.setIfInBounds_toArray, List.set_cons_zero, List.set_cons_succ]
      refine wpXs 7 rfl (by kernel_rfl) (fun K hK => ?_)
      go_simp
      refine HC.mono ?_
      clear HC
      rintro e w4 ⟨rfl, hb4⟩
      have hd4 : Below W3.heap.size W3 w4 := ((Below.refl W3.heap.size W3).drew).trans hb4
      refine hK.out _ _ (HSS.out _ hd4) (fun hHeld => ?_)
      clear hK K
      try simp only [Act.put, List.setIfInBounds_toArray, List.set_cons_zero, List.set_cons_succ]
      refine wpXt (v := ?_) 8 rfl (by kernel_rfl) (fun _ _ _ h => h) (by rfl) ?_ hHeld ?_
      rotate_left
      · intro w' hSw
        go_simp <;> with_reducible rfl
      try simp only [Act.put, List.setIfInBounds_toArray, List.set_cons_zero, List.set_cons_succ]
      refine wpAnyX_done (by kernel_rfl) ?_ _
      have hb34 : Below W3.heap.size W3 w4 := hd4
      have hb14 := HB3.out.1.trans (hb34.mono HB3.out.1.size)
      have hgo := HI.out.go
      rw [HDZ.out] at hgo
      by_cases he : ev = 0
      rotate_left
      · have HE : Hid (ordE r0 r1 fr l cs = ev) := by
          show _ = _
          rw [HE3.out, hgo, ordGo, if_pos (by rw [HEV.out]; exact he), HEV.out]
        have q : (ev == 0) = false := by simpa using he
        have HLW : Hid (Below w.heap.size w w4) := HLO.out.1.trans ((HI.out.kq.below (B := w.heap.size) HLO.out.1.size hwb hwb hwb (fun g hg => by cases hg)).trans (hb14.mono (by have := HLO.out.1.size; omega)))
        have HNE : Hid (ev ≠ 0) := he
        clear he hgo hHeld
        --CUT5
        go_wp2
        refine bodyPost_ret (results_tmp2 rfl _ _ _) rfl ?_
        exact ⟨HLW.out, _, by rw [HE.out]; rfl, fun _ => rfl, fun h => by rw [HE.out] at h; exact absurd h HNE.out⟩
      · subst he
        have mp4 := HI.out.mp.below hb14 HI.out.mp.lt
        have hlk := mp4.look_ok Try.underlying40 (zeroI w4) hwd
        have hnp : (pDst ((l.zip cs).take j)).Nodup := by rw [HI.out.tk]; exact HI.out.nd
        have his := goal_some hnp m.dst
        rw [HI.out.tk] at his
        rw [his] at hlk
        obtain ⟨lv, hlv⟩ : ∃ lv, (goalF ((l.zip cs).take j) m.dst).getD (.int .i64 0) = lv := ⟨_, rfl⟩
        rw [hlv] at hlk
        obtain ⟨s0, s1, s2, s3, s4, s5, s6, s7, s8⟩ := HSS.out w4 hb34
        by_cases hin : m.dst ∈ dsts (l.take j)
        · have HE : Hid (ordE r0 r1 fr l cs = 7) := by
            show _ = _
            rw [HE3.out, hgo, ordGo, if_neg (by rw [HEV.out]; simp), if_pos hin]
          rw [decide_eq_true hin] at hlk
          have HLW : Hid (Below w.heap.size w w4) := HLO.out.1.trans ((HI.out.kq.below (B := w.heap.size) HLO.out.1.size hwb hwb hwb (fun g hg => by cases hg)).trans (hb14.mono (by have := HLO.out.1.size; omega)))
          clear hgo hHeld hin hlv his hnp mp4 HSS
          --CUT6
          go_wp2_with (refine wpL_lookup rfl _ _ _ _ rfl rfl rfl hlk ?_)
          refine bodyPost_ret (results_tmp2 rfl _ _ _) rfl ?_
          exact ⟨HLW.out, _, by rw [HE.out]; rfl, fun _ => rfl, fun h => by rw [HE.out] at h; cases h⟩
        · rw [decide_eq_false hin] at hlk
          have hd5 : Below W3.heap.size W3 w4.drew := hb34.drew
          obtain ⟨w5, r5, m5, t5⟩ := (HI.out.mp.below (hb14.drew) HI.out.mp.lt).store (w := w4.drew) Try.underlying40 (by simp [maxLen]; omega) hwd (.int .i64 cj)
          have HE : Hid (OdI W2 bc r0 r1 fr l cs (j + 1) w5) := by
            refine ⟨(HI.out.kq.trans (Kq.of_below hb14.drew)).trans (Kq.of_turned t5 (Or.inl rfl)), ?_, ?_, ?_, ?_, ?_⟩
            · rw [HTZ.out, goalF_snoc]
              exact m5
            · rw [HT.out]
              unfold dsts
              rw [List.map_append, List.nodup_append]
              refine ⟨HI.out.nd, by simp, fun a ha b hb => ?_⟩
              have e : b = m.dst := by simpa using hb
              rw [e]
              exact fun e2 => hin (e2 ▸ ha)
            · intro p hp
              rw [HTZ.out] at hp
              rcases List.mem_append.1 hp with h | h
              · exact HI.out.ok p h
              · rw [List.mem_singleton.1 h]
                exact HEV.out
            · rw [hgo, ordGo, if_neg (by rw [HEV.out]; simp), if_neg hin, HT.out]
              simp [dsts]
            · rw [HTZ.out, HT.out]
              have := HI.out.tk
              unfold pDst dsts at *
              rw [List.map_append, List.map_append, this]
              rfl
          have HS5 : Hid ((fun w' => w'.cell? ⟨N, 0, none⟩ = some (.int .i64 r0) ∧ w'.cell? ⟨N, 1, none⟩ = some (.int .i64 r1) ∧ w'.cell? ⟨V, 0, none⟩ = some (.int .i64 m.src.kind) ∧ w'.cell? ⟨V, 1, none⟩ = some (.int .i64 m.src.cls) ∧ w'.cell? ⟨V, 2, none⟩ = some (.int .i64 m.src.n) ∧ w'.cell? ⟨V, 3, none⟩ = some (.int .i64 m.dst.kind) ∧ w'.cell? ⟨V, 4, none⟩ = some (.int .i64 m.dst.cls) ∧ w'.cell? ⟨V, 5, none⟩ = some (.int .i64 m.dst.n) ∧ w'.cell? ⟨bq, offq + j, none⟩ = some (.int .i64 cj)) w4.drew) := HSS.out _ hd5
          clear hgo hHeld hin hlv his hnp mp4 HSS HI HT HTZ HDZ
          --CUT7
          go_upto_region 18 with (refine wpL_lookup rfl _ _ _ _ rfl rfl rfl hlk ?_)
          --CUT8
          refine wp_region_X (fun w' => w'.cell? ⟨N, 0, none⟩ = some (.int .i64 r0) ∧ w'.cell? ⟨N, 1, none⟩ = some (.int .i64 r1) ∧ w'.cell? ⟨V, 0, none⟩ = some (.int .i64 m.src.kind) ∧ w'.cell? ⟨V, 1, none⟩ = some (.int .i64 m.src.cls) ∧ w'.cell? ⟨V, 2, none⟩ = some (.int .i64 m.src.n) ∧ w'.cell? ⟨V, 3, none⟩ = some (.int .i64 m.dst.kind) ∧ w'.cell? ⟨V, 4, none⟩ = some (.int .i64 m.dst.cls) ∧ w'.cell? ⟨V, 5, none⟩ = some (.int .i64 m.dst.n) ∧ w'.cell? ⟨bq, offq + j, none⟩ = some (.int .i64 cj)) 7 (by kernel_rfl) HS5.out (fun hHeld => ?_)
          refine wpXt (v := ?_) 0 rfl (by kernel_rfl) (fun _ _ _ h => h) (by rfl) ?_ hHeld ?_
          rotate_left
          · intro w' hSw
            go_simp <;> with_reducible rfl
          try simp only [Act.put, List.setIfInBounds_toArray, List.set_cons_zero, List.set_cons_succ]
          refine wpXt (v := ?_) 1 rfl (by kernel_rfl) (fun _ _ _ h => h) (by rfl) ?_ hHeld ?_
          rotate_left
          · intro w' hSw
            go_simp <;> with_reducible rfl
          try simp only [Act.put, List.setIfInBounds_toArray, List.set_cons_zero, List.set_cons_succ]
          refine wpXt (v := ?_) 2 rfl (by kernel_rfl) (fun _ _ _ h => h) (by rfl) ?_ hHeld ?_
          rotate_left
          · intro w' hSw
            go_simp <;> with_reducible rfl
          try simp only [Act.put, List.setIfInBounds_toArray, List.set_cons_zero, List.set_cons_succ]
          refine wpXt (v := ?_) 3 rfl (by kernel_rfl) (fun _ _ _ h => h) (by rfl) ?_ hHeld ?_
          rotate_left
          · intro w' hSw
            go_simp <;> with_reducible rfl
          try simp only [Act.put, List.setIfInBounds_toArray, List.set_cons_zero, List.set_cons_succ]
          refine wpXt (v := ?_) 4 rfl (by kernel_rfl) (fun _ _ _ h => h) (by rfl) ?_ hHeld ?_
          rotate_left
          · intro w' hSw
            go_simp <;> with_reducible rfl
          try simp only [Act.put, List.setIfInBounds_toArray, List.set_cons_zero, List.set_cons_succ]
          refine wpXt (v := ?_) 5 rfl (by kernel_rfl) (fun _ _ _ h => h) (by rfl) ?_ hHeld ?_
          rotate_left
          · intro w' hSw
            go_simp <;> with_reducible rfl
          try simp only [Act.put, List.setIfInBounds_toArray, List.set_cons_zero, List.set_cons_succ]
          refine wpXt (v := ?_) 6 rfl (by kernel_rfl) (fun _ _ _ h => h) (by rfl) ?_ hHeld ?_
          rotate_left
          · intro w' hSw
            go_simp <;> with_reducible rfl
          try simp only [Act.put, List.setIfInBounds_toArray, List.set_cons_zero, List.set_cons_succ]
          refine wpXl 7 rfl (by kernel_rfl) rfl (by kernel_rfl) (fun K hK => ?_)
          rw [if_pos (by rfl)]
          refine wpO_mapUpdate _ _ _ _ rfl rfl rfl rfl r5 ?_
          refine hK.out _ _ ?_
          clear hK K
          try simp only [Act.put]
          go_wp2
          exact ⟨⟨j + 1, by omega, by simp, HE.out⟩, by simp [intOf]; omega⟩
    · have hjn : j = nc := by omega
      subst hjn
      have hlr : l.length = j := HL.out.2.1
      have hcr : cs.length = l.length := by rw [HL.out.2.2.2.1, HL.out.2.1]
      have hzl : (l.zip cs).length = j := by rw [List.length_zip, hcr, hlr]; omega
      have tk1 : (l.zip cs).take j = l.zip cs := List.take_of_length_le (by omega)
      have tk2 : l.take j = l := List.take_of_length_le (by omega)
      have dr1 : (l.zip cs).drop j = [] := List.drop_of_length_le (by omega)
      have hgo := HI.out.go
      rw [dr1] at hgo
      have HE : Hid (ordE r0 r1 fr l cs = 0) := by
        show _ = _
        rw [HE3.out, hgo]
        rfl
      have hnd := HI.out.nd
      rw [tk2] at hnd
      have hok := HI.out.ok
      rw [tk1] at hok
      have mp1 := HI.out.mp
      rw [tk1] at mp1
      obtain ⟨F, hC⟩ := fit_ord (r0 := r0) (r1 := r1) (fr := fr) (by have := HM.out.1; omega) (by have := HM.out.2; omega) (by omega) hcr hnd hok
      obtain ⟨fC, hfC⟩ : ∃ fC, goalF (l.zip cs) = fC := ⟨_, rfl⟩
      obtain ⟨cl, hcl⟩ : ∃ cl, clO (l.zip cs) = cl := ⟨_, rfl⟩
      rw [hfC, hcl] at hC
      rw [hcl] at F
      rw [hfC] at mp1
      have hl5 : l.length ≤ 5000 := by omega
      have hwf := HL.out.2.2.2.2
      have hlbc := mp1.lt
      have HWO := workOf_any r0 r1 fr (.slice al j cl0) l bc wr (HL.out.1.below hlow fun _ _ h => h) hl5 hwf hlbc
      have HFC : Hid (FitO r0 r1 fr l cl ∧ (∀ m ∈ l, fC m.dst = some (.int .i64 (cl m.dst))) ∧ MapF wr bc j fC) := ⟨F, hC, mp1⟩
      have HLW : Hid (Below w.heap.size w wr ∧ w.heap.size ≤ wr.heap.size) := ⟨hlow, hlow.size⟩
      clear HI hgo hnd hok mp1 F hC hfC hcl tk1 tk2 dr1 hzl hq hlow kN hLow
      --CUT9
      go_upto_region 21 with (go_at_call 11; refine HWO.mono ?_; clear HWO; rintro e w6 ⟨bl, br, rfl, hb6, l1, l2, l3, ml, fR, hR, hR2⟩)
      --CUTa
      obtain ⟨X, hX⟩ : ∃ X, w6.heap.size = X := ⟨_, rfl⟩
      obtain ⟨W7, hW7⟩ : ∃ W7, W7 = w6.alloc (.cells #[.int .i64 r0, .int .i64 r1, .int .i64 fr, .map (some bc), .map (some bl), .map (some br), .slice none 0 0] 45) := ⟨_, rfl⟩
      have hb7 : Below w6.heap.size w6 W7 := by rw [hW7]; exact (Below.refl _ _).alloc (Nat.le_refl _) _
      have rX := World.rowIs_alloc w6 #[.int .i64 r0, .int .i64 r1, .int .i64 fr, .map (some bc), .map (some bl), .map (some br), .slice none 0 0] 45 (woF r0 r1 fr bc bl br nilV) (fun i hi => by
        have : i = 0 ∨ i = 1 ∨ i = 2 ∨ i = 3 ∨ i = 4 ∨ i = 5 ∨ i = 6 := by simp at hi; omega
        rcases this with rfl | rfl | rfl | rfl | rfl | rfl | rfl <;> rfl)
      rw [← hW7, hX] at rX
      have zW7 : W7.heap.size = X + 1 := by rw [hW7, ← hX]; simp
      have hb17 := hb6.trans (hb7.mono hb6.size)
      have hz6 := hb6.size
      have F := HFC.out.1
      have kS : WoS X bc bl br (X + 1) r0 r1 fr j fC l.length l.length (leftOf l) (rdF l) nilV [] W7 := by
        refine ⟨rX, (HFC.out.2.2.below hb17 HFC.out.2.2.lt), ?_, ⟨fR, hR.below hb7 hR.lt, hR2⟩, ⟨rfl, Or.inl ⟨rfl, rfl⟩⟩, l1, l2, by omega, by omega, by omega⟩
        have h := ml.below hb7 ml.lt
        rw [leftF_is F.nd] at h
        exact h
      have kF : FrC X bc bl br (X + 1) r0 r1 fr j fC l cl nilV W7 (leftOf l) (rdF l) nilV [] l.length W7 := by
        refine ⟨kS, Kq.refl _ _ _ _ _, OrI.start F, rdF_is F.nd, ?_⟩
        have : cntL l (leftOf l) ≤ l.length := List.length_filter_le _ _
        omega
      have hlow7 : Below w.heap.size w W7 := HLW.out.1.trans (hb17.mono HLW.out.2)
      have hwbl : w.heap.size ≤ bl := by omega
      have HFR := free_any F HFC.out.2.1 hwf hl5 (.slice al j cl0) HL.out.1 hlow7 hwbl kF
      have HX : Hid (w6.heap.size = X) := hX
      have HW7 : Hid (W7 = w6.alloc (.cells #[.int .i64 r0, .int .i64 r1, .int .i64 fr, .map (some bc), .map (some bl), .map (some br), .slice none 0 0] 45)) := hW7
      have HL7 : Hid (Below w.heap.size w W7) := hlow7
      have lbr : br < X := by omega
      clear hX hW7 hb7 rX hb17 kS kF ml hR hR2 hlow7 hb6 F n0 n1
      rw [← HW7.out, HX.out]
      clear HW7
      --CUTb
      go_upto_region 22 with (go_at_call 12; refine HFR.mono ?_; clear HFR; rintro e w8 ⟨rfl, left, rd, vd, done, nR, k8, hst⟩)
      have hP8 := PermL.of_stuck HFC.out.1 k8.inv hst
      have RS8 : RsC X bc bl br (X + 1) r0 r1 fr j fC l cl rd vd w8 nR 0 w8 := ⟨left, vd, done, k8.st, k8.inv, hP8, fun m hm => by simp at hm, Kq.refl _ _ _ _ _⟩
      have q8 := k8.kq.below (B := w.heap.size) (by have := HL7.out.size; omega) (by omega) hwbl (by omega) (fun g hg => by cases hg)
      have hlow8 := HL7.out.trans q8
      have HRN := rings_any HFC.out.1 HFC.out.2.1 hwf hl5 (.slice al j cl0) HL.out.1 hlow8 hwbl l1 l2 lbr (Nat.lt_succ_self X) k8.st.lB (fun g hg => (own_base k8.st.own hg).1) RS8
      have HLO8 : Hid (Below w.heap.size w w8 ∧ w.heap.size ≤ w8.heap.size) := ⟨hlow8, hlow8.size⟩
      have HO8 : Hid (∀ g, vd.ownBlock = some g → X + 1 ≤ g) := fun g hg => (own_base k8.st.own hg).1
      clear RS8 q8 hlow8 hP8 hst k8
      --CUTc
      go_upto_region 23 with (go_at_call 13; refine HRN.mono ?_; clear HRN; rintro e w9 ⟨rfl, R9⟩)
      obtain ⟨left9, vd9, done9, k9, i9, p9, n9, q9⟩ := R9.ex
      obtain ⟨a9, c9, rfl⟩ := k9.form
      have hR9 := i9.right (by
        rw [List.take_length] at n9
        exact n9)
      have x6 : w9.cell? ⟨X, 6, none⟩ = some (.slice a9 done9.length c9) := k9.bx.cell (i := 6) (by omega)
      have hdl := hR9.len
      have HEND : Hid (Below w.heap.size w w9 ∧ SlOf w9 6 RMv (.slice a9 done9.length c9) done9 ∧ RightO r0 r1 fr l done9) := by
        refine ⟨HLO8.out.1.trans (q9.below (B := w.heap.size) HLO8.out.2 (by omega) hwbl (by omega) (fun g hg => by have := HO8.out g hg; omega)), own_sl cMv (fun _ => rfl) (by decide) (fun _ => rfl) done9 k9.own (by unfold longest; omega), hR9⟩
      clear k9 i9 p9 n9 q9 R9 hR9 hdl
      --CUTd
      go_wp2
      refine bodyPost_ret (results_tmp2 rfl _ _ _) rfl ?_
      exact ⟨HEND.out.1, _, by rw [HE.out]; rfl, fun h => absurd HE.out h, fun _ => ⟨done9, HEND.out.2⟩⟩
end Go.Proofs.Ytdlglinbjkaokab
