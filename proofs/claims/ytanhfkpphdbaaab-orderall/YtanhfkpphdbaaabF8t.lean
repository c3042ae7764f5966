/-
  What holds of the tree of a function in which flow finds no fault. No Go in here.
-/
import Derived.Test.YtanhfkpphdbaaabF8d
namespace Go.Proofs.Ytanhfkpphdbaaab
open Go.RowKit
set_option linter.unusedVariables false

structure TF (f : Fn) (n : Nat) (ord : List Int) (idom dep : Nat → Int) : Prop where
  pos : 0 < n
  few : n ≤ 16
  olen : ord.length = n
  first : ord.getD 0 0 = 0
  nod : ord.Nodup
  rng : ∀ x ∈ ord, 0 ≤ x ∧ x < (n : Int)
  id0 : idom 0 = -1
  idr : ∀ i, i < n → -1 ≤ idom i ∧ idom i < n
  idp : ∀ i, 0 < i → i < n → 0 ≤ idom i
  beh : ∀ i, 0 < i → i < n → idom (ord.getD i 0).toNat ∈ ord.take i
  dom0 : ∀ k : Nat, k < n → domG idom (n + 1) 0 k = true
  blen : f.blocks.length = n
  rngE : ∀ b ∈ f.blocks, ∀ e ∈ b.edges, 0 ≤ e.block ∧ e.block < (n : Int)
  suc : ∀ k t, t ∈ succM f.blocks k → t < n
  sucp : ∀ k t, t ∈ succM f.blocks k → 0 < t
  domE : ∀ k t : Nat, k < n → t ∈ succM f.blocks k → domG idom (n + 1) (idom t) k = true
  dep0 : dep 0 = 0
  depE : ∀ k t : Nat, k < n → t ∈ succM f.blocks k → dep t ≤ dep k + 1 ∧ (domG idom (n + 1) t k = true → 1 ≤ dep t ∧ dep t ≤ dep k)
  depr : ∀ k : Nat, 0 ≤ dep k ∧ dep k ≤ n
  use : ∀ (k i : Nat) (x : Ins) (o : Opr), k < n → (f.blocks.getD k ⟨[], [], []⟩).instrs[i]? = some x → o ∈ x.operands → o.kind = 1 → (0 ≤ o.value ∧ o.value < f.values.length) ∧ domG idom (n + 1) (spotOf (spU f.blocks n) o.value.toNat).1 k = true
theorem succ_mem {bs : List Blk} {k : Nat} (hk : k < bs.length) {e : Edg} (he : e ∈ bs[k].edges) : e.block.toNat ∈ succM bs k := by
  unfold succM
  rw [List.getD_eq_getElem?_getD, List.getElem?_eq_getElem hk]
  exact List.mem_map_of_mem he
theorem flowE_zero {f : Fn} {m0 m1 : Int} {K : Nat} (h : flowE f m0 m1 K = 0) : shapeErr f m0 m1 = 0 ∧ f.blocks.length ≤ (orderM f.blocks).length ∧ manyL (predsL f.blocks) f.blocks = false ∧ madeL (spU f.blocks f.blocks.length) (idomF f K) f.blocks = true := by
  unfold flowE at h
  split at h
  · contradiction
  · rename_i h1
    split at h
    · cases h
    · rename_i h2
      split at h
      · cases h
      · rename_i h3
        split at h
        · rename_i h4
          exact ⟨by simpa using h1, by omega, by simpa using h3, h4⟩
        · cases h
theorem tree_facts {f : Fn} {m0 m1 : Int} (h : flowE f m0 m1 (f.blocks.length * f.blocks.length + 1) = 0) : TF f f.blocks.length (orderM f.blocks) (idomF f (f.blocks.length * f.blocks.length + 1)) (depthF f (f.blocks.length * f.blocks.length + 1)) := by
  obtain ⟨hs, hlen, hmany, hmade⟩ := flowE_zero h
  have S := shape_in hs
  have I := flowIn_all hs
  obtain ⟨g, hf⟩ := I.gr hlen
  have hroot := order_first f.blocks S.pos I.suc
  obtain ⟨n, hn⟩ : ∃ n, f.blocks.length = n := ⟨_, rfl⟩
  obtain ⟨K, hK⟩ : ∃ K, n * n + 1 = K := ⟨_, rfl⟩
  have hK0 : 0 < K := by omega
  unfold depthF idomF
  unfold idomF at hmade
  rw [hn, hK] at hf hmade ⊢
  rw [hn] at g
  have hpos := S.pos
  have hnb := S.nb
  rw [hn] at hpos hnb
  have kt := kt_at g K
  have rt : roundsM (predL (predsL f.blocks)) (orderM f.blocks) n K ((orderM f.blocks).getD 0 0).toNat = -1 := (RI.rounds g K).1.rt
  have hsuc : ∀ k t, t ∈ succM f.blocks k → t < n := fun k t ht => by rw [← hn]; exact I.suc k t ht
  have hsucp : ∀ k t, t ∈ succM f.blocks k → 0 < t := fun k t ht => by
    unfold succM at ht
    obtain ⟨e, he, rfl⟩ := List.mem_map.1 ht
    by_cases hk : k < f.blocks.length
    · rw [List.getD_eq_getElem?_getD, List.getElem?_eq_getElem hk] at he
      have := (edgeErr_val (S.edg _ (List.getElem_mem hk) e he)).1
      omega
    · rw [List.getD_eq_getElem?_getD, List.getElem?_eq_none (by omega)] at he
      cases he
  have dG : ∀ a b : Int, 0 ≤ b → b < n → (domG (roundsM (predL (predsL f.blocks)) (orderM f.blocks) n K) (n + 1) a b = true ↔ Up ((orderM f.blocks).getD 0 0) (roundsM (predL (predsL f.blocks)) (orderM f.blocks) n K) b a) := fun a b b0 b1 => by
    have := kt.rng b b0 b1
    exact domG_iff kt rt (n + 1) b (all_kn g K hK0 b b0 b1) (by omega)
  have hup : ∀ b : Int, 0 < b → b < n → Kn n ((orderM f.blocks).getD 0 0) (roundsM (predL (predsL f.blocks)) (orderM f.blocks) n K) (roundsM (predL (predsL f.blocks)) (orderM f.blocks) n K b.toNat) ∧ rankM (orderM f.blocks) (roundsM (predL (predsL f.blocks)) (orderM f.blocks) n K b.toNat).toNat < rankM (orderM f.blocks) b.toNat := fun b b0 b1 => kt.up b (all_kn g K hK0 b (by omega) b1) (by rw [hroot]; omega)
  have hpred : ∀ k t : Nat, k < n → t ∈ succM f.blocks k → (k : Int) ∈ predL (predsL f.blocks) t := fun k t hk ht => by
    show (k : Int) ∈ (predsL f.blocks).getD t []
    rw [mem_preds (by rw [hn]; exact hsuc k t ht)]
    exact ⟨by omega, by rw [hn]; omega, by rw [Int.toNat_natCast]; exact ht⟩
  have hrr : ∀ b : Nat, roundsM (predL (predsL f.blocks)) (orderM f.blocks) n K b = roundsM (predL (predsL f.blocks)) (orderM f.blocks) n K (b : Int).toNat := fun b => by rw [Int.toNat_natCast]
  have h00 : roundsM (predL (predsL f.blocks)) (orderM f.blocks) n K 0 = -1 := by
    have := rt
    rw [hroot] at this
    exact this
  refine ⟨hpos, hnb, g.olen, hroot, g.nod, g.rng, h00, fun i hi => ?_, fun i h0 hi => ?_, fun i h0 hi => ?_, fun k hk => ?_, hn, fun b hb e he => by rw [← hn]; exact I.rng b hb e he, hsuc, hsucp, fun k t hk ht => ?_, ?_, fun k t hk ht => ?_, fun k => ?_, fun k i x o hk hx ho hko => ?_⟩
  · by_cases e : i = 0
    · rw [e, h00]; omega
    · have := (hup i (by omega) (by omega)).1
      rw [Int.toNat_natCast] at this
      exact ⟨by have := this.1; omega, this.2.1⟩
  · have := (hup i (by omega) (by omega)).1
    rw [Int.toNat_natCast] at this
    exact this.1
  · have hl : i < (orderM f.blocks).length := by rw [g.olen]; exact hi
    have hm : (orderM f.blocks).getD i 0 ∈ orderM f.blocks := by
      rw [List.getD_eq_getElem?_getD, List.getElem?_eq_getElem hl]
      exact List.getElem_mem _
    have hr := g.rng _ hm
    have hne : (orderM f.blocks).getD i 0 ≠ 0 := fun e => by
      have := g.getD_ne i 0 hi hpos (by omega)
      rw [e, hroot] at this
      exact this rfl
    have hu := hup _ (by omega) hr.2
    have hrk := g.rank_at i hi
    generalize roundsM (predL (predsL f.blocks)) (orderM f.blocks) n K ((orderM f.blocks).getD i 0).toNat = d at *
    have hd : d ∈ orderM f.blocks := g.all d hu.1.1 hu.1.2.1
    have h2 := hu.2
    rw [hrk, rank_mem hu.1.1] at h2
    have hix : (orderM f.blocks).idxOf d < i := by omega
    have hixl := List.idxOf_lt_length_of_mem hd
    have : (orderM f.blocks)[(orderM f.blocks).idxOf d] = d := List.getElem_idxOf hixl
    rw [← this]
    exact List.mem_take_iff_getElem.2 ⟨(orderM f.blocks).idxOf d, by omega, rfl⟩
  · rw [dG 0 k (by omega) (by omega)]
    have := kt.rng (k : Int) (by omega) (by omega)
    have hh := up_root g hK0 n k (by omega) (by omega) (by omega)
    rw [hroot] at hh ⊢
    exact hh
  · rw [dG _ k (by omega) (by omega)]
    have t1 := hsuc k t ht
    have t0 := hsucp k t ht
    have hu := hup t (by omega) (by omega)
    rw [Int.toNat_natCast] at hu
    have hne : roundsM (predL (predsL f.blocks)) (orderM f.blocks) n K t ≠ (t : Int) := fun e => by
      have := hu.2
      rw [e, Int.toNat_natCast] at this
      omega
    refine (fix_back g hK0 hf).back _ (t : Int) (k : Int) (by omega) (by omega) (.step (by rw [hroot]; omega) ?_) hne (by rw [Int.toNat_natCast]; exact hpred k t hk ht)
    rw [Int.toNat_natCast]
    exact .refl _
  · refine depth_root g hK0 hf hroot ?_
    cases e : predL (predsL f.blocks) 0 with
    | nil => rfl
    | cons p r =>
      have hm : p ∈ (predsL f.blocks).getD 0 [] := by
        show p ∈ predL (predsL f.blocks) 0
        rw [e]
        exact List.mem_cons_self
      rw [mem_preds S.pos] at hm
      exact absurd (hsucp _ _ hm.2.2) (by omega)
  · have := depth_edge g hK0 hf t (hsuc k t ht) k (hpred k t hk ht)
    rw [Int.toNat_natCast] at this
    exact ⟨this.1, fun hd => this.2 ((dG t k (by omega) (by omega)).1 hd)⟩
  · unfold depthM
    have := List.countP_le_length (p := fun h => loopM (predL (predsL f.blocks)) (roundsM (predL (predsL f.blocks)) (orderM f.blocks) n K) n h k) (l := List.range n)
    simp at this
    omega
  · have hkb : k < f.blocks.length := by omega
    have hb : f.blocks.getD k ⟨[], [], []⟩ = f.blocks[k] := by rw [List.getD_eq_getElem?_getD, List.getElem?_eq_getElem hkb]; rfl
    rw [hb] at hx
    obtain ⟨hil, hix⟩ := List.getElem?_eq_some_iff.1 hx
    have hval := isValue_bd (instrErr_val (S.ins _ (List.getElem_mem hkb) x (by rw [← hix]; exact List.getElem_mem _)) o ho)
    refine ⟨hval, ?_⟩
    rw [dG _ k (by omega) (by omega)]
    unfold madeL at hmade
    rw [List.all_eq_true] at hmade
    have h1 := hmade k (List.mem_range.2 hkb)
    unfold blkOk at h1
    rw [hb] at h1
    simp only [Bool.and_eq_true, List.all_eq_true, List.mem_range] at h1
    have h2 := h1.1 i hil
    unfold insOk at h2
    rw [List.all_eq_true] at h2
    have h3 := h2 o (by rw [List.getD_eq_getElem?_getD, hx]; exact ho)
    unfold useOk at h3
    simp only [hko, BEq.rfl, Bool.not_true, Bool.false_or] at h3
    unfold aheadM at h3
    split at h3
    · rename_i e
      rw [e]
      exact .refl _
    · rw [hn] at h3
      have hsp : 0 ≤ (spotOf (spU f.blocks n) o.value.toNat).1 := by
        have key : ∀ (L : List (Int × Spot)) (v : Nat) (s : Spot), 0 ≤ s.1 → (∀ p ∈ L, 0 ≤ p.2.1) → 0 ≤ (L.foldl (fun s p => if p.1 = (v : Int) then p.2 else s) s).1 := fun L v => by
          induction L with
          | nil => intro s hs _; exact hs
          | cons p r ih =>
            intro s hs hp
            rw [List.foldl_cons]
            refine ih _ ?_ fun q hq => hp q (List.mem_cons_of_mem _ hq)
            split
            · exact hp p List.mem_cons_self
            · exact hs
        refine key _ _ _ (by simp) fun p hp => ?_
        unfold spU at hp
        obtain ⟨b, _, hp⟩ := List.mem_flatMap.1 hp
        unfold blkSp at hp
        rcases List.mem_append.1 hp with hp | hp
        · obtain ⟨v, _, rfl⟩ := List.mem_map.1 hp
          simp
        · obtain ⟨i, _, hp⟩ := List.mem_flatMap.1 hp
          obtain ⟨v, _, rfl⟩ := List.mem_map.1 hp
          simp
      exact (dom_end g hK0 hsp (by omega) (by omega)).1 h3
end Go.Proofs.Ytanhfkpphdbaaab
