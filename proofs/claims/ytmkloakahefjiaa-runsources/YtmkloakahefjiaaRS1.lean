/-
  The reference's 'SourceRun': what an instruction reads, and what it makes.
-/
import Derived.Test.YtmkloakahefjiaaR5
import Derived.Test.YtmkloakahefjiaaRR
import Derived.Deep.CutRange
namespace Go.Proofs.Ytmkloakahefjiaa
open Go.RowKit
set_option linter.unusedVariables false

/-- The block of a code that bears a number. -/
def blkM (id : Nat) : Code → Option Code
  | .seq a b => match blkM id a with | some c => some c | none => blkM id b
  | .cond _ a b => match blkM id a with | some c => some c | none => blkM id b
  | .block i b => if i = id then some (.block i b) else blkM id b
  | .loop b => blkM id b
  | .scope b => blkM id b
  | _ => none

set_option maxRecDepth 8000 in
set_option maxHeartbeats 8000000 in
theorem source_reads (P Y k nv no co ni ci b7 off7 : Nat) (ao : Option Addr) (now : List Int) (os : List Opr) (w : World) (HX : Hid (∀ w', Below w.heap.size w w' → w'.cell? ⟨P, 1, none⟩ = some (.slice (some ⟨b7, off7, none⟩) ni ci) ∧ w'.cell? ⟨b7, off7 + k * 3 + 1, none⟩ = some (.slice ao no co) ∧ P < w'.heap.size ∧ b7 < w'.heap.size)) (HY : Hid (w.rowIs Y 3 nv (nowF now))) (HOS : Hid (SlOf w 5 ROpr (.slice ao no co) os ∧ os.length = no)) (HD : Hid (∀ o ∈ os, 0 ≤ o.value ∧ o.value < (nv : Int))) (hki : k < ni) (hno : no ≤ 1000) (hnv : nv ≤ 1000)
    (a0 a1 a2 a3 a4 a5 a6 a7 a8 a9 a10 a11 a13 a15 a17 a20 a21 a22 a23 a24 a25 a26 a27 a28 a29 a30 a31 a32 a33 a34 a35 a36 a37 a38 a39 a40 a41 a42 a43 a44 a45 a46 a47 a48 a49 a50 a51 a52 a53 a54 a55 a56 a57 a58 a59 a60 a61 a62 a63 a64 a65 a66 a67 a68 a69 a70 a71 a72 a73 a74 a75 a76 a77 a78 a79 a80 a81 a82 a83 a84 a85 a86 a87 a88 a89 a90 a91 a92 a93 a94 a95 a96 a97 a98 a99 a100 a101 a102 a103 a104 a105 a106 a107 a108 a109 a110 a111 a112 a113 a114 a115 a116 a117 a118 a119 a120 a121 a122 a123 a124 a125 a126 a127 a128 a129 a130 a131 a132 a133 a134 a135 a136 a137 a138 a139 a140 a141 a142 a143 a144 a145 a146 a147 a148 a149 a150 a151 a152 a153 a154 a155 a156 a157 a158 a159 a160 a161 a162 a163 a164 a165 a166 a167 a168 a169 a170 a171 a172 a173 a174 a175 a176 a177 a178 a179 a180 a181 a182 a183 a184 a185 a186 a187 a188 a189 a190 a191 a192 a193 a194 : Value) (K : Act → World → Prop) (Q : Exit → Act → World → Prop)
    (hpost : (∀ (n : Nat) (as' : Option Addr) (cs' : Nat) (wr : World), n = (readsM now os).length → GrS w w.heap.size (.slice as' n cs') (readsM now os) wr → ∀ (b19 b20 b56 b57 b58 b59 b60 b61 b62 b63 b64 b65 b66 b67 b68 b69 b70 b71 b72 b73 b74 b75 b76 b77 b78 b79 b80 b81 b82 b83 b84 b85 b86 : Value), K { tmps := (List.toArray (a0 :: a1 :: a2 :: a3 :: a4 :: a5 :: a6 :: a7 :: a8 :: a9 :: a10 :: a11 :: (.slice (some ⟨Y, 0, none⟩) nv nv : Value) :: a13 :: (.int .i64 k : Value) :: a15 :: (.pointer (some ⟨P, 0, none⟩) : Value) :: a17 :: (.slice as' n cs' : Value) :: b19 :: b20 :: a21 :: a22 :: a23 :: a24 :: a25 :: a26 :: a27 :: a28 :: a29 :: a30 :: a31 :: a32 :: a33 :: a34 :: a35 :: a36 :: a37 :: a38 :: a39 :: a40 :: a41 :: a42 :: a43 :: a44 :: a45 :: a46 :: a47 :: a48 :: a49 :: a50 :: a51 :: a52 :: a53 :: a54 :: a55 :: b56 :: b57 :: b58 :: b59 :: b60 :: b61 :: b62 :: b63 :: b64 :: b65 :: b66 :: b67 :: b68 :: b69 :: b70 :: b71 :: b72 :: b73 :: b74 :: b75 :: b76 :: b77 :: b78 :: b79 :: b80 :: b81 :: b82 :: b83 :: b84 :: b85 :: b86 :: a87 :: a88 :: a89 :: a90 :: a91 :: a92 :: a93 :: a94 :: a95 :: a96 :: a97 :: a98 :: a99 :: a100 :: a101 :: a102 :: a103 :: a104 :: a105 :: a106 :: a107 :: a108 :: a109 :: a110 :: a111 :: a112 :: a113 :: a114 :: a115 :: a116 :: a117 :: a118 :: a119 :: a120 :: a121 :: a122 :: a123 :: a124 :: a125 :: a126 :: a127 :: a128 :: a129 :: a130 :: a131 :: a132 :: a133 :: a134 :: a135 :: a136 :: a137 :: a138 :: a139 :: a140 :: a141 :: a142 :: a143 :: a144 :: a145 :: a146 :: a147 :: a148 :: a149 :: a150 :: a151 :: a152 :: a153 :: a154 :: a155 :: a156 :: a157 :: a158 :: a159 :: a160 :: a161 :: a162 :: a163 :: a164 :: a165 :: a166 :: a167 :: a168 :: a169 :: a170 :: a171 :: a172 :: a173 :: a174 :: a175 :: a176 :: a177 :: a178 :: a179 :: a180 :: a181 :: a182 :: a183 :: a184 :: a185 :: a186 :: a187 :: a188 :: a189 :: a190 :: a191 :: a192 :: a193 :: a194 :: [])), defers := [] } wr))
    (cd : Code) (hcd : blkM 2 (Try.f5.body.getD .skip) = some cd) :
    cd.wp Try.prog (Exit.then K Q) { tmps := (List.toArray (a0 :: a1 :: a2 :: a3 :: a4 :: a5 :: a6 :: a7 :: a8 :: a9 :: a10 :: a11 :: (.slice (some ⟨Y, 0, none⟩) nv nv : Value) :: a13 :: (.int .i64 k : Value) :: a15 :: (.pointer (some ⟨P, 0, none⟩) : Value) :: a17 :: (.slice none 0 0 : Value) :: (.int .i64 0 : Value) :: a20 :: a21 :: a22 :: a23 :: a24 :: a25 :: a26 :: a27 :: a28 :: a29 :: a30 :: a31 :: a32 :: a33 :: a34 :: a35 :: a36 :: a37 :: a38 :: a39 :: a40 :: a41 :: a42 :: a43 :: a44 :: a45 :: a46 :: a47 :: a48 :: a49 :: a50 :: a51 :: a52 :: a53 :: a54 :: a55 :: a56 :: a57 :: a58 :: a59 :: a60 :: a61 :: a62 :: a63 :: a64 :: a65 :: a66 :: a67 :: a68 :: a69 :: a70 :: a71 :: a72 :: a73 :: a74 :: a75 :: a76 :: a77 :: a78 :: a79 :: a80 :: a81 :: a82 :: a83 :: a84 :: a85 :: a86 :: a87 :: a88 :: a89 :: a90 :: a91 :: a92 :: a93 :: a94 :: a95 :: a96 :: a97 :: a98 :: a99 :: a100 :: a101 :: a102 :: a103 :: a104 :: a105 :: a106 :: a107 :: a108 :: a109 :: a110 :: a111 :: a112 :: a113 :: a114 :: a115 :: a116 :: a117 :: a118 :: a119 :: a120 :: a121 :: a122 :: a123 :: a124 :: a125 :: a126 :: a127 :: a128 :: a129 :: a130 :: a131 :: a132 :: a133 :: a134 :: a135 :: a136 :: a137 :: a138 :: a139 :: a140 :: a141 :: a142 :: a143 :: a144 :: a145 :: a146 :: a147 :: a148 :: a149 :: a150 :: a151 :: a152 :: a153 :: a154 :: a155 :: a156 :: a157 :: a158 :: a159 :: a160 :: a161 :: a162 :: a163 :: a164 :: a165 :: a166 :: a167 :: a168 :: a169 :: a170 :: a171 :: a172 :: a173 :: a174 :: a175 :: a176 :: a177 :: a178 :: a179 :: a180 :: a181 :: a182 :: a183 :: a184 :: a185 :: a186 :: a187 :: a188 :: a189 :: a190 :: a191 :: a192 :: a193 :: a194 :: [])), defers := [] } w := by
  have HPOST : Hid (∀ (n : Nat) (as' : Option Addr) (cs' : Nat) (wr : World), n = (readsM now os).length → GrS w w.heap.size (.slice as' n cs') (readsM now os) wr → ∀ (b19 b20 b56 b57 b58 b59 b60 b61 b62 b63 b64 b65 b66 b67 b68 b69 b70 b71 b72 b73 b74 b75 b76 b77 b78 b79 b80 b81 b82 b83 b84 b85 b86 : Value), K { tmps := (List.toArray (a0 :: a1 :: a2 :: a3 :: a4 :: a5 :: a6 :: a7 :: a8 :: a9 :: a10 :: a11 :: (.slice (some ⟨Y, 0, none⟩) nv nv : Value) :: a13 :: (.int .i64 k : Value) :: a15 :: (.pointer (some ⟨P, 0, none⟩) : Value) :: a17 :: (.slice as' n cs' : Value) :: b19 :: b20 :: a21 :: a22 :: a23 :: a24 :: a25 :: a26 :: a27 :: a28 :: a29 :: a30 :: a31 :: a32 :: a33 :: a34 :: a35 :: a36 :: a37 :: a38 :: a39 :: a40 :: a41 :: a42 :: a43 :: a44 :: a45 :: a46 :: a47 :: a48 :: a49 :: a50 :: a51 :: a52 :: a53 :: a54 :: a55 :: b56 :: b57 :: b58 :: b59 :: b60 :: b61 :: b62 :: b63 :: b64 :: b65 :: b66 :: b67 :: b68 :: b69 :: b70 :: b71 :: b72 :: b73 :: b74 :: b75 :: b76 :: b77 :: b78 :: b79 :: b80 :: b81 :: b82 :: b83 :: b84 :: b85 :: b86 :: a87 :: a88 :: a89 :: a90 :: a91 :: a92 :: a93 :: a94 :: a95 :: a96 :: a97 :: a98 :: a99 :: a100 :: a101 :: a102 :: a103 :: a104 :: a105 :: a106 :: a107 :: a108 :: a109 :: a110 :: a111 :: a112 :: a113 :: a114 :: a115 :: a116 :: a117 :: a118 :: a119 :: a120 :: a121 :: a122 :: a123 :: a124 :: a125 :: a126 :: a127 :: a128 :: a129 :: a130 :: a131 :: a132 :: a133 :: a134 :: a135 :: a136 :: a137 :: a138 :: a139 :: a140 :: a141 :: a142 :: a143 :: a144 :: a145 :: a146 :: a147 :: a148 :: a149 :: a150 :: a151 :: a152 :: a153 :: a154 :: a155 :: a156 :: a157 :: a158 :: a159 :: a160 :: a161 :: a162 :: a163 :: a164 :: a165 :: a166 :: a167 :: a168 :: a169 :: a170 :: a171 :: a172 :: a173 :: a174 :: a175 :: a176 :: a177 :: a178 :: a179 :: a180 :: a181 :: a182 :: a183 :: a184 :: a185 :: a186 :: a187 :: a188 :: a189 :: a190 :: a191 :: a192 :: a193 :: a194 :: [])), defers := [] } wr) := hpost
  clear hpost
  obtain rfl := Option.some.inj (hcd.symm.trans (rfl : blkM 2 (Try.f5.body.getD .skip) = some _))
  clear hcd
  obtain ⟨i3, hi3, hz3, hz31, hz32⟩ := ru_parts ruInfo
  have hki2 : (k : Int) < (ni : Int) := by omega
  go_wp2_with fail
  go_loopw [19, 18] (fun i s wr => ∃ (j n : Nat) (as' : Option Addr) (cs' : Nat), j ≤ no ∧ n ≤ j ∧ i = .int .i64 j ∧ s = .slice as' n cs' ∧ Hid (GrS w w.heap.size (.slice as' n cs') (readsM now (os.take j)) wr) ∧ Hid ((readsM now (os.take j)).length = n)) (fun i _ _ => no - (intOf i).toNat)
  case atStart => exact ⟨0, 0, _, _, Nat.zero_le _, Nat.le_refl _, rfl, rfl, (by show GrS _ _ _ _ _; simpa [readsM] using GrS.nil w), by show _ = _; simp [readsM]⟩
  case round =>
    obtain ⟨j, n, as', cs', hj, hnj, rfl, rfl, HI, HLN⟩ := hrel
    obtain ⟨x1, x2, lP, l7⟩ := HX.out _ HI.out.low
    by_cases hlt : j < no
    · have hjl : j < os.length := by rw [HOS.out.2]; exact hlt
      obtain ⟨b8, off8, rfl, hb8, o0, o1, o2, o3, o4⟩ := opr_cells HOS.out.1 j hjl
      have e0 := (HI.out.low.cell (p := ⟨b8, _, none⟩) hb8).trans o0
      have e1 := (HI.out.low.cell (p := ⟨b8, _, none⟩) hb8).trans o1
      have e2 := (HI.out.low.cell (p := ⟨b8, _, none⟩) hb8).trans o2
      have e3 := (HI.out.low.cell (p := ⟨b8, _, none⟩) hb8).trans o3
      have e4 := (HI.out.low.cell (p := ⟨b8, _, none⟩) hb8).trans o4
      have hdo := HD.out os[j] (List.getElem_mem hjl)
      have HT : Hid (readsM now (os.take (j + 1)) = if os[j].kind = 1 then readsM now (os.take j) ++ [now.getD os[j].value.toNat 0] else readsM now (os.take j)) := reads_take now os j hjl
      clear o0 o1 o2 o3 o4 hb8
      generalize os[j] = o at *
      obtain ⟨V, hV⟩ : ∃ V : Nat, o.value = V := ⟨o.value.toNat, by omega⟩
      have v1 : V < nv := by omega
      have v2 : (V : Int) < (nv : Int) := by omega
      have y1 : wr.cell? ⟨Y, V, none⟩ = some (.int .i64 (now.getD V 0)) := (HI.out.low.cell HY.out.lt).trans (HY.out.cell v1)
      have HT2 : Hid (readsM now (os.take (j + 1)) = if o.kind = 1 then readsM now (os.take j) ++ [now.getD V 0] else readsM now (os.take j)) := by
        have h := HT.out
        rw [hV, Int.toNat_natCast] at h
        exact h
      rw [hV] at e1
      obtain ⟨okd, ovl, olt, olm, onn⟩ := o
      simp only at e0 e1 e2 e3 e4 hV
      clear HT hdo
      generalize now.getD V 0 = x at *
      by_cases hk1 : okd = 1
      · have q : (okd == 1) = true := by simp [hk1]
        have HE : Hid (readsM now (os.take (j + 1)) = readsM now (os.take j) ++ [x]) := by
          have h := HT2.out
          rw [if_pos hk1] at h
          exact h
        obtain ⟨W5, hW5⟩ : ∃ W5, W5 = wr.alloc (.cells #[.int .i64 okd, .int .i64 V, .bool olt, .int .i64 olm, .int .i64 onn] 49) := ⟨_, rfl⟩
        obtain ⟨Z, hZ⟩ : ∃ Z, wr.heap.size = Z := ⟨_, rfl⟩
        have b5 : Below wr.heap.size wr W5 := by rw [hW5]; exact (Below.refl _ _).alloc (Nat.le_refl _) _
        have q0 : W5.cell? ⟨Z, 0, none⟩ = some (.int .i64 okd) := by rw [hW5, ← hZ]; simp
        have q1 : W5.cell? ⟨Z, 1, none⟩ = some (.int .i64 V) := by rw [hW5, ← hZ]; simp
        have z1 : W5.cell? ⟨Y, V, none⟩ = some (.int .i64 x) := (b5.cell (block_lt y1)).trans y1
        have hG : GrS w w.heap.size (.slice as' n cs') (readsM now (os.take j)) W5 := HI.out.below b5
        have HG5 : Hid (GrS w w.heap.size (.slice as' n cs') (readsM now (os.take j)) W5) := hG
        have own := hG.own
        rw [HLN.out] at own
        have oA := own.alloc (.cells #[.int .i64 x] 3)
        have hle := hG.le
        clear hk1 HT2
        go_upto_region 21 with fail
        rw [← hW5]
        clear hW5 hZ b5 hG e0 e1 e2 e3 e4 y1 x1 x2 lP l7 HI hV
        go_wp2_with (at_builtin; go_must (refine wpList_append_lies _ rfl _ _ 22 rfl w.heap.size 3 i3 (.int .i64 0) 1 8 Try.underlying22 hi3 hz3 hz31 hz32 rfl (by omega) (.slice as' n cs') n _ (by rfl) oA ⟨W5.heap.size, 0, none⟩ 1 1 [.int .i64 x] (by rfl) (by rfl) ?e1 ?e2 (by omega) ?e3 ?e4 ?e5 (W5.heap.size + 1) ?e6 ?_))
        rotate_left
        any_goals (first | (exact ru_news rfl) | rfl | (show Value.oneCell' _ = true; simp [Value.oneCell']) | (intro u hu; simp at hu; subst hu; rfl) | (unfold maxLen; omega) | omega | (simp; omega) | (simp; rfl) | (simp; done))
        intro g cap wb hown hgrow hat hgl
        have HP : Hid (GrS w w.heap.size (.slice (some ⟨g, 0, none⟩) (n + 1) cap) (readsM now (os.take (j + 1))) wb) := by
          show GrS _ _ _ _ _
          rw [HE.out]
          exact (HG5.out.below ((Below.refl _ _).alloc (Nat.le_refl _) _)).push (by rw [HLN.out]; rfl) hgrow hown
        have HL2 : Hid ((readsM now (os.take (j + 1))).length = n + 1) := by show _ = _; rw [HE.out, List.length_append, HLN.out]; rfl
        clear hown hgrow hat hgl oA own HE HG5 HLN z1 q0 q1
        go_wp2
        go_roundw
        case rel => exact ⟨j + 1, n + 1, _, _, by omega, by omega, by go_num, rfl, HP, HL2⟩
        case measure => simp [intOf]; omega
      · have q : (okd == 1) = false := by simp [hk1]
        have HE : Hid (readsM now (os.take (j + 1)) = readsM now (os.take j)) := by
          have h := HT2.out
          rw [if_neg hk1] at h
          exact h
        have HP : Hid (GrS w w.heap.size (.slice as' n cs') (readsM now (os.take (j + 1))) (wr.alloc (.cells #[.int .i64 okd, .int .i64 V, .bool olt, .int .i64 olm, .int .i64 onn] 49))) := by
          show GrS _ _ _ _ _
          rw [HE.out]
          exact HI.out.below ((Below.refl _ _).alloc (Nat.le_refl _) _)
        have HL2 : Hid ((readsM now (os.take (j + 1))).length = n) := by show _ = _; rw [HE.out, HLN.out]
        clear HE HT2 hk1 HI HLN y1
        go_wp2
        go_roundw
        case rel => exact ⟨j + 1, n, _, _, by omega, by omega, by go_num, rfl, HP, HL2⟩
        case measure => simp [intOf]; omega
    · have HE : Hid (n = (readsM now os).length ∧ GrS w w.heap.size (.slice as' n cs') (readsM now os) wr) := by
        have h1 := HI.out
        have h2 := HLN.out
        rw [List.take_of_length_le (by have := HOS.out.2; omega)] at h1 h2
        exact ⟨h2.symm, h1⟩
      clear HI HLN
      go_wp2
      exact HPOST.out n as' cs' _ HE.out.1 HE.out.2 _ _ _ _ _ _ _ _ _ _ _ _ _ _ _ _ _ _ _ _ _ _ _ _ _ _ _ _ _ _ _ _ _

set_option maxRecDepth 8000 in
set_option maxHeartbeats 8000000 in
theorem source_makes (P Y k nv no co ni ci b7 off7 nr cr : Nat) (seed op : Int) (vs : Value) (ao ar : Option Addr) (now read : List Int) (os : List Opr) (w : World) (HX : Hid (∀ w', w.grownBy w' (some Y) → w'.cell? ⟨P, 1, none⟩ = some (.slice (some ⟨b7, off7, none⟩) ni ci) ∧ w'.cell? ⟨b7, off7 + k * 3, none⟩ = some (.int .i64 op) ∧ w'.cell? ⟨b7, off7 + k * 3 + 1, none⟩ = some (.slice ao no co) ∧ w'.cell? ⟨b7, off7 + k * 3 + 1 + 1, none⟩ = some vs ∧ P < w'.heap.size ∧ b7 < w'.heap.size)) (HY : Hid (w.rowIs Y 3 nv (nowF (makesM seed op read 0 (os.take 0) now)))) (HLN : Hid (now.length = nv)) (HOS : Hid (SlOf w 5 ROpr (.slice ao no co) os ∧ os.length = no)) (HOY : Hid (os = [] ∨ ∀ g, (Value.slice ao no co).ownBlock = some g → g ≠ Y)) (HRD : Hid (SlOf w 1 RInt (.slice ar nr cr) read ∧ read.length = nr)) (HRY : Hid (read = [] ∨ ∀ g, (Value.slice ar nr cr).ownBlock = some g → g ≠ Y)) (HD : Hid (∀ o ∈ os, 0 ≤ o.value ∧ o.value < (nv : Int))) (hki : k < ni) (hno : no ≤ 1000) (hnv : nv ≤ 1000) (hnr : nr ≤ 1000)
    (a0 a1 a3 a4 a5 a6 a7 a8 a9 a10 a11 a13 a15 a17 a19 a20 a22 a23 a24 a25 a26 a27 a28 a29 a30 a31 a32 a33 a34 a35 a36 a37 a38 a39 a40 a41 a42 a43 a44 a45 a46 a47 a48 a49 a50 a51 a52 a53 a54 a55 a56 a57 a58 a59 a60 a61 a62 a63 a64 a65 a66 a67 a68 a69 a70 a71 a72 a73 a74 a75 a76 a77 a78 a79 a80 a81 a82 a83 a84 a85 a86 a87 a88 a89 a90 a91 a92 a93 a94 a95 a96 a97 a98 a99 a100 a101 a102 a103 a104 a105 a106 a107 a108 a109 a110 a111 a112 a113 a114 a115 a116 a117 a118 a119 a120 a121 a122 a123 a124 a125 a126 a127 a128 a129 a130 a131 a132 a133 a134 a135 a136 a137 a138 a139 a140 a141 a142 a143 a144 a145 a146 a147 a148 a149 a150 a151 a152 a153 a154 a155 a156 a157 a158 a159 a160 a161 a162 a163 a164 a165 a166 a167 a168 a169 a170 a171 a172 a173 a174 a175 a176 a177 a178 a179 a180 a181 a182 a183 a184 a185 a186 a187 a188 a189 a190 a191 a192 a193 a194 : Value) (K : Act → World → Prop) (Q : Exit → Act → World → Prop) (HQP : Hid (∀ c a a' w, Q (.panic c) a w → a'.defers = a.defers → Q (.panic c) a' w))
    (hpost : (∀ (wr : World), wr.rowIs Y 3 nv (nowF (makesM seed op read 0 os now)) → w.grownBy wr (some Y) → ∀ (b21 b22 b87 b88 b89 b90 b91 b92 b93 b94 b95 b96 b97 b98 b99 b100 b101 b102 b103 b104 b105 b106 b107 b108 b109 b110 b111 b112 b113 b114 b115 b116 b117 b118 b119 b120 b121 b122 : Value), K { tmps := (List.toArray (a0 :: a1 :: (.int .i64 seed : Value) :: a3 :: a4 :: a5 :: a6 :: a7 :: a8 :: a9 :: a10 :: a11 :: (.slice (some ⟨Y, 0, none⟩) nv nv : Value) :: a13 :: (.int .i64 k : Value) :: a15 :: (.pointer (some ⟨P, 0, none⟩) : Value) :: a17 :: (.slice ar nr cr : Value) :: a19 :: a20 :: b21 :: b22 :: a23 :: a24 :: a25 :: a26 :: a27 :: a28 :: a29 :: a30 :: a31 :: a32 :: a33 :: a34 :: a35 :: a36 :: a37 :: a38 :: a39 :: a40 :: a41 :: a42 :: a43 :: a44 :: a45 :: a46 :: a47 :: a48 :: a49 :: a50 :: a51 :: a52 :: a53 :: a54 :: a55 :: a56 :: a57 :: a58 :: a59 :: a60 :: a61 :: a62 :: a63 :: a64 :: a65 :: a66 :: a67 :: a68 :: a69 :: a70 :: a71 :: a72 :: a73 :: a74 :: a75 :: a76 :: a77 :: a78 :: a79 :: a80 :: a81 :: a82 :: a83 :: a84 :: a85 :: a86 :: b87 :: b88 :: b89 :: b90 :: b91 :: b92 :: b93 :: b94 :: b95 :: b96 :: b97 :: b98 :: b99 :: b100 :: b101 :: b102 :: b103 :: b104 :: b105 :: b106 :: b107 :: b108 :: b109 :: b110 :: b111 :: b112 :: b113 :: b114 :: b115 :: b116 :: b117 :: b118 :: b119 :: b120 :: b121 :: b122 :: a123 :: a124 :: a125 :: a126 :: a127 :: a128 :: a129 :: a130 :: a131 :: a132 :: a133 :: a134 :: a135 :: a136 :: a137 :: a138 :: a139 :: a140 :: a141 :: a142 :: a143 :: a144 :: a145 :: a146 :: a147 :: a148 :: a149 :: a150 :: a151 :: a152 :: a153 :: a154 :: a155 :: a156 :: a157 :: a158 :: a159 :: a160 :: a161 :: a162 :: a163 :: a164 :: a165 :: a166 :: a167 :: a168 :: a169 :: a170 :: a171 :: a172 :: a173 :: a174 :: a175 :: a176 :: a177 :: a178 :: a179 :: a180 :: a181 :: a182 :: a183 :: a184 :: a185 :: a186 :: a187 :: a188 :: a189 :: a190 :: a191 :: a192 :: a193 :: a194 :: [])), defers := [] } wr))
    (cd : Code) (hcd : blkM 4 (Try.f5.body.getD .skip) = some cd) :
    cd.wp Try.prog (Exit.then K Q) { tmps := (List.toArray (a0 :: a1 :: (.int .i64 seed : Value) :: a3 :: a4 :: a5 :: a6 :: a7 :: a8 :: a9 :: a10 :: a11 :: (.slice (some ⟨Y, 0, none⟩) nv nv : Value) :: a13 :: (.int .i64 k : Value) :: a15 :: (.pointer (some ⟨P, 0, none⟩) : Value) :: a17 :: (.slice ar nr cr : Value) :: a19 :: a20 :: (.int .i64 0 : Value) :: a22 :: a23 :: a24 :: a25 :: a26 :: a27 :: a28 :: a29 :: a30 :: a31 :: a32 :: a33 :: a34 :: a35 :: a36 :: a37 :: a38 :: a39 :: a40 :: a41 :: a42 :: a43 :: a44 :: a45 :: a46 :: a47 :: a48 :: a49 :: a50 :: a51 :: a52 :: a53 :: a54 :: a55 :: a56 :: a57 :: a58 :: a59 :: a60 :: a61 :: a62 :: a63 :: a64 :: a65 :: a66 :: a67 :: a68 :: a69 :: a70 :: a71 :: a72 :: a73 :: a74 :: a75 :: a76 :: a77 :: a78 :: a79 :: a80 :: a81 :: a82 :: a83 :: a84 :: a85 :: a86 :: a87 :: a88 :: a89 :: a90 :: a91 :: a92 :: a93 :: a94 :: a95 :: a96 :: a97 :: a98 :: a99 :: a100 :: a101 :: a102 :: a103 :: a104 :: a105 :: a106 :: a107 :: a108 :: a109 :: a110 :: a111 :: a112 :: a113 :: a114 :: a115 :: a116 :: a117 :: a118 :: a119 :: a120 :: a121 :: a122 :: a123 :: a124 :: a125 :: a126 :: a127 :: a128 :: a129 :: a130 :: a131 :: a132 :: a133 :: a134 :: a135 :: a136 :: a137 :: a138 :: a139 :: a140 :: a141 :: a142 :: a143 :: a144 :: a145 :: a146 :: a147 :: a148 :: a149 :: a150 :: a151 :: a152 :: a153 :: a154 :: a155 :: a156 :: a157 :: a158 :: a159 :: a160 :: a161 :: a162 :: a163 :: a164 :: a165 :: a166 :: a167 :: a168 :: a169 :: a170 :: a171 :: a172 :: a173 :: a174 :: a175 :: a176 :: a177 :: a178 :: a179 :: a180 :: a181 :: a182 :: a183 :: a184 :: a185 :: a186 :: a187 :: a188 :: a189 :: a190 :: a191 :: a192 :: a193 :: a194 :: [])), defers := [] } w := by
  have HPOST : Hid (∀ (wr : World), wr.rowIs Y 3 nv (nowF (makesM seed op read 0 os now)) → w.grownBy wr (some Y) → ∀ (b21 b22 b87 b88 b89 b90 b91 b92 b93 b94 b95 b96 b97 b98 b99 b100 b101 b102 b103 b104 b105 b106 b107 b108 b109 b110 b111 b112 b113 b114 b115 b116 b117 b118 b119 b120 b121 b122 : Value), K { tmps := (List.toArray (a0 :: a1 :: (.int .i64 seed : Value) :: a3 :: a4 :: a5 :: a6 :: a7 :: a8 :: a9 :: a10 :: a11 :: (.slice (some ⟨Y, 0, none⟩) nv nv : Value) :: a13 :: (.int .i64 k : Value) :: a15 :: (.pointer (some ⟨P, 0, none⟩) : Value) :: a17 :: (.slice ar nr cr : Value) :: a19 :: a20 :: b21 :: b22 :: a23 :: a24 :: a25 :: a26 :: a27 :: a28 :: a29 :: a30 :: a31 :: a32 :: a33 :: a34 :: a35 :: a36 :: a37 :: a38 :: a39 :: a40 :: a41 :: a42 :: a43 :: a44 :: a45 :: a46 :: a47 :: a48 :: a49 :: a50 :: a51 :: a52 :: a53 :: a54 :: a55 :: a56 :: a57 :: a58 :: a59 :: a60 :: a61 :: a62 :: a63 :: a64 :: a65 :: a66 :: a67 :: a68 :: a69 :: a70 :: a71 :: a72 :: a73 :: a74 :: a75 :: a76 :: a77 :: a78 :: a79 :: a80 :: a81 :: a82 :: a83 :: a84 :: a85 :: a86 :: b87 :: b88 :: b89 :: b90 :: b91 :: b92 :: b93 :: b94 :: b95 :: b96 :: b97 :: b98 :: b99 :: b100 :: b101 :: b102 :: b103 :: b104 :: b105 :: b106 :: b107 :: b108 :: b109 :: b110 :: b111 :: b112 :: b113 :: b114 :: b115 :: b116 :: b117 :: b118 :: b119 :: b120 :: b121 :: b122 :: a123 :: a124 :: a125 :: a126 :: a127 :: a128 :: a129 :: a130 :: a131 :: a132 :: a133 :: a134 :: a135 :: a136 :: a137 :: a138 :: a139 :: a140 :: a141 :: a142 :: a143 :: a144 :: a145 :: a146 :: a147 :: a148 :: a149 :: a150 :: a151 :: a152 :: a153 :: a154 :: a155 :: a156 :: a157 :: a158 :: a159 :: a160 :: a161 :: a162 :: a163 :: a164 :: a165 :: a166 :: a167 :: a168 :: a169 :: a170 :: a171 :: a172 :: a173 :: a174 :: a175 :: a176 :: a177 :: a178 :: a179 :: a180 :: a181 :: a182 :: a183 :: a184 :: a185 :: a186 :: a187 :: a188 :: a189 :: a190 :: a191 :: a192 :: a193 :: a194 :: [])), defers := [] } wr) := hpost
  clear hpost
  obtain rfl := Option.some.inj (hcd.symm.trans (rfl : blkM 4 (Try.f5.body.getD .skip) = some _))
  clear hcd
  have hki2 : (k : Int) < (ni : Int) := by omega
  go_wp2_with fail
  go_loopw [21] (fun i wr => ∃ j : Nat, j ≤ no ∧ i = .int .i64 j ∧ Hid (wr.rowIs Y 3 nv (nowF (makesM seed op read 0 (os.take j) now))) ∧ Hid (w.grownBy wr (some Y))) (fun i _ => no - (intOf i).toNat)
  case atStart => exact ⟨0, Nat.zero_le _, rfl, HY, gr_below (Below.refl _ _)⟩
  case round =>
    clear HY
    obtain ⟨j, hj, rfl, HI, HG⟩ := hrel
    obtain ⟨x1, x0, x2, x3, lP, l7⟩ := HX.out _ HG.out
    by_cases hlt : j < no
    · have hjl : j < os.length := by rw [HOS.out.2]; exact hlt
      obtain ⟨b8, off8, rfl, hb8, o0, o1, o2, o3, o4⟩ := opr_cells HOS.out.1 j hjl
      have nb8 : b8 ≠ Y := by
        rcases HOY.out with e | h
        · rw [e] at hjl; simp at hjl
        · exact h b8 rfl
      have e0 := gr_cell HG.out nb8 o0
      have e1 := gr_cell HG.out nb8 o1
      have e2 := gr_cell HG.out nb8 o2
      have e3 := gr_cell HG.out nb8 o3
      have e4 := gr_cell HG.out nb8 o4
      have hdo := HD.out os[j] (List.getElem_mem hjl)
      have HT := makes_take seed op read os 0 now j hjl
      rw [Nat.zero_add] at HT
      clear o0 o1 o2 o3 o4 hb8 nb8
      generalize os[j] = o at *
      obtain ⟨V, hV⟩ : ∃ V : Nat, o.value = V := ⟨o.value.toNat, by omega⟩
      have v1 : V < nv := by omega
      have v2 : (V : Int) < (nv : Int) := by omega
      rw [hV, Int.toNat_natCast] at HT
      rw [hV] at e1
      obtain ⟨okd, ovl, olt, olm, onn⟩ := o
      simp only at e0 e1 e2 e3 e4 hV HT
      clear hdo
      obtain ⟨W5, hW5⟩ : ∃ W5, W5 = wr.alloc (.cells #[.int .i64 okd, .int .i64 V, .bool olt, .int .i64 olm, .int .i64 onn] 49) := ⟨_, rfl⟩
      obtain ⟨Z, hZ⟩ : ∃ Z, wr.heap.size = Z := ⟨_, rfl⟩
      have b5 : Below wr.heap.size wr W5 := by rw [hW5]; exact (Below.refl _ _).alloc (Nat.le_refl _) _
      have g5 : w.grownBy W5 (some Y) := gr_trans HG.out (gr_below b5)
      have HG5 : Hid (w.grownBy W5 (some Y)) := g5
      have HY5 : Hid (W5.rowIs Y 3 nv (nowF (makesM seed op read 0 (os.take j) now))) := HI.out.of_block (b5.block _ HI.out.lt)
      by_cases hk1 : okd = 2
      · have q : (okd == 2) = true := by simp [hk1]
        rw [if_pos hk1] at HT
        have q0 : W5.cell? ⟨Z, 0, none⟩ = some (.int .i64 okd) := by rw [hW5, ← hZ]; simp
        have q1 : W5.cell? ⟨Z, 1, none⟩ = some (.int .i64 V) := by rw [hW5, ← hZ]; simp
        have hZY : Z ≠ Y := by have := HI.out.lt; omega
        obtain ⟨x, hx⟩ : ∃ x, mixL 7 ([seed, op, (j : Int)] ++ read) = x := ⟨_, rfl⟩
        rw [hx] at HT
        have HE : Hid (makesM seed op read 0 (os.take (j + 1)) now = (makesM seed op read 0 (os.take j) now).set V x) := HT
        have HC := madeBy_any seed op j (.slice (some ⟨b8, off8, none⟩) no co) vs read ar nr cr x W5.drew HRD.out.2 (sl_far HRD.out.1 (gr_trans g5 (gr_below (Below.refl _ _).drew)) HRY.out) (by omega) hx
        have HSF : Hid (∀ w', W5.grownBy w' (some Y) → (fun w' => w'.cell? ⟨Z, 1, none⟩ = some (.int .i64 V) ∧ w'.cell? ⟨P, 1, none⟩ = some (.slice (some ⟨b7, off7, none⟩) ni ci) ∧ w'.cell? ⟨b7, off7 + k * 3, none⟩ = some (.int .i64 op) ∧ w'.cell? ⟨b7, off7 + k * 3 + 1, none⟩ = some (.slice (some ⟨b8, off8, none⟩) no co) ∧ w'.cell? ⟨b7, off7 + k * 3 + 1 + 1, none⟩ = some vs) w') := fun w' hh => by
          obtain ⟨x1, x0, x2, x3, _, _⟩ := HX.out _ (gr_trans HG5.out hh)
          exact ⟨gr_cell hh hZY q1, x1, x0, x2, x3⟩
        clear HT hx hk1 hV HI HG
        go_upto_region 27 with fail
        try rw [← hW5]
        clear hW5 hZ b5 g5 e0 e1 e2 e3 e4 x1 x0 x2 x3 lP l7
        go_upto_region 28 with fail
        clear q0 q1
        refine wp_region_X (fun w' => w'.cell? ⟨Z, 1, none⟩ = some (.int .i64 V) ∧ w'.cell? ⟨P, 1, none⟩ = some (.slice (some ⟨b7, off7, none⟩) ni ci) ∧ w'.cell? ⟨b7, off7 + k * 3, none⟩ = some (.int .i64 op) ∧ w'.cell? ⟨b7, off7 + k * 3 + 1, none⟩ = some (.slice (some ⟨b8, off8, none⟩) no co) ∧ w'.cell? ⟨b7, off7 + k * 3 + 1 + 1, none⟩ = some vs) 99 (by kernel_rfl) (HSF.out _ (gr_below (Below.refl _ _).drew)) (fun hHeld => ?_)
        refine wpXt (v := ?_) 0 rfl (by kernel_rfl) (fun c a' w' h => HQP.out c _ _ w' h rfl) (by rfl) ?_ hHeld ?_
        rotate_left
        · intro w' hSw
          go_simp <;> with_reducible rfl
        try simp only [Act.put, List.setIfInBounds_toArray, List.set_cons_zero, List.set_cons_succ]
        refine wpXt (v := ?_) 1 rfl (by kernel_rfl) (fun c a' w' h => HQP.out c _ _ w' h rfl) (by rfl) ?_ hHeld ?_
        rotate_left
        · intro w' hSw
          go_simp <;> with_reducible rfl
        try simp only [Act.put, List.setIfInBounds_toArray, List.set_cons_zero, List.set_cons_succ]
        refine wpXt (v := ?_) 2 rfl (by kernel_rfl) (fun c a' w' h => HQP.out c _ _ w' h rfl) (by rfl) ?_ hHeld ?_
        rotate_left
        · intro w' hSw
          go_simp <;> with_reducible rfl
        try simp only [Act.put, List.setIfInBounds_toArray, List.set_cons_zero, List.set_cons_succ]
        refine wpXt (v := ?_) 3 rfl (by kernel_rfl) (fun c a' w' h => HQP.out c _ _ w' h rfl) (by rfl) ?_ hHeld ?_
        rotate_left
        · intro w' hSw
          go_simp <;> with_reducible rfl
        try simp only [Act.put, List.setIfInBounds_toArray, List.set_cons_zero, List.set_cons_succ]
        refine wpXt (v := ?_) 4 rfl (by kernel_rfl) (fun c a' w' h => HQP.out c _ _ w' h rfl) (by rfl) ?_ hHeld ?_
        rotate_left
        · intro w' hSw
          go_simp <;> with_reducible rfl
        try simp only [Act.put, List.setIfInBounds_toArray, List.set_cons_zero, List.set_cons_succ]
        refine wpXt (v := ?_) 5 rfl (by kernel_rfl) (fun c a' w' h => HQP.out c _ _ w' h rfl) (by rfl) ?_ hHeld ?_
        rotate_left
        · intro w' hSw
          go_simp <;> with_reducible rfl
        try simp only [Act.put, List.setIfInBounds_toArray, List.set_cons_zero, List.set_cons_succ]
        refine wpXt (v := ?_) 6 rfl (by kernel_rfl) (fun c a' w' h => HQP.out c _ _ w' h rfl) (by rfl) ?_ hHeld ?_
        rotate_left
        · intro w' hSw
          go_simp <;> with_reducible rfl
        try simp only [Act.put, List.setIfInBounds_toArray, List.set_cons_zero, List.set_cons_succ]
        refine wpXt (v := ?_) 7 rfl (by kernel_rfl) (fun c a' w' h => HQP.out c _ _ w' h rfl) (by rfl) ?_ hHeld ?_
        rotate_left
        · intro w' hSw
          go_simp <;> with_reducible rfl
        try simp only [Act.put, List.setIfInBounds_toArray, List.set_cons_zero, List.set_cons_succ]
        refine wpXt (v := ?_) 8 rfl (by kernel_rfl) (fun c a' w' h => HQP.out c _ _ w' h rfl) (by rfl) ?_ hHeld ?_
        rotate_left
        · intro w' hSw
          go_simp <;> with_reducible rfl
        try simp only [Act.put, List.setIfInBounds_toArray, List.set_cons_zero, List.set_cons_succ]
        refine wpXt (v := ?_) 9 rfl (by kernel_rfl) (fun c a' w' h => HQP.out c _ _ w' h rfl) (by rfl) ?_ hHeld ?_
        rotate_left
        · intro w' hSw
          go_simp <;> with_reducible rfl
        try simp only [Act.put, List.setIfInBounds_toArray, List.set_cons_zero, List.set_cons_succ]
        refine wpXt (v := ?_) 10 rfl (by kernel_rfl) (fun c a' w' h => HQP.out c _ _ w' h rfl) (by rfl) ?_ hHeld ?_
        rotate_left
        · intro w' hSw
          go_simp <;> with_reducible rfl
        try simp only [Act.put, List.setIfInBounds_toArray, List.set_cons_zero, List.set_cons_succ]
        refine wpXs 11 rfl (by kernel_rfl) (fun K hK => ?_)
        go_simp
        refine HC.mono ?_
        clear HC
        rintro e w3 ⟨rfl, hb3⟩
        have hb3' : Below W5.heap.size W5 w3 := ((Below.refl _ _).drew).trans hb3
        have r3 : w3.rowIs Y 3 nv (nowF (makesM seed op read 0 (os.take j) now)) := HY5.out.of_block (hb3'.block _ HY5.out.lt)
        have y3 := r3.cell v1
        have z3 := r3.frozen V
        have g3 : W5.grownBy w3 (some Y) := gr_below hb3'
        have HR3 : Hid ((w3.setCell ⟨Y, V, none⟩ (.int .i64 x)).rowIs Y 3 nv (nowF (makesM seed op read 0 (os.take (j + 1)) now))) := by
          show World.rowIs _ _ _ _ _
          rw [HE.out]
          exact (r3.set V (.int .i64 x)).congr fun i hi => nowF_set _ V nv x (by rw [makesM_length]; exact HLN.out) i hi
        have HG3 : Hid (W5.grownBy w3 (some Y)) := g3
        have HG4 : Hid (w.grownBy (w3.setCell ⟨Y, V, none⟩ (.int .i64 x)) (some Y)) := gr_trans HG5.out (gr_trans g3 gr_set)
        clear hb3 hb3' r3 g3
        refine hK.out _ _ (HSF.out _ HG3.out) (fun hHeld => ?_)
        clear hK K
        try simp only [Act.put, List.setIfInBounds_toArray, List.set_cons_zero, List.set_cons_succ]
        refine wpXt (v := ?_) 12 rfl (by kernel_rfl) (fun c a' w' h => HQP.out c _ _ w' h rfl) (by rfl) ?_ hHeld ?_
        rotate_left
        · intro w' hSw
          go_simp <;> with_reducible rfl
        try simp only [Act.put, List.setIfInBounds_toArray, List.set_cons_zero, List.set_cons_succ]
        refine wpXs 13 rfl (by kernel_rfl) (fun K hK => ?_)
        go_simp
        refine hK.out _ _ (HSF.out _ (gr_trans HG3.out gr_set)) (fun hHeld => ?_)
        clear hK K
        try simp only [Act.put, List.setIfInBounds_toArray, List.set_cons_zero, List.set_cons_succ]
        refine wpAnyX_done (by kernel_rfl) ?_ _

        clear y3 z3
        go_wp2
        go_roundw
        case rel => exact ⟨j + 1, by omega, by go_num, HR3, HG4⟩
        case measure => simp [intOf]; omega
      · have q : (okd == 2) = false := by simp [hk1]
        rw [if_neg hk1] at HT
        have HR3 : Hid (W5.rowIs Y 3 nv (nowF (makesM seed op read 0 (os.take (j + 1)) now))) := by
          show World.rowIs _ _ _ _ _
          rw [HT]
          exact HY5.out
        rw [hW5] at HR3 HG5
        clear HT hk1 hV HI HG hW5 hZ b5 g5 HY5
        go_wp2
        go_roundw
        case rel => exact ⟨j + 1, by omega, by go_num, HR3, HG5⟩
        case measure => simp [intOf]; omega
    · have HE : Hid (wr.rowIs Y 3 nv (nowF (makesM seed op read 0 os now)) ∧ w.grownBy wr (some Y)) := by
        have h1 := HI.out
        rw [List.take_of_length_le (by have := HOS.out.2; omega)] at h1
        exact ⟨h1, HG.out⟩
      clear HI HG
      go_wp2
      exact HPOST.out _ HE.out.1 HE.out.2 _ _ _ _ _ _ _ _ _ _ _ _ _ _ _ _ _ _ _ _ _ _ _ _ _ _ _ _ _ _ _ _ _ _ _ _ _ _
end Go.Proofs.Ytmkloakahefjiaa
