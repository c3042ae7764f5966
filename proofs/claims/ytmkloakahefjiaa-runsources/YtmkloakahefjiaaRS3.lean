/-
  The reference's 'SourceRun': one step; its state.
-/
import Derived.Test.YtmkloakahefjiaaRS2
import Derived.Test.YtmkloakahefjiaaR6
namespace Go.Proofs.Ytmkloakahefjiaa
open Go.RowKit
set_option linter.unusedVariables false

structure RkS (wb : World) (B Y : Nat) (nv : Nat) (now : List Int) (ve : Value) (es : List (Evt × Value)) (w : World) : Prop where
  nw : w.rowIs Y 3 nv (nowF now)
  ln : now.length = nv
  own : w.ownsRow B 53 4 ve es.length (es.flatMap cV)
  rd : ∀ p ∈ es, RdOk w B ve p
  low : Below wb.heap.size wb w
  hY : wb.heap.size ≤ Y
  lY : Y < B
  lB : B ≤ w.heap.size
section
variable {wb : World} {B Y : Nat} {nv : Nat} {now : List Int} {ve : Value} {es : List (Evt × Value)} {w w' : World}
theorem RkS.below (h : RkS wb B Y nv now ve es w) (hb : Below w.heap.size w w') : RkS wb B Y nv now ve es w' :=
  ⟨h.nw.of_block (hb.block _ h.nw.lt), h.ln, own_keep h.own fun g _ _ hg => hb.block g hg, fun p hp => (h.rd p hp).keep hb.size fun g _ hg hn => ⟨hb.block g hg, hn⟩, h.low.trans (hb.mono h.low.size), h.hY, h.lY, Nat.le_trans h.lB hb.size⟩
theorem RkS.made {now' : List Int} (h : RkS wb B Y nv now ve es w) (hg : w.grownBy w' (some Y)) (hnw : w'.rowIs Y 3 nv (nowF now')) (hln : now'.length = nv) : RkS wb B Y nv now' ve es w' := by
  have lY := h.lY
  have hY := h.hY
  have ne : ∀ g, B ≤ g → some g ≠ some Y := fun g hg e => by simp at e; omega
  exact ⟨hnw, hln, own_keep h.own fun g _ hB hlt => hg.block g hlt (ne g hB), fun p hp => (h.rd p hp).keep hg.size fun g hB hlt hn => ⟨hg.block g hlt (ne g hB), hn⟩, h.low.trans (gr_low hg h.low.size (by omega)), hY, lY, Nat.le_trans h.lB hg.size⟩
theorem RkS.push {vr : Value} {e : Evt} {wa w1 : World} {g cap n : Nat} (h : RkS wb B Y nv now ve es w) (hrd : RdOk w B ve (e, vr)) (hwa : Below w.heap.size w wa) (hgrow : wa.grownBy w1 ve.ownBlock) (hn : es.length = n) (hown : w1.ownsRow B 53 4 (.slice (some ⟨g, 0, none⟩) (n + 1) cap) (n + 1) (es.flatMap cV ++ cV (e, vr))) (hat : ve.ownBlock = some g ∨ w.heap.size ≤ g) :
    RkS wb B Y nv now (.slice (some ⟨g, 0, none⟩) (n + 1) cap) (es ++ [(e, vr)]) w1 := by
  have lY := h.lY
  have hY := h.hY
  have lB := h.lB
  have hz := hwa.size
  have nY : some Y ≠ ve.ownBlock := fun e => by have := own_base h.own e.symm; omega
  have nw1 := h.nw.of_block ((hgrow.block Y (by have := h.nw.lt; omega) nY).trans (hwa.block Y h.nw.lt))
  have blk : ∀ q, B ≤ q → q < w.heap.size → some q ≠ ve.ownBlock → w1.heap[q]? = w.heap[q]? ∧ some q ≠ (Value.slice (some ⟨g, 0, none⟩) (n + 1) cap).ownBlock := fun q hq hlt hne => by
    refine ⟨(hgrow.block q (by omega) hne).trans (hwa.block q hlt), fun e => ?_⟩
    have e' : q = g := by simpa [Value.ownBlock] using e
    rcases hat with h1 | h1
    · exact hne (by rw [h1, e'])
    · omega
  have hs : w.heap.size ≤ w1.heap.size := by have := hgrow.size; omega
  refine ⟨nw1, h.ln, ?_, ?_, ?_, h.hY, lY, by omega⟩
  · rw [List.length_append, hn, List.flatMap_append]
    have e1 : [(e, vr)].flatMap cV = cV (e, vr) := by simp
    rw [e1]
    exact hown
  · intro p hp
    rcases List.mem_append.1 hp with h1 | h1
    · exact (h.rd p h1).keep hs blk
    · have e1 : p = (e, vr) := by simpa using h1
      rw [e1]
      exact hrd.keep hs blk
  · exact ((h.low.trans (hwa.mono h.low.size)).grown hgrow (by have := h.low.size; omega) fun q hq => by have := own_base h.own hq; omega)
end
/-- Where one is ahead of a step. -/
def StR (wb : World) (B Y nv : Nat) (seed : Int) (bs : List Blk) (n b : Nat) (pos : Int) (ve : Value) (now : List Int) (es : List (Evt × Value)) (w : World) : Prop :=
  RkS wb B Y nv now ve es w ∧ b < bs.length ∧ ((pos = -1 ∧ runM bs nv seed n = ⟨.come b, now, es.map (·.1)⟩) ∨ ∃ k : Nat, pos = (k : Int) ∧ k < (bs.getD b emptyB).instrs.length ∧ runM bs nv seed n = ⟨.ins b k, now, es.map (·.1)⟩)

set_option maxRecDepth 8000 in
set_option maxHeartbeats 16000000 in
theorem source_come (N Y B nv nb cb n b nev cv : Nat) (seed : Int) (wb w : World) (av ab : Option Addr) (now : List Int) (es : List (Evt × Value)) (bs : List Blk) (HF0 : Hid (∀ w', Below wb.heap.size wb w' → w'.cell? ⟨N, 1, none⟩ = some (.slice ab nb cb) ∧ N < w'.heap.size)) (HNW : N < wb.heap.size) (HBS : Hid (SlOf wb 3 (RBlk wb) (.slice ab nb cb) bs ∧ bs.length = nb)) (HFT : Hid (FitsR nv bs)) (HK : Hid (RkS wb B Y nv now (.slice av nev cv) es w)) (HNE : Hid (es.length = nev)) (hnev : nev ≤ 5000) (hb : b < nb) (hnv : nv ≤ 1000) (hnb2 : nb ≤ 1000) (HRUN : Hid (runM bs nv seed n = ⟨.come b, now, es.map (·.1)⟩))
    (a0 a1 a3 a5 a6 a7 a8 a9 a10 a15 a16 a17 a18 a19 a20 a21 a22 a23 a24 a25 a26 a27 a28 a29 a30 a31 a32 a33 a34 a35 a36 a37 a38 a39 a40 a41 a42 a43 a44 a45 a46 a47 a48 a49 a50 a51 a52 a53 a54 a55 a56 a57 a58 a59 a60 a61 a62 a63 a64 a65 a66 a67 a68 a69 a70 a71 a72 a73 a74 a75 a76 a77 a78 a79 a80 a81 a82 a83 a84 a85 a86 a87 a88 a89 a90 a91 a92 a93 a94 a95 a96 a97 a98 a99 a100 a101 a102 a103 a104 a105 a106 a107 a108 a109 a110 a111 a112 a113 a114 a115 a116 a117 a118 a119 a120 a121 a122 a123 a124 a125 a126 a127 a128 a129 a130 a131 a132 a133 a134 a135 a136 a137 a138 a139 a140 a141 a142 a143 a144 a145 a146 a147 a148 a149 a150 a151 a152 a153 a154 a155 a156 a157 a158 a159 a160 a161 a162 a163 a164 a165 a166 a167 a168 a169 a170 a171 a172 a173 a174 a175 a176 a177 a178 a179 a180 a181 a182 a183 a184 a185 a186 a187 a188 a189 a190 a191 a192 a193 a194 : Value) (K : Act → World → Prop) (Q : Exit → Act → World → Prop) (HQP : Hid (∀ c a a' w, Q (.panic c) a w → a'.defers = a.defers → Q (.panic c) a' w))
    (HSTOP : Hid (∀ (av2 : Option Addr) (nev2 cv2 : Nat) (now2 : List Int) (es2 : List (Evt × Value)) (wr : World), nev2 = es2.length → RkS wb B Y nv now2 (.slice av2 nev2 cv2) es2 wr → runM bs nv seed (n + 1) = ⟨.stop, now2, es2.map (·.1)⟩ → ∀ (b13 b14 b16 b17 b18 b19 b20 b21 b22 b23 b24 b25 b26 b49 b50 b51 b52 b53 b54 b55 b56 b57 b58 b59 b60 b61 b62 b63 b64 b65 b66 b67 b68 b69 b70 b71 b72 b73 b74 b75 b76 b77 b78 b79 b80 b81 b82 b83 b84 b85 b86 b87 b88 b89 b90 b91 b92 b93 b94 b95 b96 b97 b98 b99 b100 b101 b102 b103 b104 b105 b106 b107 b108 b109 b110 b111 b112 b113 b114 b115 b116 b117 b118 b119 b120 b121 b122 b123 b124 b125 b126 b127 b128 b129 b130 b131 b132 b133 b134 b135 b136 b137 b138 b139 b140 b141 b142 b143 b144 b145 b146 b147 b148 b149 b150 b151 b152 b153 b154 b155 b156 b157 b158 b159 b160 b161 b162 b163 b164 b165 b166 b167 b168 b169 b170 b171 b172 b173 b174 b175 b176 b177 b178 b179 b180 b181 b182 b183 b184 b185 b186 b187 b188 b189 b190 b191 b192 b193 : Value), Q (.exit 0) { tmps := (List.toArray (a0 :: a1 :: (.int .i64 seed : Value) :: a3 :: (.pointer (some ⟨N, 0, none⟩) : Value) :: a5 :: a6 :: a7 :: a8 :: a9 :: a10 :: (.slice av2 nev2 cv2 : Value) :: (.slice (some ⟨Y, 0, none⟩) nv nv : Value) :: b13 :: b14 :: a15 :: b16 :: b17 :: b18 :: b19 :: b20 :: b21 :: b22 :: b23 :: b24 :: b25 :: b26 :: a27 :: a28 :: a29 :: a30 :: a31 :: a32 :: a33 :: a34 :: a35 :: a36 :: a37 :: a38 :: a39 :: a40 :: a41 :: a42 :: a43 :: a44 :: a45 :: a46 :: a47 :: a48 :: b49 :: b50 :: b51 :: b52 :: b53 :: b54 :: b55 :: b56 :: b57 :: b58 :: b59 :: b60 :: b61 :: b62 :: b63 :: b64 :: b65 :: b66 :: b67 :: b68 :: b69 :: b70 :: b71 :: b72 :: b73 :: b74 :: b75 :: b76 :: b77 :: b78 :: b79 :: b80 :: b81 :: b82 :: b83 :: b84 :: b85 :: b86 :: b87 :: b88 :: b89 :: b90 :: b91 :: b92 :: b93 :: b94 :: b95 :: b96 :: b97 :: b98 :: b99 :: b100 :: b101 :: b102 :: b103 :: b104 :: b105 :: b106 :: b107 :: b108 :: b109 :: b110 :: b111 :: b112 :: b113 :: b114 :: b115 :: b116 :: b117 :: b118 :: b119 :: b120 :: b121 :: b122 :: b123 :: b124 :: b125 :: b126 :: b127 :: b128 :: b129 :: b130 :: b131 :: b132 :: b133 :: b134 :: b135 :: b136 :: b137 :: b138 :: b139 :: b140 :: b141 :: b142 :: b143 :: b144 :: b145 :: b146 :: b147 :: b148 :: b149 :: b150 :: b151 :: b152 :: b153 :: b154 :: b155 :: b156 :: b157 :: b158 :: b159 :: b160 :: b161 :: b162 :: b163 :: b164 :: b165 :: b166 :: b167 :: b168 :: b169 :: b170 :: b171 :: b172 :: b173 :: b174 :: b175 :: b176 :: b177 :: b178 :: b179 :: b180 :: b181 :: b182 :: b183 :: b184 :: b185 :: b186 :: b187 :: b188 :: b189 :: b190 :: b191 :: b192 :: b193 :: a194 :: [])), defers := [] } wr))
    (hpost : (∀ (av2 : Option Addr) (nev2 cv2 bq : Nat) (pos2 : Int) (now2 : List Int) (es2 : List (Evt × Value)) (wr : World), nev2 = es2.length → StR wb B Y nv seed bs (n + 1) bq pos2 (.slice av2 nev2 cv2) now2 es2 wr → ∀ (b16 b17 b18 b19 b20 b21 b22 b23 b24 b25 b26 b49 b50 b51 b52 b53 b54 b55 b56 b57 b58 b59 b60 b61 b62 b63 b64 b65 b66 b67 b68 b69 b70 b71 b72 b73 b74 b75 b76 b77 b78 b79 b80 b81 b82 b83 b84 b85 b86 b87 b88 b89 b90 b91 b92 b93 b94 b95 b96 b97 b98 b99 b100 b101 b102 b103 b104 b105 b106 b107 b108 b109 b110 b111 b112 b113 b114 b115 b116 b117 b118 b119 b120 b121 b122 b123 b124 b125 b126 b127 b128 b129 b130 b131 b132 b133 b134 b135 b136 b137 b138 b139 b140 b141 b142 b143 b144 b145 b146 b147 b148 b149 b150 b151 b152 b153 b154 b155 b156 b157 b158 b159 b160 b161 b162 b163 b164 b165 b166 b167 b168 b169 b170 b171 b172 b173 b174 b175 b176 b177 b178 b179 b180 b181 b182 b183 b184 b185 b186 b187 b188 b189 b190 b191 b192 b193 : Value), K { tmps := (List.toArray (a0 :: a1 :: (.int .i64 seed : Value) :: a3 :: (.pointer (some ⟨N, 0, none⟩) : Value) :: a5 :: a6 :: a7 :: a8 :: a9 :: a10 :: (.slice av2 nev2 cv2 : Value) :: (.slice (some ⟨Y, 0, none⟩) nv nv : Value) :: (.int .i64 (bq : Int) : Value) :: (.int .i64 pos2 : Value) :: a15 :: b16 :: b17 :: b18 :: b19 :: b20 :: b21 :: b22 :: b23 :: b24 :: b25 :: b26 :: a27 :: a28 :: a29 :: a30 :: a31 :: a32 :: a33 :: a34 :: a35 :: a36 :: a37 :: a38 :: a39 :: a40 :: a41 :: a42 :: a43 :: a44 :: a45 :: a46 :: a47 :: a48 :: b49 :: b50 :: b51 :: b52 :: b53 :: b54 :: b55 :: b56 :: b57 :: b58 :: b59 :: b60 :: b61 :: b62 :: b63 :: b64 :: b65 :: b66 :: b67 :: b68 :: b69 :: b70 :: b71 :: b72 :: b73 :: b74 :: b75 :: b76 :: b77 :: b78 :: b79 :: b80 :: b81 :: b82 :: b83 :: b84 :: b85 :: b86 :: b87 :: b88 :: b89 :: b90 :: b91 :: b92 :: b93 :: b94 :: b95 :: b96 :: b97 :: b98 :: b99 :: b100 :: b101 :: b102 :: b103 :: b104 :: b105 :: b106 :: b107 :: b108 :: b109 :: b110 :: b111 :: b112 :: b113 :: b114 :: b115 :: b116 :: b117 :: b118 :: b119 :: b120 :: b121 :: b122 :: b123 :: b124 :: b125 :: b126 :: b127 :: b128 :: b129 :: b130 :: b131 :: b132 :: b133 :: b134 :: b135 :: b136 :: b137 :: b138 :: b139 :: b140 :: b141 :: b142 :: b143 :: b144 :: b145 :: b146 :: b147 :: b148 :: b149 :: b150 :: b151 :: b152 :: b153 :: b154 :: b155 :: b156 :: b157 :: b158 :: b159 :: b160 :: b161 :: b162 :: b163 :: b164 :: b165 :: b166 :: b167 :: b168 :: b169 :: b170 :: b171 :: b172 :: b173 :: b174 :: b175 :: b176 :: b177 :: b178 :: b179 :: b180 :: b181 :: b182 :: b183 :: b184 :: b185 :: b186 :: b187 :: b188 :: b189 :: b190 :: b191 :: b192 :: b193 :: a194 :: [])), defers := [] } wr))
    (cd : Code) (hcd : blkM 1 (Try.f5.body.getD .skip) = some cd) :
    cd.wp Try.prog (Exit.then K Q) { tmps := (List.toArray (a0 :: a1 :: (.int .i64 seed : Value) :: a3 :: (.pointer (some ⟨N, 0, none⟩) : Value) :: a5 :: a6 :: a7 :: a8 :: a9 :: a10 :: (.slice av nev cv : Value) :: (.slice (some ⟨Y, 0, none⟩) nv nv : Value) :: (.int .i64 (b : Int) : Value) :: (.int .i64 (-1) : Value) :: a15 :: a16 :: a17 :: a18 :: a19 :: a20 :: a21 :: a22 :: a23 :: a24 :: a25 :: a26 :: a27 :: a28 :: a29 :: a30 :: a31 :: a32 :: a33 :: a34 :: a35 :: a36 :: a37 :: a38 :: a39 :: a40 :: a41 :: a42 :: a43 :: a44 :: a45 :: a46 :: a47 :: a48 :: a49 :: a50 :: a51 :: a52 :: a53 :: a54 :: a55 :: a56 :: a57 :: a58 :: a59 :: a60 :: a61 :: a62 :: a63 :: a64 :: a65 :: a66 :: a67 :: a68 :: a69 :: a70 :: a71 :: a72 :: a73 :: a74 :: a75 :: a76 :: a77 :: a78 :: a79 :: a80 :: a81 :: a82 :: a83 :: a84 :: a85 :: a86 :: a87 :: a88 :: a89 :: a90 :: a91 :: a92 :: a93 :: a94 :: a95 :: a96 :: a97 :: a98 :: a99 :: a100 :: a101 :: a102 :: a103 :: a104 :: a105 :: a106 :: a107 :: a108 :: a109 :: a110 :: a111 :: a112 :: a113 :: a114 :: a115 :: a116 :: a117 :: a118 :: a119 :: a120 :: a121 :: a122 :: a123 :: a124 :: a125 :: a126 :: a127 :: a128 :: a129 :: a130 :: a131 :: a132 :: a133 :: a134 :: a135 :: a136 :: a137 :: a138 :: a139 :: a140 :: a141 :: a142 :: a143 :: a144 :: a145 :: a146 :: a147 :: a148 :: a149 :: a150 :: a151 :: a152 :: a153 :: a154 :: a155 :: a156 :: a157 :: a158 :: a159 :: a160 :: a161 :: a162 :: a163 :: a164 :: a165 :: a166 :: a167 :: a168 :: a169 :: a170 :: a171 :: a172 :: a173 :: a174 :: a175 :: a176 :: a177 :: a178 :: a179 :: a180 :: a181 :: a182 :: a183 :: a184 :: a185 :: a186 :: a187 :: a188 :: a189 :: a190 :: a191 :: a192 :: a193 :: a194 :: [])), defers := [] } w := by
  have HPOST : Hid (∀ (av2 : Option Addr) (nev2 cv2 bq : Nat) (pos2 : Int) (now2 : List Int) (es2 : List (Evt × Value)) (wr : World), nev2 = es2.length → StR wb B Y nv seed bs (n + 1) bq pos2 (.slice av2 nev2 cv2) now2 es2 wr → ∀ (b16 b17 b18 b19 b20 b21 b22 b23 b24 b25 b26 b49 b50 b51 b52 b53 b54 b55 b56 b57 b58 b59 b60 b61 b62 b63 b64 b65 b66 b67 b68 b69 b70 b71 b72 b73 b74 b75 b76 b77 b78 b79 b80 b81 b82 b83 b84 b85 b86 b87 b88 b89 b90 b91 b92 b93 b94 b95 b96 b97 b98 b99 b100 b101 b102 b103 b104 b105 b106 b107 b108 b109 b110 b111 b112 b113 b114 b115 b116 b117 b118 b119 b120 b121 b122 b123 b124 b125 b126 b127 b128 b129 b130 b131 b132 b133 b134 b135 b136 b137 b138 b139 b140 b141 b142 b143 b144 b145 b146 b147 b148 b149 b150 b151 b152 b153 b154 b155 b156 b157 b158 b159 b160 b161 b162 b163 b164 b165 b166 b167 b168 b169 b170 b171 b172 b173 b174 b175 b176 b177 b178 b179 b180 b181 b182 b183 b184 b185 b186 b187 b188 b189 b190 b191 b192 b193 : Value), K { tmps := (List.toArray (a0 :: a1 :: (.int .i64 seed : Value) :: a3 :: (.pointer (some ⟨N, 0, none⟩) : Value) :: a5 :: a6 :: a7 :: a8 :: a9 :: a10 :: (.slice av2 nev2 cv2 : Value) :: (.slice (some ⟨Y, 0, none⟩) nv nv : Value) :: (.int .i64 (bq : Int) : Value) :: (.int .i64 pos2 : Value) :: a15 :: b16 :: b17 :: b18 :: b19 :: b20 :: b21 :: b22 :: b23 :: b24 :: b25 :: b26 :: a27 :: a28 :: a29 :: a30 :: a31 :: a32 :: a33 :: a34 :: a35 :: a36 :: a37 :: a38 :: a39 :: a40 :: a41 :: a42 :: a43 :: a44 :: a45 :: a46 :: a47 :: a48 :: b49 :: b50 :: b51 :: b52 :: b53 :: b54 :: b55 :: b56 :: b57 :: b58 :: b59 :: b60 :: b61 :: b62 :: b63 :: b64 :: b65 :: b66 :: b67 :: b68 :: b69 :: b70 :: b71 :: b72 :: b73 :: b74 :: b75 :: b76 :: b77 :: b78 :: b79 :: b80 :: b81 :: b82 :: b83 :: b84 :: b85 :: b86 :: b87 :: b88 :: b89 :: b90 :: b91 :: b92 :: b93 :: b94 :: b95 :: b96 :: b97 :: b98 :: b99 :: b100 :: b101 :: b102 :: b103 :: b104 :: b105 :: b106 :: b107 :: b108 :: b109 :: b110 :: b111 :: b112 :: b113 :: b114 :: b115 :: b116 :: b117 :: b118 :: b119 :: b120 :: b121 :: b122 :: b123 :: b124 :: b125 :: b126 :: b127 :: b128 :: b129 :: b130 :: b131 :: b132 :: b133 :: b134 :: b135 :: b136 :: b137 :: b138 :: b139 :: b140 :: b141 :: b142 :: b143 :: b144 :: b145 :: b146 :: b147 :: b148 :: b149 :: b150 :: b151 :: b152 :: b153 :: b154 :: b155 :: b156 :: b157 :: b158 :: b159 :: b160 :: b161 :: b162 :: b163 :: b164 :: b165 :: b166 :: b167 :: b168 :: b169 :: b170 :: b171 :: b172 :: b173 :: b174 :: b175 :: b176 :: b177 :: b178 :: b179 :: b180 :: b181 :: b182 :: b183 :: b184 :: b185 :: b186 :: b187 :: b188 :: b189 :: b190 :: b191 :: b192 :: b193 :: a194 :: [])), defers := [] } wr) := hpost
  clear hpost
  obtain rfl := Option.some.inj (hcd.symm.trans (rfl : blkM 1 (Try.f5.body.getD .skip) = some _))
  clear hcd
  have hbl : b < bs.length := by rw [HBS.out.2]; exact hb
  obtain ⟨blk, hblk⟩ : ∃ blk, bs[b]'hbl = blk := ⟨_, rfl⟩
  have hbm : blk ∈ bs := by rw [← hblk]; exact List.getElem_mem hbl
  have hbg : bs[b]? = some blk := by rw [List.getElem?_eq_getElem hbl, hblk]
  obtain ⟨b5, off5, ap, cp, ai, ci, ae, ce, rfl, lb5, p0, p1, p2, hi, he⟩ := blk_atR HBS.out.1 b hbl
  rw [hblk] at p0 p1 p2 hi he
  have fi := HFT.out.ins blk hbm
  have fe := HFT.out.edg blk hbm
  obtain ⟨np, hnp⟩ : ∃ np, blk.params.length = np := ⟨_, rfl⟩
  obtain ⟨ni, hni⟩ : ∃ ni, blk.instrs.length = ni := ⟨_, rfl⟩
  obtain ⟨ne, hne⟩ : ∃ ne, blk.edges.length = ne := ⟨_, rfl⟩
  rw [hnp] at p0
  rw [hni] at p1 hi fi
  rw [hne] at p2 he fe
  have HBLK : Hid (bs[b]? = some blk ∧ blk.instrs.length = ni ∧ blk.edges.length = ne ∧ bs.length = nb) := ⟨hbg, hni, hne, HBS.out.2⟩
  have HSI : Hid (SlOf wb 3 (RIns wb) (.slice ai ni ci) blk.instrs) := hi
  have HSE : Hid (SlOf wb 2 (REdg wb) (.slice ae ne ce) blk.edges) := he
  have HFI : Hid (∀ x ∈ blk.instrs, x.operands.length ≤ 1000 ∧ ∀ o ∈ x.operands, 0 ≤ o.value ∧ o.value < (nv : Int)) := fi.2
  have HFE : Hid (∀ e ∈ blk.edges, (0 ≤ e.block ∧ e.block < (bs.length : Int)) ∧ e.args.length ≤ 1000 ∧ (∀ v ∈ e.args, 0 ≤ v ∧ v < (nv : Int)) ∧ (bs.getD e.block.toNat emptyB).params.length = e.args.length) := fe.2
  have hni2 := fi.1
  have hne2 := fe.1
  have hgd : bs.getD b emptyB = blk := by rw [List.getD_eq_getElem?_getD, hbg]; rfl
  have HGD : Hid (bs.getD b emptyB = blk) := hgd
  have hlow := HK.out.low
  have e0 := (hlow.cell (p := ⟨b5, _, none⟩) lb5).trans p0
  have e1 := (hlow.cell (p := ⟨b5, _, none⟩) lb5).trans p1
  have e2 := (hlow.cell (p := ⟨b5, _, none⟩) lb5).trans p2
  have le5 : b5 < w.heap.size := Nat.lt_of_lt_of_le lb5 hlow.size
  obtain ⟨x1, lN⟩ := HF0.out _ hlow
  obtain ⟨P, hP⟩ : ∃ P, w.heap.size = P := ⟨_, rfl⟩
  obtain ⟨W2, hW2⟩ : ∃ W2, W2 = w.alloc (.cells #[.slice ap np cp, .slice ai ni ci, .slice ae ne ce] 43) := ⟨_, rfl⟩
  have b2 : Below w.heap.size w W2 := by rw [hW2]; exact (Below.refl _ _).alloc (Nat.le_refl _) _
  have rP : W2.rowIs P 43 3 (fun q => if q = 0 then .slice ap np cp else if q = 1 then .slice ai ni ci else .slice ae ne ce) := by
    rw [hW2, ← hP]
    exact World.rowIs_alloc _ _ _ _ fun i hi => by
      simp at hi
      match i, hi with | 0, _ => rfl | 1, _ => rfl | 2, _ => rfl
  have HK2 : Hid (RkS wb B Y nv now (.slice av nev cv) es W2) := HK.out.below b2
  have HP2 : Hid (W2.rowIs P 43 3 (fun q => if q = 0 then .slice ap np cp else if q = 1 then .slice ai ni ci else .slice ae ne ce) ∧ some P ≠ (Value.slice av nev cv).ownBlock ∧ P ≠ Y ∧ wb.heap.size ≤ P) := ⟨rP, fun e => by have := own_base HK.out.own e.symm; omega, by have := HK.out.lY; have := HK.out.lB; omega, by have := hlow.size; omega⟩
  have HW2 : Hid (W2 = w.alloc (.cells #[.slice ap np cp, .slice ai ni ci, .slice ae ne ce] 43)) := hW2
  have HPP : Hid (w.heap.size = P) := hP
  have hbb : (b : Int) < (nb : Int) := by omega
  clear hbl hblk hbm hbg p0 p1 p2 hi he fi fe hnp hni hne hgd hlow hW2 hP b2 rP
  go_upto_region 14 with fail
  rw [← HW2.out, HPP.out]
  clear HW2 HPP e0 e1 e2 x1 lN le5 HK
  have HK6 : Hid (RkS wb B Y nv now (.slice av nev cv) es W2) := HK2
  have HP6 : Hid (W2.rowIs P 43 3 (fun q => if q = 0 then .slice ap np cp else if q = 1 then .slice ai ni ci else .slice ae ne ce)) := HP2.out.1
  have HR6 : Hid (runM bs nv seed (n + 1) = settle bs b 0 0 now (es.map (·.1))) := by show srStep bs seed (runM bs nv seed n) = _; rw [HRUN.out]; rfl
  have HT6 : Hid (0 = ni → ne = 0 ∨ 0 ≤ (0 : Int) ∧ (0 : Int) < (ne : Int)) := fun _ => by omega
  have hkn : 0 ≤ ni := Nat.zero_le _
  have HNV6 : Hid (nev = es.length) := HNE.out.symm
  have HPY : Hid (P ≠ Y ∧ wb.heap.size ≤ P) := HP2.out.2.2
  clear HK2 HP2
  have p1 : W2.cell? ⟨P, 1, none⟩ = some (.slice ai ni ci) := HP6.out.cell (i := 1) (by omega)
  by_cases hlt : 0 < ni
  · have hlt2 : 0 < (ni : Int) := by omega
    have HN1 : Hid (StR wb B Y nv seed bs (n + 1) b 0 (.slice av nev cv) now es W2) := by
      refine ⟨HK6.out, by rw [HBLK.out.2.2.2]; exact hb, Or.inr ⟨0, by omega, by rw [HGD.out, HBLK.out.2.1]; exact hlt, ?_⟩⟩
      rw [HR6.out]
      unfold settle
      rw [HGD.out, if_pos (by rw [HBLK.out.2.1]; exact hlt)]
    go_wp2
    exact HPOST.out av _ cv b 0 _ _ _ HNV6.out HN1.out _ _ _ _ _ _ _ _ _ _ _ _ _ _ _ _ _ _ _ _ _ _ _ _ _ _ _ _ _ _ _ _ _ _ _ _ _ _ _ _ _ _ _ _ _ _ _ _ _ _ _ _ _ _ _ _ _ _ _ _ _ _ _ _ _ _ _ _ _ _ _ _ _ _ _ _ _ _ _ _ _ _ _ _ _ _ _ _ _ _ _ _ _ _ _ _ _ _ _ _ _ _ _ _ _ _ _ _ _ _ _ _ _ _ _ _ _ _ _ _ _ _ _ _ _ _ _ _ _ _ _ _ _ _ _ _ _ _ _ _ _ _ _ _ _ _ _ _ _ _ _ _ _ _ _ _
  · have h00 : ni = 0 := by omega
    subst h00
    have HKZ : Hid (0 = 0) := rfl
    clear hlt
    have p2 : W2.cell? ⟨P, 2, none⟩ = some (.slice ae ne ce) := HP6.out.cell (i := 2) (by omega)
    by_cases hne0 : ne = 0
    · have HN1 : Hid (runM bs nv seed (n + 1) = ⟨.stop, now, (es).map (·.1)⟩) := by
        show _ = _
        rw [HR6.out, settle_end bs b (0) 0 _ _ blk HBLK.out.1 (by rw [HBLK.out.2.1]; have h := HKZ.out; omega) (List.length_eq_zero_iff.1 (by rw [HBLK.out.2.2.1]; exact hne0))]
      subst hne0
      go_wp2
      exact HSTOP.out av _ cv _ _ _ HNV6.out HK6.out HN1.out _ _ _ _ _ _ _ _ _ _ _ _ _ _ _ _ _ _ _ _ _ _ _ _ _ _ _ _ _ _ _ _ _ _ _ _ _ _ _ _ _ _ _ _ _ _ _ _ _ _ _ _ _ _ _ _ _ _ _ _ _ _ _ _ _ _ _ _ _ _ _ _ _ _ _ _ _ _ _ _ _ _ _ _ _ _ _ _ _ _ _ _ _ _ _ _ _ _ _ _ _ _ _ _ _ _ _ _ _ _ _ _ _ _ _ _ _ _ _ _ _ _ _ _ _ _ _ _ _ _ _ _ _ _ _ _ _ _ _ _ _ _ _ _ _ _ _ _ _ _ _ _ _ _ _ _ _ _
    · have htk := (HT6.out HKZ.out).resolve_left hne0
      have hKe : 0 < blk.edges.length := by rw [HBLK.out.2.2.1]; omega
      have hKn : (0 : Int) < (ne : Int) := by omega
      have hKn2 : 0 < ne := by omega
      have q0 : ((ne : Int) == 0) = false := by simp; omega
      obtain ⟨b9, off9, aa, ca, hae, lb9, i0, i1, ha⟩ := edg_at HSE.out 0 hKe
      obtain ⟨e, he⟩ : ∃ e, blk.edges[0]'hKe = e := ⟨_, rfl⟩
      have heg : blk.edges[0]? = some e := by rw [List.getElem?_eq_getElem hKe, he]
      have hf := HFE.out _ (List.getElem_mem hKe)
      rw [he] at i0 i1 ha hf
      obtain ⟨eb, args⟩ := e
      obtain ⟨fb, fa, fv, fp⟩ := hf
      simp only at i0 i1 ha fb fa fv fp
      obtain ⟨b2, hb2⟩ : ∃ b2 : Nat, eb = (b2 : Int) := ⟨eb.toNat, by omega⟩
      subst hb2
      rw [Int.toNat_natCast] at fp
      have hb2l : b2 < bs.length := by omega
      have hb2n : b2 < nb := by rw [← HBLK.out.2.2.2]; exact hb2l
      have e2g : bs.getD b2 emptyB = bs[b2]'hb2l := by rw [List.getD_eq_getElem?_getD, List.getElem?_eq_getElem hb2l]; rfl
      rw [e2g] at fp
      obtain ⟨ps, hps⟩ : ∃ ps, (bs[b2]'hb2l).params = ps := ⟨_, rfl⟩
      have hpar := HFT.out.par _ (List.getElem_mem hb2l)
      obtain ⟨b5', off5', vp, h5, lb5', t0, hpsl⟩ := blk_par HBS.out.1 b2 hb2l
      simp only [Option.some.injEq, Addr.mk.injEq, and_true] at h5
      obtain ⟨rfl, rfl⟩ := h5
      rw [hps] at fp hpar hpsl
      obtain ⟨apz, cpz, rfl, _⟩ := hpsl.out
      obtain ⟨na, hna⟩ : ∃ na, args.length = na := ⟨_, rfl⟩
      rw [hna] at i1 ha fa fp
      rw [fp] at t0 hpsl
      subst hae
      have c0 := (HK6.out.low.cell (p := ⟨b9, _, none⟩) lb9).trans i0
      have c1 := (HK6.out.low.cell (p := ⟨b9, _, none⟩) lb9).trans i1
      simp only [Nat.zero_mul, Nat.add_zero] at c0 c1
      have l9 : b9 < W2.heap.size := Nat.lt_of_lt_of_le lb9 HK6.out.low.size
      have lP6 := HP6.out.lt
      obtain ⟨W7, hW7⟩ : ∃ W7, W7 = W2.alloc (.cells #[.int .i64 (b2 : Int), .slice aa na ca] 55) := ⟨_, rfl⟩
      obtain ⟨Z, hZ⟩ : ∃ Z, W2.heap.size = Z := ⟨_, rfl⟩
      have b7w : Below W2.heap.size W2 W7 := by rw [hW7]; exact (Below.refl _ _).alloc (Nat.le_refl _) _
      have z0 : W7.cell? ⟨Z, 0, none⟩ = some (.int .i64 (b2 : Int)) := by rw [hW7, ← hZ]; simp
      have z1 : W7.cell? ⟨Z, 1, none⟩ = some (.slice aa na ca) := by rw [hW7, ← hZ]; simp
      have lZ : Z < W7.heap.size := by rw [hW7, ← hZ]; simp
      have HK7 : Hid (RkS wb B Y nv now (.slice av nev cv) es W7) := HK6.out.below b7w
      have HZY : Hid (Z ≠ Y ∧ wb.heap.size ≤ Z) := ⟨by have := HK6.out.lY; have := HK6.out.lB; omega, by have := HK6.out.low.size; omega⟩
      have HXA : Hid (∀ w', Below W7.heap.size W7 w' → w'.cell? ⟨Z, 1, none⟩ = some (.slice aa na ca) ∧ Z < w'.heap.size) := fun w' hh => ⟨(hh.cell lZ).trans z1, Nat.lt_of_lt_of_le lZ hh.size⟩
      have HZ0 : Hid (∀ w', Below W7.heap.size W7 w' → w'.cell? ⟨Z, 0, none⟩ = some (.int .i64 (b2 : Int))) := fun w' hh => (hh.cell lZ).trans z0
      have HAS : Hid (SlOf wb 1 RInt (.slice aa na ca) args ∧ args.length = na) := ⟨ha, hna⟩
      have HAV : Hid (∀ v ∈ args, 0 ≤ v ∧ v < (nv : Int)) := fv
      have HPS : Hid (SlOf wb 1 RInt (.slice apz na cpz) ps ∧ ps.length = na) := ⟨hpsl, fp⟩
      have HPAR : Hid (∀ v ∈ ps, 0 ≤ v ∧ v < (nv : Int)) := hpar
      have HT0 : Hid (∀ w', Below wb.heap.size wb w' → w'.cell? ⟨b5, off5 + b2 * 3, none⟩ = some (.slice apz na cpz) ∧ b5 < w'.heap.size) := fun w' hh => ⟨(hh.cell (p := ⟨b5, _, none⟩) lb5').trans t0, Nat.lt_of_lt_of_le lb5' hh.size⟩
      obtain ⟨nw3, hnw3⟩ : ∃ nw3, handM now ps args = nw3 := ⟨_, rfl⟩
      have HH3 : Hid (setsM ps (args.map fun v => (now).getD v.toNat 0) now = nw3) := hnw3
      have HL3 : Hid (nw3.length = nv) := by show _ = _; rw [← hnw3]; unfold handM; rw [setsM_length]; exact HK6.out.ln
      have HRN : Hid (runM bs nv seed (n + 1) = ⟨.come b2, nw3, (es).map (·.1)⟩ ∧ b2 < bs.length) := by
        refine ⟨?_, hb2l⟩
        rw [HR6.out, settle_on bs b (0) 0 _ _ blk (bs[b2]'hb2l) ⟨(b2 : Int), args⟩ b2 HBLK.out.1 (by rw [HBLK.out.2.1]; have h := HKZ.out; omega) (by simpa using heg) (Int.toNat_natCast b2) (List.getElem?_eq_getElem hb2l), hps, hnw3]
      have HW7 : Hid (W7 = W2.alloc (.cells #[.int .i64 (b2 : Int), .slice aa na ca] 55)) := hW7
      have HZZ : Hid (W2.heap.size = Z) := hZ
      clear hW7 hZ b7w z0 z1 lZ ha hna fv hpsl fp hpar t0 lb5' hnw3 hps e2g heg he fb hb2l i0 i1 htk HR6 HT6
      go_upto_region 35 with fail
      rw [← HW7.out, HZZ.out]
      clear HW7 HZZ c0 c1 l9 lP6 p1 p2 HK6 HP6 q0
      go_upto_block 6 with fail
      refine source_args Z Y nv na ca aa now args W7 HXA HK7.out.nw ⟨HAS.out.1.below HK7.out.low fun _ _ h => h, HAS.out.2⟩ HAV fa hnv _ _ _ _ _ _ _ _ _ _ _ _ _ _ _ _ _ _ _ _ _ _ _ _ _ _ _ _ _ _ _ _ _ _ _ _ _ _ _ _ _ _ _ _ _ _ _ _ _ _ _ _ _ _ _ _ _ _ _ _ _ _ _ _ _ _ _ _ _ _ _ _ _ _ _ _ _ _ _ _ _ _ _ _ _ _ _ _ _ _ _ _ _ _ _ _ _ _ _ _ _ _ _ _ _ _ _ _ _ _ _ _ _ _ _ _ _ _ _ _ _ _ _ _ _ _ _ _ _ _ _ _ _ _ _ _ _ _ _ _ _ _ _ _ _ _ _ _ _ _ _ _ _ _ _ _ _ _ _ _ _ _ _ _ _ _ _ _ _ _ _ _ _ _ _ _ _ _ _ _ _ _ _ _ _ _ _ _ _ _ _ _ _ ?_ _ (by kernel_rfl)
      intro ag cg w8 hG z25 z152 z153 z154 z155 z156 z157 z158 z159 z160 z161 z162 z163 z164 z165 z166 z167 z168 z169
      have HK8 : Hid (RkS wb B Y nv now (.slice av nev cv) es w8) := HK7.out.below hG.low
      have hgl : (args.map fun v => (now).getD v.toNat 0).length = na := by rw [List.length_map]; exact HAS.out.2
      have HG8 : Hid (SlOf w8 1 RInt (.slice ag na cg) (args.map fun v => (now).getD v.toNat 0) ∧ (args.map fun v => (now).getD v.toNat 0).length = na) := ⟨hG.sl (by rw [hgl]; unfold longest; omega), hgl⟩
      have HGO : Hid (∀ g, (Value.slice ag na cg).ownBlock = some g → g ≠ Y) := fun g hg => by have h1 := (own_base hG.own hg).1; have h2 := HK7.out.lY; have h3 := HK7.out.lB; omega
      have z8 := HZ0.out _ hG.low
      have l8 : Z < w8.heap.size := (HXA.out _ hG.low).2
      have HXH : Hid (∀ w', w8.grownBy w' (some Y) → w'.cell? ⟨N, 1, none⟩ = some (.slice (some ⟨b5, off5, none⟩) nb cb) ∧ w'.cell? ⟨Z, 0, none⟩ = some (.int .i64 (b2 : Int)) ∧ w'.cell? ⟨b5, off5 + b2 * 3, none⟩ = some (.slice apz na cpz) ∧ N < w'.heap.size ∧ Z < w'.heap.size ∧ b5 < w'.heap.size) := fun w' hh => by
        have hl : Below wb.heap.size wb w' := HK8.out.low.trans (gr_low hh HK8.out.low.size HK8.out.hY)
        obtain ⟨a1, a2⟩ := HF0.out _ hl
        obtain ⟨a3, a4⟩ := HT0.out _ hl
        exact ⟨a1, gr_cell hh HZY.out.1 z8, a3, a2, Nat.lt_of_lt_of_le l8 hh.size, a4⟩
      clear hG hgl
      go_upto_block 8 with fail
      refine source_hand N Z Y nv nb cb na cpz cg b2 b5 off5 apz ag now ps (args.map fun v => (now).getD v.toNat 0) w8 HXH (by show World.rowIs _ _ _ _ _; simp only [List.take_zero, setsM]; exact HK8.out.nw) HK8.out.ln ⟨HPS.out.1.below HK8.out.low fun _ _ h => h, HPS.out.2⟩ ?_ HG8 (Or.inr HGO.out) HPAR hb2n fa hnv hnb2 _ _ _ _ _ _ _ _ _ _ _ _ _ _ _ _ _ _ _ _ _ _ _ _ _ _ _ _ _ _ _ _ _ _ _ _ _ _ _ _ _ _ _ _ _ _ _ _ _ _ _ _ _ _ _ _ _ _ _ _ _ _ _ _ _ _ _ _ _ _ _ _ _ _ _ _ _ _ _ _ _ _ _ _ _ _ _ _ _ _ _ _ _ _ _ _ _ _ _ _ _ _ _ _ _ _ _ _ _ _ _ _ _ _ _ _ _ _ _ _ _ _ _ _ _ _ _ _ _ _ _ _ _ _ _ _ _ _ _ _ _ _ _ _ _ _ _ _ _ _ _ _ _ _ _ _ _ _ _ _ _ _ _ _ _ _ _ _ _ _ _ _ _ _ _ _ _ _ _ _ _ _ _ _ _ _ _ _ _ _ _ _ ?_ ?_ _ (by kernel_rfl)
      · show _ ∨ _
        refine (sl_own (by decide) HPS.out.1).imp id fun h g hg => ?_
        have h1 := h g hg
        have h2 := HK8.out.hY
        omega
      · exact fun c a a' w h hd => HQP.out c a a' w h hd
      intro w9 r9 g9 z26 z170 z171 z172 z173 z174 z175 z176 z177 z178 z179 z180 z181 z182 z183 z184 z185 z186 z187 z188 z189 z190 z191
      rw [HH3.out] at r9
      have HN1 : Hid (StR wb B Y nv seed bs (n + 1) b2 (-1) (.slice av nev cv) nw3 es w9) := ⟨HK8.out.made g9 r9 HL3.out, HRN.out.2, Or.inl ⟨rfl, HRN.out.1⟩⟩
      have z9 := (HXH.out _ g9).2.1
      clear r9 g9 z8 l8
      go_wp2
      exact HPOST.out av _ cv b2 (-1) _ _ _ (by simpa using HNV6.out) HN1.out _ _ _ _ _ _ _ _ _ _ _ _ _ _ _ _ _ _ _ _ _ _ _ _ _ _ _ _ _ _ _ _ _ _ _ _ _ _ _ _ _ _ _ _ _ _ _ _ _ _ _ _ _ _ _ _ _ _ _ _ _ _ _ _ _ _ _ _ _ _ _ _ _ _ _ _ _ _ _ _ _ _ _ _ _ _ _ _ _ _ _ _ _ _ _ _ _ _ _ _ _ _ _ _ _ _ _ _ _ _ _ _ _ _ _ _ _ _ _ _ _ _ _ _ _ _ _ _ _ _ _ _ _ _ _ _ _ _ _ _ _ _ _ _ _ _ _ _ _ _ _ _ _ _ _ _

set_option maxRecDepth 8000 in
set_option maxHeartbeats 16000000 in
theorem source_ins (N Y B nv nb cb n b nev cv k : Nat) (seed : Int) (wb w : World) (av ab : Option Addr) (now : List Int) (es : List (Evt × Value)) (bs : List Blk) (HF0 : Hid (∀ w', Below wb.heap.size wb w' → w'.cell? ⟨N, 1, none⟩ = some (.slice ab nb cb) ∧ N < w'.heap.size)) (HNW : N < wb.heap.size) (HBS : Hid (SlOf wb 3 (RBlk wb) (.slice ab nb cb) bs ∧ bs.length = nb)) (HFT : Hid (FitsR nv bs)) (HK : Hid (RkS wb B Y nv now (.slice av nev cv) es w)) (HNE : Hid (es.length = nev)) (hnev : nev ≤ 5000) (hb : b < nb) (hnv : nv ≤ 1000) (hnb2 : nb ≤ 1000) (HKI : Hid (k < (bs.getD b emptyB).instrs.length)) (HRUN : Hid (runM bs nv seed n = ⟨.ins b k, now, es.map (·.1)⟩))
    (a0 a1 a3 a5 a6 a7 a8 a9 a10 a15 a16 a17 a18 a19 a20 a21 a22 a23 a24 a25 a26 a27 a28 a29 a30 a31 a32 a33 a34 a35 a36 a37 a38 a39 a40 a41 a42 a43 a44 a45 a46 a47 a48 a49 a50 a51 a52 a53 a54 a55 a56 a57 a58 a59 a60 a61 a62 a63 a64 a65 a66 a67 a68 a69 a70 a71 a72 a73 a74 a75 a76 a77 a78 a79 a80 a81 a82 a83 a84 a85 a86 a87 a88 a89 a90 a91 a92 a93 a94 a95 a96 a97 a98 a99 a100 a101 a102 a103 a104 a105 a106 a107 a108 a109 a110 a111 a112 a113 a114 a115 a116 a117 a118 a119 a120 a121 a122 a123 a124 a125 a126 a127 a128 a129 a130 a131 a132 a133 a134 a135 a136 a137 a138 a139 a140 a141 a142 a143 a144 a145 a146 a147 a148 a149 a150 a151 a152 a153 a154 a155 a156 a157 a158 a159 a160 a161 a162 a163 a164 a165 a166 a167 a168 a169 a170 a171 a172 a173 a174 a175 a176 a177 a178 a179 a180 a181 a182 a183 a184 a185 a186 a187 a188 a189 a190 a191 a192 a193 a194 : Value) (K : Act → World → Prop) (Q : Exit → Act → World → Prop) (HQP : Hid (∀ c a a' w, Q (.panic c) a w → a'.defers = a.defers → Q (.panic c) a' w))
    (HSTOP : Hid (∀ (av2 : Option Addr) (nev2 cv2 : Nat) (now2 : List Int) (es2 : List (Evt × Value)) (wr : World), nev2 = es2.length → RkS wb B Y nv now2 (.slice av2 nev2 cv2) es2 wr → runM bs nv seed (n + 1) = ⟨.stop, now2, es2.map (·.1)⟩ → ∀ (b13 b14 b16 b17 b18 b19 b20 b21 b22 b23 b24 b25 b26 b49 b50 b51 b52 b53 b54 b55 b56 b57 b58 b59 b60 b61 b62 b63 b64 b65 b66 b67 b68 b69 b70 b71 b72 b73 b74 b75 b76 b77 b78 b79 b80 b81 b82 b83 b84 b85 b86 b87 b88 b89 b90 b91 b92 b93 b94 b95 b96 b97 b98 b99 b100 b101 b102 b103 b104 b105 b106 b107 b108 b109 b110 b111 b112 b113 b114 b115 b116 b117 b118 b119 b120 b121 b122 b123 b124 b125 b126 b127 b128 b129 b130 b131 b132 b133 b134 b135 b136 b137 b138 b139 b140 b141 b142 b143 b144 b145 b146 b147 b148 b149 b150 b151 b152 b153 b154 b155 b156 b157 b158 b159 b160 b161 b162 b163 b164 b165 b166 b167 b168 b169 b170 b171 b172 b173 b174 b175 b176 b177 b178 b179 b180 b181 b182 b183 b184 b185 b186 b187 b188 b189 b190 b191 b192 b193 : Value), Q (.exit 0) { tmps := (List.toArray (a0 :: a1 :: (.int .i64 seed : Value) :: a3 :: (.pointer (some ⟨N, 0, none⟩) : Value) :: a5 :: a6 :: a7 :: a8 :: a9 :: a10 :: (.slice av2 nev2 cv2 : Value) :: (.slice (some ⟨Y, 0, none⟩) nv nv : Value) :: b13 :: b14 :: a15 :: b16 :: b17 :: b18 :: b19 :: b20 :: b21 :: b22 :: b23 :: b24 :: b25 :: b26 :: a27 :: a28 :: a29 :: a30 :: a31 :: a32 :: a33 :: a34 :: a35 :: a36 :: a37 :: a38 :: a39 :: a40 :: a41 :: a42 :: a43 :: a44 :: a45 :: a46 :: a47 :: a48 :: b49 :: b50 :: b51 :: b52 :: b53 :: b54 :: b55 :: b56 :: b57 :: b58 :: b59 :: b60 :: b61 :: b62 :: b63 :: b64 :: b65 :: b66 :: b67 :: b68 :: b69 :: b70 :: b71 :: b72 :: b73 :: b74 :: b75 :: b76 :: b77 :: b78 :: b79 :: b80 :: b81 :: b82 :: b83 :: b84 :: b85 :: b86 :: b87 :: b88 :: b89 :: b90 :: b91 :: b92 :: b93 :: b94 :: b95 :: b96 :: b97 :: b98 :: b99 :: b100 :: b101 :: b102 :: b103 :: b104 :: b105 :: b106 :: b107 :: b108 :: b109 :: b110 :: b111 :: b112 :: b113 :: b114 :: b115 :: b116 :: b117 :: b118 :: b119 :: b120 :: b121 :: b122 :: b123 :: b124 :: b125 :: b126 :: b127 :: b128 :: b129 :: b130 :: b131 :: b132 :: b133 :: b134 :: b135 :: b136 :: b137 :: b138 :: b139 :: b140 :: b141 :: b142 :: b143 :: b144 :: b145 :: b146 :: b147 :: b148 :: b149 :: b150 :: b151 :: b152 :: b153 :: b154 :: b155 :: b156 :: b157 :: b158 :: b159 :: b160 :: b161 :: b162 :: b163 :: b164 :: b165 :: b166 :: b167 :: b168 :: b169 :: b170 :: b171 :: b172 :: b173 :: b174 :: b175 :: b176 :: b177 :: b178 :: b179 :: b180 :: b181 :: b182 :: b183 :: b184 :: b185 :: b186 :: b187 :: b188 :: b189 :: b190 :: b191 :: b192 :: b193 :: a194 :: [])), defers := [] } wr))
    (hpost : (∀ (av2 : Option Addr) (nev2 cv2 bq : Nat) (pos2 : Int) (now2 : List Int) (es2 : List (Evt × Value)) (wr : World), nev2 = es2.length → StR wb B Y nv seed bs (n + 1) bq pos2 (.slice av2 nev2 cv2) now2 es2 wr → ∀ (b16 b17 b18 b19 b20 b21 b22 b23 b24 b25 b26 b49 b50 b51 b52 b53 b54 b55 b56 b57 b58 b59 b60 b61 b62 b63 b64 b65 b66 b67 b68 b69 b70 b71 b72 b73 b74 b75 b76 b77 b78 b79 b80 b81 b82 b83 b84 b85 b86 b87 b88 b89 b90 b91 b92 b93 b94 b95 b96 b97 b98 b99 b100 b101 b102 b103 b104 b105 b106 b107 b108 b109 b110 b111 b112 b113 b114 b115 b116 b117 b118 b119 b120 b121 b122 b123 b124 b125 b126 b127 b128 b129 b130 b131 b132 b133 b134 b135 b136 b137 b138 b139 b140 b141 b142 b143 b144 b145 b146 b147 b148 b149 b150 b151 b152 b153 b154 b155 b156 b157 b158 b159 b160 b161 b162 b163 b164 b165 b166 b167 b168 b169 b170 b171 b172 b173 b174 b175 b176 b177 b178 b179 b180 b181 b182 b183 b184 b185 b186 b187 b188 b189 b190 b191 b192 b193 : Value), K { tmps := (List.toArray (a0 :: a1 :: (.int .i64 seed : Value) :: a3 :: (.pointer (some ⟨N, 0, none⟩) : Value) :: a5 :: a6 :: a7 :: a8 :: a9 :: a10 :: (.slice av2 nev2 cv2 : Value) :: (.slice (some ⟨Y, 0, none⟩) nv nv : Value) :: (.int .i64 (bq : Int) : Value) :: (.int .i64 pos2 : Value) :: a15 :: b16 :: b17 :: b18 :: b19 :: b20 :: b21 :: b22 :: b23 :: b24 :: b25 :: b26 :: a27 :: a28 :: a29 :: a30 :: a31 :: a32 :: a33 :: a34 :: a35 :: a36 :: a37 :: a38 :: a39 :: a40 :: a41 :: a42 :: a43 :: a44 :: a45 :: a46 :: a47 :: a48 :: b49 :: b50 :: b51 :: b52 :: b53 :: b54 :: b55 :: b56 :: b57 :: b58 :: b59 :: b60 :: b61 :: b62 :: b63 :: b64 :: b65 :: b66 :: b67 :: b68 :: b69 :: b70 :: b71 :: b72 :: b73 :: b74 :: b75 :: b76 :: b77 :: b78 :: b79 :: b80 :: b81 :: b82 :: b83 :: b84 :: b85 :: b86 :: b87 :: b88 :: b89 :: b90 :: b91 :: b92 :: b93 :: b94 :: b95 :: b96 :: b97 :: b98 :: b99 :: b100 :: b101 :: b102 :: b103 :: b104 :: b105 :: b106 :: b107 :: b108 :: b109 :: b110 :: b111 :: b112 :: b113 :: b114 :: b115 :: b116 :: b117 :: b118 :: b119 :: b120 :: b121 :: b122 :: b123 :: b124 :: b125 :: b126 :: b127 :: b128 :: b129 :: b130 :: b131 :: b132 :: b133 :: b134 :: b135 :: b136 :: b137 :: b138 :: b139 :: b140 :: b141 :: b142 :: b143 :: b144 :: b145 :: b146 :: b147 :: b148 :: b149 :: b150 :: b151 :: b152 :: b153 :: b154 :: b155 :: b156 :: b157 :: b158 :: b159 :: b160 :: b161 :: b162 :: b163 :: b164 :: b165 :: b166 :: b167 :: b168 :: b169 :: b170 :: b171 :: b172 :: b173 :: b174 :: b175 :: b176 :: b177 :: b178 :: b179 :: b180 :: b181 :: b182 :: b183 :: b184 :: b185 :: b186 :: b187 :: b188 :: b189 :: b190 :: b191 :: b192 :: b193 :: a194 :: [])), defers := [] } wr))
    (cd : Code) (hcd : blkM 1 (Try.f5.body.getD .skip) = some cd) :
    cd.wp Try.prog (Exit.then K Q) { tmps := (List.toArray (a0 :: a1 :: (.int .i64 seed : Value) :: a3 :: (.pointer (some ⟨N, 0, none⟩) : Value) :: a5 :: a6 :: a7 :: a8 :: a9 :: a10 :: (.slice av nev cv : Value) :: (.slice (some ⟨Y, 0, none⟩) nv nv : Value) :: (.int .i64 (b : Int) : Value) :: (.int .i64 (k : Int) : Value) :: a15 :: a16 :: a17 :: a18 :: a19 :: a20 :: a21 :: a22 :: a23 :: a24 :: a25 :: a26 :: a27 :: a28 :: a29 :: a30 :: a31 :: a32 :: a33 :: a34 :: a35 :: a36 :: a37 :: a38 :: a39 :: a40 :: a41 :: a42 :: a43 :: a44 :: a45 :: a46 :: a47 :: a48 :: a49 :: a50 :: a51 :: a52 :: a53 :: a54 :: a55 :: a56 :: a57 :: a58 :: a59 :: a60 :: a61 :: a62 :: a63 :: a64 :: a65 :: a66 :: a67 :: a68 :: a69 :: a70 :: a71 :: a72 :: a73 :: a74 :: a75 :: a76 :: a77 :: a78 :: a79 :: a80 :: a81 :: a82 :: a83 :: a84 :: a85 :: a86 :: a87 :: a88 :: a89 :: a90 :: a91 :: a92 :: a93 :: a94 :: a95 :: a96 :: a97 :: a98 :: a99 :: a100 :: a101 :: a102 :: a103 :: a104 :: a105 :: a106 :: a107 :: a108 :: a109 :: a110 :: a111 :: a112 :: a113 :: a114 :: a115 :: a116 :: a117 :: a118 :: a119 :: a120 :: a121 :: a122 :: a123 :: a124 :: a125 :: a126 :: a127 :: a128 :: a129 :: a130 :: a131 :: a132 :: a133 :: a134 :: a135 :: a136 :: a137 :: a138 :: a139 :: a140 :: a141 :: a142 :: a143 :: a144 :: a145 :: a146 :: a147 :: a148 :: a149 :: a150 :: a151 :: a152 :: a153 :: a154 :: a155 :: a156 :: a157 :: a158 :: a159 :: a160 :: a161 :: a162 :: a163 :: a164 :: a165 :: a166 :: a167 :: a168 :: a169 :: a170 :: a171 :: a172 :: a173 :: a174 :: a175 :: a176 :: a177 :: a178 :: a179 :: a180 :: a181 :: a182 :: a183 :: a184 :: a185 :: a186 :: a187 :: a188 :: a189 :: a190 :: a191 :: a192 :: a193 :: a194 :: [])), defers := [] } w := by
  have HPOST : Hid (∀ (av2 : Option Addr) (nev2 cv2 bq : Nat) (pos2 : Int) (now2 : List Int) (es2 : List (Evt × Value)) (wr : World), nev2 = es2.length → StR wb B Y nv seed bs (n + 1) bq pos2 (.slice av2 nev2 cv2) now2 es2 wr → ∀ (b16 b17 b18 b19 b20 b21 b22 b23 b24 b25 b26 b49 b50 b51 b52 b53 b54 b55 b56 b57 b58 b59 b60 b61 b62 b63 b64 b65 b66 b67 b68 b69 b70 b71 b72 b73 b74 b75 b76 b77 b78 b79 b80 b81 b82 b83 b84 b85 b86 b87 b88 b89 b90 b91 b92 b93 b94 b95 b96 b97 b98 b99 b100 b101 b102 b103 b104 b105 b106 b107 b108 b109 b110 b111 b112 b113 b114 b115 b116 b117 b118 b119 b120 b121 b122 b123 b124 b125 b126 b127 b128 b129 b130 b131 b132 b133 b134 b135 b136 b137 b138 b139 b140 b141 b142 b143 b144 b145 b146 b147 b148 b149 b150 b151 b152 b153 b154 b155 b156 b157 b158 b159 b160 b161 b162 b163 b164 b165 b166 b167 b168 b169 b170 b171 b172 b173 b174 b175 b176 b177 b178 b179 b180 b181 b182 b183 b184 b185 b186 b187 b188 b189 b190 b191 b192 b193 : Value), K { tmps := (List.toArray (a0 :: a1 :: (.int .i64 seed : Value) :: a3 :: (.pointer (some ⟨N, 0, none⟩) : Value) :: a5 :: a6 :: a7 :: a8 :: a9 :: a10 :: (.slice av2 nev2 cv2 : Value) :: (.slice (some ⟨Y, 0, none⟩) nv nv : Value) :: (.int .i64 (bq : Int) : Value) :: (.int .i64 pos2 : Value) :: a15 :: b16 :: b17 :: b18 :: b19 :: b20 :: b21 :: b22 :: b23 :: b24 :: b25 :: b26 :: a27 :: a28 :: a29 :: a30 :: a31 :: a32 :: a33 :: a34 :: a35 :: a36 :: a37 :: a38 :: a39 :: a40 :: a41 :: a42 :: a43 :: a44 :: a45 :: a46 :: a47 :: a48 :: b49 :: b50 :: b51 :: b52 :: b53 :: b54 :: b55 :: b56 :: b57 :: b58 :: b59 :: b60 :: b61 :: b62 :: b63 :: b64 :: b65 :: b66 :: b67 :: b68 :: b69 :: b70 :: b71 :: b72 :: b73 :: b74 :: b75 :: b76 :: b77 :: b78 :: b79 :: b80 :: b81 :: b82 :: b83 :: b84 :: b85 :: b86 :: b87 :: b88 :: b89 :: b90 :: b91 :: b92 :: b93 :: b94 :: b95 :: b96 :: b97 :: b98 :: b99 :: b100 :: b101 :: b102 :: b103 :: b104 :: b105 :: b106 :: b107 :: b108 :: b109 :: b110 :: b111 :: b112 :: b113 :: b114 :: b115 :: b116 :: b117 :: b118 :: b119 :: b120 :: b121 :: b122 :: b123 :: b124 :: b125 :: b126 :: b127 :: b128 :: b129 :: b130 :: b131 :: b132 :: b133 :: b134 :: b135 :: b136 :: b137 :: b138 :: b139 :: b140 :: b141 :: b142 :: b143 :: b144 :: b145 :: b146 :: b147 :: b148 :: b149 :: b150 :: b151 :: b152 :: b153 :: b154 :: b155 :: b156 :: b157 :: b158 :: b159 :: b160 :: b161 :: b162 :: b163 :: b164 :: b165 :: b166 :: b167 :: b168 :: b169 :: b170 :: b171 :: b172 :: b173 :: b174 :: b175 :: b176 :: b177 :: b178 :: b179 :: b180 :: b181 :: b182 :: b183 :: b184 :: b185 :: b186 :: b187 :: b188 :: b189 :: b190 :: b191 :: b192 :: b193 :: a194 :: [])), defers := [] } wr) := hpost
  clear hpost
  obtain rfl := Option.some.inj (hcd.symm.trans (rfl : blkM 1 (Try.f5.body.getD .skip) = some _))
  clear hcd
  have hbl : b < bs.length := by rw [HBS.out.2]; exact hb
  obtain ⟨blk, hblk⟩ : ∃ blk, bs[b]'hbl = blk := ⟨_, rfl⟩
  have hbm : blk ∈ bs := by rw [← hblk]; exact List.getElem_mem hbl
  have hbg : bs[b]? = some blk := by rw [List.getElem?_eq_getElem hbl, hblk]
  obtain ⟨b5, off5, ap, cp, ai, ci, ae, ce, rfl, lb5, p0, p1, p2, hi, he⟩ := blk_atR HBS.out.1 b hbl
  rw [hblk] at p0 p1 p2 hi he
  have fi := HFT.out.ins blk hbm
  have fe := HFT.out.edg blk hbm
  obtain ⟨np, hnp⟩ : ∃ np, blk.params.length = np := ⟨_, rfl⟩
  obtain ⟨ni, hni⟩ : ∃ ni, blk.instrs.length = ni := ⟨_, rfl⟩
  obtain ⟨ne, hne⟩ : ∃ ne, blk.edges.length = ne := ⟨_, rfl⟩
  rw [hnp] at p0
  rw [hni] at p1 hi fi
  rw [hne] at p2 he fe
  have HBLK : Hid (bs[b]? = some blk ∧ blk.instrs.length = ni ∧ blk.edges.length = ne ∧ bs.length = nb) := ⟨hbg, hni, hne, HBS.out.2⟩
  have HSI : Hid (SlOf wb 3 (RIns wb) (.slice ai ni ci) blk.instrs) := hi
  have HSE : Hid (SlOf wb 2 (REdg wb) (.slice ae ne ce) blk.edges) := he
  have HFI : Hid (∀ x ∈ blk.instrs, x.operands.length ≤ 1000 ∧ ∀ o ∈ x.operands, 0 ≤ o.value ∧ o.value < (nv : Int)) := fi.2
  have HFE : Hid (∀ e ∈ blk.edges, (0 ≤ e.block ∧ e.block < (bs.length : Int)) ∧ e.args.length ≤ 1000 ∧ (∀ v ∈ e.args, 0 ≤ v ∧ v < (nv : Int)) ∧ (bs.getD e.block.toNat emptyB).params.length = e.args.length) := fe.2
  have hni2 := fi.1
  have hne2 := fe.1
  have hgd : bs.getD b emptyB = blk := by rw [List.getD_eq_getElem?_getD, hbg]; rfl
  have HGD : Hid (bs.getD b emptyB = blk) := hgd
  have hlow := HK.out.low
  have e0 := (hlow.cell (p := ⟨b5, _, none⟩) lb5).trans p0
  have e1 := (hlow.cell (p := ⟨b5, _, none⟩) lb5).trans p1
  have e2 := (hlow.cell (p := ⟨b5, _, none⟩) lb5).trans p2
  have le5 : b5 < w.heap.size := Nat.lt_of_lt_of_le lb5 hlow.size
  obtain ⟨x1, lN⟩ := HF0.out _ hlow
  obtain ⟨P, hP⟩ : ∃ P, w.heap.size = P := ⟨_, rfl⟩
  obtain ⟨W2, hW2⟩ : ∃ W2, W2 = w.alloc (.cells #[.slice ap np cp, .slice ai ni ci, .slice ae ne ce] 43) := ⟨_, rfl⟩
  have b2 : Below w.heap.size w W2 := by rw [hW2]; exact (Below.refl _ _).alloc (Nat.le_refl _) _
  have rP : W2.rowIs P 43 3 (fun q => if q = 0 then .slice ap np cp else if q = 1 then .slice ai ni ci else .slice ae ne ce) := by
    rw [hW2, ← hP]
    exact World.rowIs_alloc _ _ _ _ fun i hi => by
      simp at hi
      match i, hi with | 0, _ => rfl | 1, _ => rfl | 2, _ => rfl
  have HK2 : Hid (RkS wb B Y nv now (.slice av nev cv) es W2) := HK.out.below b2
  have HP2 : Hid (W2.rowIs P 43 3 (fun q => if q = 0 then .slice ap np cp else if q = 1 then .slice ai ni ci else .slice ae ne ce) ∧ some P ≠ (Value.slice av nev cv).ownBlock ∧ P ≠ Y ∧ wb.heap.size ≤ P) := ⟨rP, fun e => by have := own_base HK.out.own e.symm; omega, by have := HK.out.lY; have := HK.out.lB; omega, by have := hlow.size; omega⟩
  have HW2 : Hid (W2 = w.alloc (.cells #[.slice ap np cp, .slice ai ni ci, .slice ae ne ce] 43)) := hW2
  have HPP : Hid (w.heap.size = P) := hP
  have hbb : (b : Int) < (nb : Int) := by omega
  clear hbl hblk hbm hbg p0 p1 p2 hi he fi fe hnp hni hne hgd hlow hW2 hP b2 rP
  go_upto_region 14 with fail
  rw [← HW2.out, HPP.out]
  clear HW2 HPP e0 e1 e2 x1 lN le5 HK
  have hki : k < ni := by have h := HKI.out; rw [HGD.out, HBLK.out.2.1] at h; exact h
  have hkl : k < blk.instrs.length := by rw [HBLK.out.2.1]; exact hki
  obtain ⟨b7, off7, ao, co, asp, csp, rfl, lb7, i0, i1, i2, ho⟩ := ins_at HSI.out k hkl
  obtain ⟨x, hx⟩ : ∃ x, blk.instrs[k]'hkl = x := ⟨_, rfl⟩
  have HXG : Hid (blk.instrs[k]? = some x) := by show _ = _; rw [List.getElem?_eq_getElem hkl, hx]
  have HXI := HFI.out _ (List.getElem_mem hkl)
  rw [hx] at i0 i1 i2 ho HXI
  obtain ⟨op, os, sp⟩ := x
  simp only at i0 i1 i2 ho HXI
  obtain ⟨no, hno⟩ : ∃ no, os.length = no := ⟨_, rfl⟩
  obtain ⟨nsp, hnsp⟩ : ∃ nsp, sp.length = nsp := ⟨_, rfl⟩
  rw [hno] at i1 ho
  rw [hnsp] at i2
  have HD : Hid (∀ o ∈ os, 0 ≤ o.value ∧ o.value < (nv : Int)) := HXI.2
  have hno2 : no ≤ 1000 := by rw [← hno]; exact HXI.1
  have HOB : Hid (SlOf wb 5 ROpr (.slice ao no co) os ∧ os.length = no) := ⟨ho, hno⟩
  have HIC : Hid (∀ w', Below wb.heap.size wb w' → w'.cell? ⟨b7, off7 + k * 3, none⟩ = some (.int .i64 op) ∧ w'.cell? ⟨b7, off7 + k * 3 + 1, none⟩ = some (.slice ao no co) ∧ w'.cell? ⟨b7, off7 + k * 3 + 1 + 1, none⟩ = some (.slice asp nsp csp) ∧ b7 < w'.heap.size) := fun w' hh => ⟨(hh.cell (p := ⟨b7, _, none⟩) lb7).trans i0, (hh.cell (p := ⟨b7, _, none⟩) lb7).trans i1, (hh.cell (p := ⟨b7, _, none⟩) lb7).trans i2, Nat.lt_of_lt_of_le lb7 hh.size⟩
  have hb7 : b7 < wb.heap.size := lb7
  clear hx hkl HXI i0 i1 i2 ho hno hnsp lb7
  have HXR : Hid (∀ w', Below W2.heap.size W2 w' → w'.cell? ⟨P, 1, none⟩ = some (.slice (some ⟨b7, off7, none⟩) ni ci) ∧ w'.cell? ⟨b7, off7 + k * 3 + 1, none⟩ = some (.slice ao no co) ∧ P < w'.heap.size ∧ b7 < w'.heap.size) := fun w' hh => by
    obtain ⟨_, a, _, d⟩ := HIC.out _ (HK2.out.low.trans (hh.mono HK2.out.low.size))
    have r := HP2.out.1.of_block (hh.block _ HP2.out.1.lt)
    exact ⟨r.cell (i := 1) (by omega), a, r.lt, d⟩
  go_upto_block 2 with fail
  refine source_reads P Y k nv no co ni ci b7 off7 ao now os W2 HXR HK2.out.nw ⟨HOB.out.1.below HK2.out.low fun _ _ h => h, HOB.out.2⟩ HD hki hno2 hnv _ _ _ _ _ _ _ _ _ _ _ _ _ _ _ _ _ _ _ _ _ _ _ _ _ _ _ _ _ _ _ _ _ _ _ _ _ _ _ _ _ _ _ _ _ _ _ _ _ _ _ _ _ _ _ _ _ _ _ _ _ _ _ _ _ _ _ _ _ _ _ _ _ _ _ _ _ _ _ _ _ _ _ _ _ _ _ _ _ _ _ _ _ _ _ _ _ _ _ _ _ _ _ _ _ _ _ _ _ _ _ _ _ _ _ _ _ _ _ _ _ _ _ _ _ _ _ _ _ _ _ _ _ _ _ _ _ _ _ _ _ _ _ _ _ _ _ _ _ _ _ _ _ _ _ _ _ _ _ _ _ _ _ _ _ _ _ _ _ _ _ _ _ _ _ _ _ _ _ _ _ _ _ _ _ _ _ _ _ _ _ _ ?_ _ (by kernel_rfl)
  intro nr ar cr w3 hnr hG z19 z20 z56 z57 z58 z59 z60 z61 z62 z63 z64 z65 z66 z67 z68 z69 z70 z71 z72 z73 z74 z75 z76 z77 z78 z79 z80 z81 z82 z83 z84 z85 z86
  obtain ⟨rd, hrd⟩ : ∃ rd, readsM now os = rd := ⟨_, rfl⟩
  rw [hrd] at hnr hG
  have HRDE : Hid (readsM now os = rd) := hrd
  have hnr2 : nr ≤ 1000 := by have := reads_few now os; rw [hrd, HOB.out.2] at this; omega
  have k3 := HK2.out.below hG.low
  have HK3 : Hid (RkS wb B Y nv now (.slice av nev cv) es w3) := k3
  have HP3 : Hid (w3.rowIs P 43 3 (fun q => if q = 0 then .slice ap np cp else if q = 1 then .slice (some ⟨b7, off7, none⟩) ni ci else .slice ae ne ce)) := HP2.out.1.of_block (hG.low.block _ HP2.out.1.lt)
  have s3 : SlOf w3 1 RInt (.slice ar nr cr) rd := hG.sl (by rw [← hnr]; unfold longest; omega)
  have hRY : rd = [] ∨ ∀ g, (Value.slice ar nr cr).ownBlock = some g → B ≤ g ∧ g < w3.heap.size ∧ some g ≠ (Value.slice av nev cv).ownBlock := Or.inr fun g hg => by
    obtain ⟨h1, h2⟩ := own_base hG.own hg
    refine ⟨Nat.le_trans HK2.out.lB h1, h2, fun e => ?_⟩
    have := (own_base HK2.out.own e.symm).2
    omega
  have HS3 : Hid (SlOf w3 1 RInt (.slice ar nr cr) rd ∧ rd.length = nr) := ⟨s3, hnr.symm⟩
  have HRB : Hid (rd = [] ∨ ∀ g, (Value.slice ar nr cr).ownBlock = some g → B ≤ g ∧ g < w3.heap.size ∧ some g ≠ (Value.slice av nev cv).ownBlock) := hRY
  have hBY := HK2.out.lY
  have HXM : Hid (∀ w', w3.grownBy w' (some Y) → w'.cell? ⟨P, 1, none⟩ = some (.slice (some ⟨b7, off7, none⟩) ni ci) ∧ w'.cell? ⟨b7, off7 + k * 3, none⟩ = some (.int .i64 op) ∧ w'.cell? ⟨b7, off7 + k * 3 + 1, none⟩ = some (.slice ao no co) ∧ w'.cell? ⟨b7, off7 + k * 3 + 1 + 1, none⟩ = some (.slice asp nsp csp) ∧ P < w'.heap.size ∧ b7 < w'.heap.size) := fun w' hh => by
    have hl : Below wb.heap.size wb w' := HK3.out.low.trans (gr_low hh HK3.out.low.size HK3.out.hY)
    obtain ⟨a, b', c, d⟩ := HIC.out _ hl
    exact ⟨gr_cell hh HP2.out.2.2.1 (HP3.out.cell (i := 1) (by omega)), a, b', c, Nat.lt_of_lt_of_le HP3.out.lt hh.size, d⟩
  clear hrd hnr hG k3 s3 hRY HXR HK2
  go_upto_block 4 with fail
  refine source_makes P Y k nv no co ni ci b7 off7 nr cr seed op (.slice asp nsp csp) ao ar now rd os w3 HXM HK3.out.nw HK3.out.ln ⟨HOB.out.1.below HK3.out.low fun _ _ h => h, HOB.out.2⟩ ?_ HS3 ?_ HD hki hno2 hnv hnr2 _ _ _ _ _ _ _ _ _ _ _ _ _ _ _ _ _ _ _ _ _ _ _ _ _ _ _ _ _ _ _ _ _ _ _ _ _ _ _ _ _ _ _ _ _ _ _ _ _ _ _ _ _ _ _ _ _ _ _ _ _ _ _ _ _ _ _ _ _ _ _ _ _ _ _ _ _ _ _ _ _ _ _ _ _ _ _ _ _ _ _ _ _ _ _ _ _ _ _ _ _ _ _ _ _ _ _ _ _ _ _ _ _ _ _ _ _ _ _ _ _ _ _ _ _ _ _ _ _ _ _ _ _ _ _ _ _ _ _ _ _ _ _ _ _ _ _ _ _ _ _ _ _ _ _ _ _ _ _ _ _ _ _ _ _ _ _ _ _ _ _ _ _ _ _ _ _ _ _ _ _ _ _ _ _ _ _ _ _ _ _ ?_ ?_ _ (by kernel_rfl)
  · show _ ∨ _
    refine (sl_own (by decide) HOB.out.1).imp id fun h g hg => ?_
    have := h g hg
    have := HK3.out.hY
    omega
  · show _ ∨ _
    refine HRB.out.imp id fun h g hg => ?_
    have := (h g hg).1
    omega
  · exact fun c a a' w h hd => HQP.out c a a' w h hd
  intro w4 r4 g4 z21 z22 z87 z88 z89 z90 z91 z92 z93 z94 z95 z96 z97 z98 z99 z100 z101 z102 z103 z104 z105 z106 z107 z108 z109 z110 z111 z112 z113 z114 z115 z116 z117 z118 z119 z120 z121 z122
  obtain ⟨nw2, hnw2⟩ : ∃ nw2, makesM seed op rd 0 os now = nw2 := ⟨_, rfl⟩
  rw [hnw2] at r4
  have k4 := HK3.out.made g4 r4 (by rw [← hnw2, makesM_length]; exact HK3.out.ln)
  have HNW2 : Hid (makesM seed op rd 0 os now = nw2) := hnw2
  have HK4 : Hid (RkS wb B Y nv nw2 (.slice av nev cv) es w4) := k4
  have HP4 : Hid (w4.rowIs P 43 3 (fun q => if q = 0 then .slice ap np cp else if q = 1 then .slice (some ⟨b7, off7, none⟩) ni ci else .slice ae ne ce)) := HP3.out.of_block (g4.block _ HP3.out.lt (fun e => HP2.out.2.2.1 (by simpa using e)))
  obtain ⟨tk, htk⟩ : ∃ tk, takesM seed blk.instrs ne (k : Int) rd = tk := ⟨_, rfl⟩
  have HTK : Hid (takesM seed blk.instrs ne (k : Int) rd = tk) := htk
  have HRD4 : Hid (RdOk w4 B (.slice av nev cv) (⟨b, k, rd, tk⟩, .slice ar nr cr)) := by
    have h : RdOk w3 B (.slice av nev cv) (⟨b, k, rd, tk⟩, .slice ar nr cr) := ⟨HS3.out.1, HRB.out⟩
    exact h.keep g4.size fun g hB hg hn => ⟨g4.block g hg (fun e => by simp at e; have h1 := k4.lY; omega), hn⟩
  have q1 : w4.cell? ⟨P, 0, none⟩ = some (.slice ap np cp) := HP4.out.cell (i := 0) (by omega)
  have q2 : w4.cell? ⟨P, 1, none⟩ = some (.slice (some ⟨b7, off7, none⟩) ni ci) := HP4.out.cell (i := 1) (by omega)
  have q3 : w4.cell? ⟨P, 2, none⟩ = some (.slice ae ne ce) := HP4.out.cell (i := 2) (by omega)
  have HC := edgeTaken_any seed blk.instrs (.slice ap np cp) (some ⟨b7, off7, none⟩) ae ni ci ne ce (k : Int) rd ar nr cr tk w4 (HSI.out.below k4.low (RIns.below k4.low)) HBLK.out.2.1 (by unfold longest; omega) HS3.out.2 HRD4.out.1 (by omega) htk
  clear hnw2 r4 g4 k4 htk HXM HK3
  go_wp2_with fail
  refine HC.mono ?_
  clear HC q1 q2 q3
  rintro e w5 ⟨rfl, hb5⟩
  have HK5 : Hid (RkS wb B Y nv nw2 (.slice av nev cv) es w5) := HK4.out.below hb5
  have HP5 : Hid (w5.rowIs P 43 3 (fun q => if q = 0 then .slice ap np cp else if q = 1 then .slice (some ⟨b7, off7, none⟩) ni ci else .slice ae ne ce)) := HP4.out.of_block (hb5.block _ HP4.out.lt)
  have HRD5 : Hid (RdOk w5 B (.slice av nev cv) (⟨b, k, rd, tk⟩, .slice ar nr cr)) := HRD4.out.keep hb5.size fun g _ hg hn => ⟨hb5.block g hg, hn⟩
  clear hb5 HK4 HP4 HRD4
  have own5 := HK5.out.own
  rw [HNE.out] at own5
  have oA := own5.alloc (.cells #[.int .i64 (b : Int), .int .i64 (k : Int), .slice ar nr cr, .int .i64 tk] 53)
  have hB5 := HK5.out.lB
  have hbA : Below w5.heap.size w5 (w5.alloc (.cells #[.int .i64 (b : Int), .int .i64 (k : Int), .slice ar nr cr, .int .i64 tk] 53)) := (Below.refl _ _).alloc (Nat.le_refl _) _
  obtain ⟨iE, hiE, hzE, hzE1, hzE2⟩ := ru_parts infoEv
  go_wp2_with (at_builtin; go_must (refine wpList_append_lies _ rfl _ _ 29 rfl B 53 iE (.agg #[.int .i64 0, .int .i64 0, .slice none 0 0, .int .i64 0]) 4 48 Try.underlying29 hiE hzE hzE1 hzE2 rfl (by omega) (.slice av nev cv) nev _ (by rfl) oA ⟨w5.heap.size, 0, none⟩ 1 1 [.int .i64 (b : Int), .int .i64 (k : Int), .slice ar nr cr, .int .i64 tk] (by rfl) (by rfl) ?e1 ?e2 (by omega) ?e3 ?e4 ?e5 (w5.heap.size + 1) ?e6 ?_))
  rotate_left
  any_goals (first | (exact ru_news rfl) | rfl | (show Value.oneCell' _ = true; simp [Value.oneCell']) | (intro u hu; simp at hu; rcases hu with rfl | rfl | rfl | rfl <;> rfl) | (unfold maxLen; omega) | omega | (simp; omega) | (simp; rfl) | (simp; done))
  intro g cap w6 hown hgrow hat hgl
  have hat2 : (Value.slice av nev cv).ownBlock = some g ∨ w5.heap.size ≤ g := by
    rcases hat with h1 | h1
    · exact Or.inl h1
    · right; omega
  have HK6 : Hid (RkS wb B Y nv nw2 (.slice (some ⟨g, 0, none⟩) (nev + 1) cap) (es ++ [((⟨b, k, rd, tk⟩ : Evt), Value.slice ar nr cr)]) w6) := HK5.out.push HRD5.out hbA hgrow HNE.out hown hat2
  have HP6 : Hid (w6.rowIs P 43 3 (fun q => if q = 0 then .slice ap np cp else if q = 1 then .slice (some ⟨b7, off7, none⟩) ni ci else .slice ae ne ce)) := HP5.out.of_block ((hgrow.block P (by have h1 := HP5.out.lt; have h2 := hbA.size; omega) HP2.out.2.1).trans (hbA.block P HP5.out.lt))
  have HR6 : Hid (runM bs nv seed (n + 1) = settle bs b (k + 1) tk nw2 ((es ++ [((⟨b, k, rd, tk⟩ : Evt), Value.slice ar nr cr)]).map (·.1))) := by
    show srStep bs seed (runM bs nv seed n) = _
    have e : (⟨.ins b k, now, es.map (·.1)⟩ : Rs) = settle bs b k 0 now (es.map (·.1)) := by unfold settle; rw [HGD.out, if_pos (by rw [HBLK.out.2.1]; exact hki)]
    rw [HRUN.out, e, step_ins bs seed b k 0 now (es.map (·.1)) blk ⟨op, os, sp⟩ HBLK.out.1 HXG.out]
    simp only [HBLK.out.2.2.1, HRDE.out, HTK.out, HNW2.out, List.map_append, List.map_cons, List.map_nil]
  have HT6 : Hid (k + 1 = ni → ne = 0 ∨ 0 ≤ tk ∧ tk < (ne : Int)) := by
    show _ → _
    intro h
    rw [← HTK.out]
    exact takes_bd seed blk.instrs ne k rd (by rw [HBLK.out.2.1]; exact h)
  have hkn : k + 1 ≤ ni := hki
  have HNV6 : Hid (nev + 1 = (es ++ [((⟨b, k, rd, tk⟩ : Evt), Value.slice ar nr cr)]).length) := by show _ = _; rw [List.length_append, HNE.out]; rfl
  have HPY : Hid (P ≠ Y ∧ wb.heap.size ≤ P) := HP2.out.2.2
  clear hown hgrow hat hgl hat2 oA own5 hbA hB5 HK5 HP5 HRD5 HP2
  have jk : IntKind.i64.wrap ((k : Int) + 1) = (k : Int) + 1 := by rw [IntKind.wrap_i64]; omega
  have p1 : w6.cell? ⟨P, 1, none⟩ = some (.slice (some ⟨b7, off7, none⟩) ni ci) := HP6.out.cell (i := 1) (by omega)
  by_cases hlt : k + 1 < ni
  · have hlt2 : ((k : Int) + 1) < (ni : Int) := by omega
    have HN1 : Hid (StR wb B Y nv seed bs (n + 1) b ((k : Int) + 1) (.slice (some ⟨g, 0, none⟩) (nev + 1) cap) nw2 (es ++ [((⟨b, k, rd, tk⟩ : Evt), Value.slice ar nr cr)]) w6) := by
      refine ⟨HK6.out, by rw [HBLK.out.2.2.2]; exact hb, Or.inr ⟨k + 1, by omega, by rw [HGD.out, HBLK.out.2.1]; exact hlt, ?_⟩⟩
      rw [HR6.out]
      unfold settle
      rw [HGD.out, if_pos (by rw [HBLK.out.2.1]; exact hlt)]
    go_wp2
    exact HPOST.out (some ⟨g, 0, none⟩) _ cap b ((k : Int) + 1) _ _ _ HNV6.out HN1.out _ _ _ _ _ _ _ _ _ _ _ _ _ _ _ _ _ _ _ _ _ _ _ _ _ _ _ _ _ _ _ _ _ _ _ _ _ _ _ _ _ _ _ _ _ _ _ _ _ _ _ _ _ _ _ _ _ _ _ _ _ _ _ _ _ _ _ _ _ _ _ _ _ _ _ _ _ _ _ _ _ _ _ _ _ _ _ _ _ _ _ _ _ _ _ _ _ _ _ _ _ _ _ _ _ _ _ _ _ _ _ _ _ _ _ _ _ _ _ _ _ _ _ _ _ _ _ _ _ _ _ _ _ _ _ _ _ _ _ _ _ _ _ _ _ _ _ _ _ _ _ _ _ _ _ _
  · have hlt2 : ¬ ((k : Int) + 1) < (ni : Int) := by omega
    skip
    have HKZ : Hid (k + 1 = ni) := (by omega : k + 1 = ni)
    skip
    have p2 : w6.cell? ⟨P, 2, none⟩ = some (.slice ae ne ce) := HP6.out.cell (i := 2) (by omega)
    by_cases hne0 : ne = 0
    · have HN1 : Hid (runM bs nv seed (n + 1) = ⟨.stop, nw2, ((es ++ [((⟨b, k, rd, tk⟩ : Evt), Value.slice ar nr cr)])).map (·.1)⟩) := by
        show _ = _
        rw [HR6.out, settle_end bs b (k + 1) tk _ _ blk HBLK.out.1 (by rw [HBLK.out.2.1]; have h := HKZ.out; omega) (List.length_eq_zero_iff.1 (by rw [HBLK.out.2.2.1]; exact hne0))]
      subst hne0
      go_wp2
      exact HSTOP.out (some ⟨g, 0, none⟩) _ cap _ _ _ HNV6.out HK6.out HN1.out _ _ _ _ _ _ _ _ _ _ _ _ _ _ _ _ _ _ _ _ _ _ _ _ _ _ _ _ _ _ _ _ _ _ _ _ _ _ _ _ _ _ _ _ _ _ _ _ _ _ _ _ _ _ _ _ _ _ _ _ _ _ _ _ _ _ _ _ _ _ _ _ _ _ _ _ _ _ _ _ _ _ _ _ _ _ _ _ _ _ _ _ _ _ _ _ _ _ _ _ _ _ _ _ _ _ _ _ _ _ _ _ _ _ _ _ _ _ _ _ _ _ _ _ _ _ _ _ _ _ _ _ _ _ _ _ _ _ _ _ _ _ _ _ _ _ _ _ _ _ _ _ _ _ _ _ _ _
    · have htk := (HT6.out HKZ.out).resolve_left hne0
      obtain ⟨K', hK'⟩ : ∃ K' : Nat, tk = (K' : Int) := ⟨tk.toNat, by omega⟩
      subst hK'
      have hKe : K' < blk.edges.length := by rw [HBLK.out.2.2.1]; omega
      have hKn : (K' : Int) < (ne : Int) := by omega
      have q0 : ((ne : Int) == 0) = false := by simp; omega
      obtain ⟨b9, off9, aa, ca, hae, lb9, i0, i1, ha⟩ := edg_at HSE.out K' hKe
      obtain ⟨e, he⟩ : ∃ e, blk.edges[K']'hKe = e := ⟨_, rfl⟩
      have heg : blk.edges[K']? = some e := by rw [List.getElem?_eq_getElem hKe, he]
      have hf := HFE.out _ (List.getElem_mem hKe)
      rw [he] at i0 i1 ha hf
      obtain ⟨eb, args⟩ := e
      obtain ⟨fb, fa, fv, fp⟩ := hf
      simp only at i0 i1 ha fb fa fv fp
      obtain ⟨b2, hb2⟩ : ∃ b2 : Nat, eb = (b2 : Int) := ⟨eb.toNat, by omega⟩
      subst hb2
      rw [Int.toNat_natCast] at fp
      have hb2l : b2 < bs.length := by omega
      have hb2n : b2 < nb := by rw [← HBLK.out.2.2.2]; exact hb2l
      have e2g : bs.getD b2 emptyB = bs[b2]'hb2l := by rw [List.getD_eq_getElem?_getD, List.getElem?_eq_getElem hb2l]; rfl
      rw [e2g] at fp
      obtain ⟨ps, hps⟩ : ∃ ps, (bs[b2]'hb2l).params = ps := ⟨_, rfl⟩
      have hpar := HFT.out.par _ (List.getElem_mem hb2l)
      obtain ⟨b5', off5', vp, h5, lb5', t0, hpsl⟩ := blk_par HBS.out.1 b2 hb2l
      simp only [Option.some.injEq, Addr.mk.injEq, and_true] at h5
      obtain ⟨rfl, rfl⟩ := h5
      rw [hps] at fp hpar hpsl
      obtain ⟨apz, cpz, rfl, _⟩ := hpsl.out
      obtain ⟨na, hna⟩ : ∃ na, args.length = na := ⟨_, rfl⟩
      rw [hna] at i1 ha fa fp
      rw [fp] at t0 hpsl
      subst hae
      have c0 := (HK6.out.low.cell (p := ⟨b9, _, none⟩) lb9).trans i0
      have c1 := (HK6.out.low.cell (p := ⟨b9, _, none⟩) lb9).trans i1
      skip
      have l9 : b9 < w6.heap.size := Nat.lt_of_lt_of_le lb9 HK6.out.low.size
      have lP6 := HP6.out.lt
      obtain ⟨W7, hW7⟩ : ∃ W7, W7 = w6.alloc (.cells #[.int .i64 (b2 : Int), .slice aa na ca] 55) := ⟨_, rfl⟩
      obtain ⟨Z, hZ⟩ : ∃ Z, w6.heap.size = Z := ⟨_, rfl⟩
      have b7w : Below w6.heap.size w6 W7 := by rw [hW7]; exact (Below.refl _ _).alloc (Nat.le_refl _) _
      have z0 : W7.cell? ⟨Z, 0, none⟩ = some (.int .i64 (b2 : Int)) := by rw [hW7, ← hZ]; simp
      have z1 : W7.cell? ⟨Z, 1, none⟩ = some (.slice aa na ca) := by rw [hW7, ← hZ]; simp
      have lZ : Z < W7.heap.size := by rw [hW7, ← hZ]; simp
      have HK7 : Hid (RkS wb B Y nv nw2 (.slice (some ⟨g, 0, none⟩) (nev + 1) cap) (es ++ [((⟨b, k, rd, (K' : Int)⟩ : Evt), Value.slice ar nr cr)]) W7) := HK6.out.below b7w
      have HZY : Hid (Z ≠ Y ∧ wb.heap.size ≤ Z) := ⟨by have := HK6.out.lY; have := HK6.out.lB; omega, by have := HK6.out.low.size; omega⟩
      have HXA : Hid (∀ w', Below W7.heap.size W7 w' → w'.cell? ⟨Z, 1, none⟩ = some (.slice aa na ca) ∧ Z < w'.heap.size) := fun w' hh => ⟨(hh.cell lZ).trans z1, Nat.lt_of_lt_of_le lZ hh.size⟩
      have HZ0 : Hid (∀ w', Below W7.heap.size W7 w' → w'.cell? ⟨Z, 0, none⟩ = some (.int .i64 (b2 : Int))) := fun w' hh => (hh.cell lZ).trans z0
      have HAS : Hid (SlOf wb 1 RInt (.slice aa na ca) args ∧ args.length = na) := ⟨ha, hna⟩
      have HAV : Hid (∀ v ∈ args, 0 ≤ v ∧ v < (nv : Int)) := fv
      have HPS : Hid (SlOf wb 1 RInt (.slice apz na cpz) ps ∧ ps.length = na) := ⟨hpsl, fp⟩
      have HPAR : Hid (∀ v ∈ ps, 0 ≤ v ∧ v < (nv : Int)) := hpar
      have HT0 : Hid (∀ w', Below wb.heap.size wb w' → w'.cell? ⟨b5, off5 + b2 * 3, none⟩ = some (.slice apz na cpz) ∧ b5 < w'.heap.size) := fun w' hh => ⟨(hh.cell (p := ⟨b5, _, none⟩) lb5').trans t0, Nat.lt_of_lt_of_le lb5' hh.size⟩
      obtain ⟨nw3, hnw3⟩ : ∃ nw3, handM nw2 ps args = nw3 := ⟨_, rfl⟩
      have HH3 : Hid (setsM ps (args.map fun v => (nw2).getD v.toNat 0) nw2 = nw3) := hnw3
      have HL3 : Hid (nw3.length = nv) := by show _ = _; rw [← hnw3]; unfold handM; rw [setsM_length]; exact HK6.out.ln
      have HRN : Hid (runM bs nv seed (n + 1) = ⟨.come b2, nw3, ((es ++ [((⟨b, k, rd, (K' : Int)⟩ : Evt), Value.slice ar nr cr)])).map (·.1)⟩ ∧ b2 < bs.length) := by
        refine ⟨?_, hb2l⟩
        rw [HR6.out, settle_on bs b (k + 1) (K' : Int) _ _ blk (bs[b2]'hb2l) ⟨(b2 : Int), args⟩ b2 HBLK.out.1 (by rw [HBLK.out.2.1]; have h := HKZ.out; omega) (by simpa using heg) (Int.toNat_natCast b2) (List.getElem?_eq_getElem hb2l), hps, hnw3]
      have HW7 : Hid (W7 = w6.alloc (.cells #[.int .i64 (b2 : Int), .slice aa na ca] 55)) := hW7
      have HZZ : Hid (w6.heap.size = Z) := hZ
      clear hW7 hZ b7w z0 z1 lZ ha hna fv hpsl fp hpar t0 lb5' hnw3 hps e2g heg he fb hb2l i0 i1 htk HR6 HT6
      go_upto_region 35 with fail
      rw [← HW7.out, HZZ.out]
      clear HW7 HZZ c0 c1 l9 lP6 p1 p2 HK6 HP6 q0
      go_upto_block 6 with fail
      refine source_args Z Y nv na ca aa nw2 args W7 HXA HK7.out.nw ⟨HAS.out.1.below HK7.out.low fun _ _ h => h, HAS.out.2⟩ HAV fa hnv _ _ _ _ _ _ _ _ _ _ _ _ _ _ _ _ _ _ _ _ _ _ _ _ _ _ _ _ _ _ _ _ _ _ _ _ _ _ _ _ _ _ _ _ _ _ _ _ _ _ _ _ _ _ _ _ _ _ _ _ _ _ _ _ _ _ _ _ _ _ _ _ _ _ _ _ _ _ _ _ _ _ _ _ _ _ _ _ _ _ _ _ _ _ _ _ _ _ _ _ _ _ _ _ _ _ _ _ _ _ _ _ _ _ _ _ _ _ _ _ _ _ _ _ _ _ _ _ _ _ _ _ _ _ _ _ _ _ _ _ _ _ _ _ _ _ _ _ _ _ _ _ _ _ _ _ _ _ _ _ _ _ _ _ _ _ _ _ _ _ _ _ _ _ _ _ _ _ _ _ _ _ _ _ _ _ _ _ _ _ _ _ _ ?_ _ (by kernel_rfl)
      intro ag cg w8 hG z25 z152 z153 z154 z155 z156 z157 z158 z159 z160 z161 z162 z163 z164 z165 z166 z167 z168 z169
      have HK8 : Hid (RkS wb B Y nv nw2 (.slice (some ⟨g, 0, none⟩) (nev + 1) cap) (es ++ [((⟨b, k, rd, (K' : Int)⟩ : Evt), Value.slice ar nr cr)]) w8) := HK7.out.below hG.low
      have hgl : (args.map fun v => (nw2).getD v.toNat 0).length = na := by rw [List.length_map]; exact HAS.out.2
      have HG8 : Hid (SlOf w8 1 RInt (.slice ag na cg) (args.map fun v => (nw2).getD v.toNat 0) ∧ (args.map fun v => (nw2).getD v.toNat 0).length = na) := ⟨hG.sl (by rw [hgl]; unfold longest; omega), hgl⟩
      have HGO : Hid (∀ g, (Value.slice ag na cg).ownBlock = some g → g ≠ Y) := fun g hg => by have h1 := (own_base hG.own hg).1; have h2 := HK7.out.lY; have h3 := HK7.out.lB; omega
      have z8 := HZ0.out _ hG.low
      have l8 : Z < w8.heap.size := (HXA.out _ hG.low).2
      have HXH : Hid (∀ w', w8.grownBy w' (some Y) → w'.cell? ⟨N, 1, none⟩ = some (.slice (some ⟨b5, off5, none⟩) nb cb) ∧ w'.cell? ⟨Z, 0, none⟩ = some (.int .i64 (b2 : Int)) ∧ w'.cell? ⟨b5, off5 + b2 * 3, none⟩ = some (.slice apz na cpz) ∧ N < w'.heap.size ∧ Z < w'.heap.size ∧ b5 < w'.heap.size) := fun w' hh => by
        have hl : Below wb.heap.size wb w' := HK8.out.low.trans (gr_low hh HK8.out.low.size HK8.out.hY)
        obtain ⟨a1, a2⟩ := HF0.out _ hl
        obtain ⟨a3, a4⟩ := HT0.out _ hl
        exact ⟨a1, gr_cell hh HZY.out.1 z8, a3, a2, Nat.lt_of_lt_of_le l8 hh.size, a4⟩
      clear hG hgl
      go_upto_block 8 with fail
      refine source_hand N Z Y nv nb cb na cpz cg b2 b5 off5 apz ag nw2 ps (args.map fun v => (nw2).getD v.toNat 0) w8 HXH (by show World.rowIs _ _ _ _ _; simp only [List.take_zero, setsM]; exact HK8.out.nw) HK8.out.ln ⟨HPS.out.1.below HK8.out.low fun _ _ h => h, HPS.out.2⟩ ?_ HG8 (Or.inr HGO.out) HPAR hb2n fa hnv hnb2 _ _ _ _ _ _ _ _ _ _ _ _ _ _ _ _ _ _ _ _ _ _ _ _ _ _ _ _ _ _ _ _ _ _ _ _ _ _ _ _ _ _ _ _ _ _ _ _ _ _ _ _ _ _ _ _ _ _ _ _ _ _ _ _ _ _ _ _ _ _ _ _ _ _ _ _ _ _ _ _ _ _ _ _ _ _ _ _ _ _ _ _ _ _ _ _ _ _ _ _ _ _ _ _ _ _ _ _ _ _ _ _ _ _ _ _ _ _ _ _ _ _ _ _ _ _ _ _ _ _ _ _ _ _ _ _ _ _ _ _ _ _ _ _ _ _ _ _ _ _ _ _ _ _ _ _ _ _ _ _ _ _ _ _ _ _ _ _ _ _ _ _ _ _ _ _ _ _ _ _ _ _ _ _ _ _ _ _ _ _ _ _ ?_ ?_ _ (by kernel_rfl)
      · show _ ∨ _
        refine (sl_own (by decide) HPS.out.1).imp id fun h g hg => ?_
        have h1 := h g hg
        have h2 := HK8.out.hY
        omega
      · exact fun c a a' w h hd => HQP.out c a a' w h hd
      intro w9 r9 g9 z26 z170 z171 z172 z173 z174 z175 z176 z177 z178 z179 z180 z181 z182 z183 z184 z185 z186 z187 z188 z189 z190 z191
      rw [HH3.out] at r9
      have HN1 : Hid (StR wb B Y nv seed bs (n + 1) b2 (-1) (.slice (some ⟨g, 0, none⟩) (nev + 1) cap) nw3 (es ++ [((⟨b, k, rd, (K' : Int)⟩ : Evt), Value.slice ar nr cr)]) w9) := ⟨HK8.out.made g9 r9 HL3.out, HRN.out.2, Or.inl ⟨rfl, HRN.out.1⟩⟩
      have z9 := (HXH.out _ g9).2.1
      clear r9 g9 z8 l8
      go_wp2
      exact HPOST.out (some ⟨g, 0, none⟩) _ cap b2 (-1) _ _ _ (by simpa using HNV6.out) HN1.out _ _ _ _ _ _ _ _ _ _ _ _ _ _ _ _ _ _ _ _ _ _ _ _ _ _ _ _ _ _ _ _ _ _ _ _ _ _ _ _ _ _ _ _ _ _ _ _ _ _ _ _ _ _ _ _ _ _ _ _ _ _ _ _ _ _ _ _ _ _ _ _ _ _ _ _ _ _ _ _ _ _ _ _ _ _ _ _ _ _ _ _ _ _ _ _ _ _ _ _ _ _ _ _ _ _ _ _ _ _ _ _ _ _ _ _ _ _ _ _ _ _ _ _ _ _ _ _ _ _ _ _ _ _ _ _ _ _ _ _ _ _ _ _ _ _ _ _ _ _ _ _ _ _ _ _

end Go.Proofs.Ytmkloakahefjiaa
