/-
  The edits of the reference's 'OutputFault' (P5.2): its second loop.
-/
import Derived.Test.YtjbjnndmpheedaaM4
import Derived.Test.YtjbjnndmpheedaaM1
import Derived.Deep.CutRange
namespace Go.Proofs.Ytjbjnndmpheedaa
open Go.RowKit
set_option linter.unusedVariables false

/-- The block of a code that bears a number. -/
def blkM (id : Nat) : Code → Option Code
  | .seq a b => match blkM id a with | some c => some c | none => blkM id b
  | .cond _ a b => match blkM id a with | some c => some c | none => blkM id b
  | .block i b => if i = id then some (.block i b) else blkM id b
  | .loop b => blkM id b
  | .scope b => blkM id b
  | _ => none
theorem flow_machR {f : Fn} {m0 m1 : Int} {K : Nat} (h : flowE f m0 m1 K = 0) : (0 ≤ m0 ∧ m0 ≤ 1000) ∧ (0 ≤ m1 ∧ m1 ≤ 1000) := by
  have h1 : shapeErr f m0 m1 = 0 := by
    unfold flowE at h
    by_cases hc : shapeErr f m0 m1 ≠ 0
    · rw [if_pos hc] at h
      exact h
    · simpa using hc
  have h2 := (shape_in h1).mach
  unfold machErr at h2
  split at h2
  · omega
  · omega
theorem moveB_kind {m0 m1 fr : Int} {p : Pl} (h : moveB m0 m1 fr p = true) : p.kind = 1 ∨ p.kind = 2 := by
  unfold moveB isRegB isSlotB at h
  simp at h
  omega
theorem mayB_true {m0 m1 fr : Int} {p : Pl} {b : Bool} (h : moveB m0 m1 fr p = b) : mayB m0 m1 fr true p = b := by
  unfold mayB
  rw [if_pos rfl]
  exact h
theorem mayB_false {m0 m1 fr : Int} {p : Pl} {b : Bool} (h : holdB m0 m1 fr p = b) : mayB m0 m1 fr false p = b := by
  unfold mayB
  rw [if_neg (by decide)]
  exact h


set_option maxRecDepth 8000 in
set_option maxHeartbeats 16000000 in
theorem output_edits (bs : List Blk) (eds : List Ed) (m0 m1 fr : Int) (av ab ap ae : Option Addr) (nv cv cb np cp ne ce : Nat) (r : Int) (w W wo : World) (N : Nat) (lnp : np ≤ 140737488355328) (lne : ne ≤ 140737488355328)
    (HS : Hid (∀ w', Below W.heap.size W w' → w'.cell? ⟨N, 0, none⟩ = some (.slice av nv cv) ∧ w'.cell? ⟨N, 1, none⟩ = some (.slice ab np cb) ∧ w'.cell? ⟨N + 1, 0, none⟩ = some (.int .i64 m0) ∧ w'.cell? ⟨N + 1, 1, none⟩ = some (.int .i64 m1) ∧ w'.cell? ⟨N + 1 + 1, 0, none⟩ = some (.slice ap np cp) ∧ w'.cell? ⟨N + 1 + 1, 1, none⟩ = some (.slice ae ne ce) ∧ w'.cell? ⟨N + 1 + 1, 2, none⟩ = some (.int .i64 fr) ∧ N + 1 + 1 < w'.heap.size)) (HBW : Hid (Below w.heap.size w W)) (HB : Hid (SlOf W 3 (RBlk W) (.slice ab np cb) bs)) (HE : Hid (SlOf W 3 (REd W) (.slice ae ne ce) eds)) (HNB : Hid (bs.length = np)) (HNE : Hid (eds.length = ne)) (HM : Hid ((0 ≤ m0 ∧ m0 ≤ 1000) ∧ (0 ≤ m1 ∧ m1 ≤ 1000))) (HFR : Hid (0 ≤ fr ∧ fr ≤ 1000)) (HR : Hid (editsGo m0 m1 fr bs (prevOf eds 0) 0 (eds.drop 0) = r)) (HBo : Hid (Below W.heap.size W wo))
    (a0 a1 a2 a6 a7 a8 a9 a10 a11 a14 a15 a16 a17 a18 a19 a20 a21 a22 a23 a24 a25 a26 a27 a28 a29 a30 a31 a32 a33 a34 a35 a36 a37 a38 a39 a40 a41 a42 a43 a44 a45 a46 a47 a48 a49 a50 a51 a52 a53 a54 a55 a56 a57 a58 a59 a60 a61 a62 a63 a64 a65 a66 a67 a68 a69 a70 a71 a72 a73 a74 a75 a76 a77 a78 a79 a80 a81 a82 a83 a84 a85 a86 a87 a88 a89 a90 a91 a92 a93 a94 a95 a96 a97 a98 a99 a100 a101 a102 a103 a104 a105 a106 a107 a108 a109 a110 a111 a112 a113 a114 a115 a116 a117 a118 a119 a120 a121 a122 a123 a124 a125 a126 a127 a128 a129 a130 a131 a132 a133 a134 a135 a136 a137 a138 a139 a140 a141 a142 a143 a144 a145 a146 a147 a148 a149 a150 a151 a152 a153 a154 a155 a156 a157 a158 a159 a160 a161 a162 a163 a164 a165 a166 a167 a168 a169 a170 a171 a172 a173 a174 a175 a176 a177 a178 a179 a180 a181 a182 a183 a184 a185 a186 a187 a188 a189 a190 a191 a192 a193 a194 a195 a196 a197 a198 a199 a200 a201 a202 a203 a204 a205 a206 a207 a208 a209 a210 a211 a212 a213 a214 a215 a216 a217 a218 a219 a220 a221 a222 a223 a224 a225 a226 a227 a228 a229 a230 a231 a232 a233 a234 a235 a236 a237 a238 a239 : Value) (K : Act → World → Prop) (Q : Exit → Act → World → Prop)
    (hret : (∀ (x : Int) (wr : World), x = r → Below w.heap.size w wr → ∀ (b12 b13 b14 b15 b16 b17 b105 b106 b107 b108 b109 b110 b111 b112 b113 b114 b115 b116 b117 b118 b119 b120 b121 b122 b123 b124 b125 b126 b127 b128 b129 b130 b131 b132 b133 b134 b135 b136 b137 b138 b139 b140 b141 b142 b143 b144 b145 b146 b147 b148 b149 b150 b151 b152 b153 b154 b155 b156 b157 b158 b159 b160 b161 b162 b163 b164 b165 b166 b167 b168 b169 b170 b171 b172 b173 b174 b175 b176 b177 b178 b179 b180 b181 b182 b183 b184 b185 b186 b187 b188 b189 b190 b191 b192 b193 b194 b195 b196 b197 b198 b199 b200 b201 b202 b203 b204 b205 b206 b207 b208 b209 b210 b211 b212 b213 b214 b215 b216 b217 b218 b219 b220 b221 b222 b223 b224 b225 b226 b227 b228 b229 b230 b231 b232 b233 b234 b235 b236 b237 b238 b239 : Value), Q .ret { tmps := (List.toArray (a0 :: a1 :: a2 :: (.pointer (some ⟨N, 0, none⟩) : Value) :: (.pointer (some ⟨N + 1, 0, none⟩) : Value) :: (.pointer (some ⟨N + 1 + 1, 0, none⟩) : Value) :: (.int .i64 x : Value) :: a7 :: a8 :: a9 :: a10 :: a11 :: b12 :: b13 :: b14 :: b15 :: b16 :: b17 :: a18 :: a19 :: a20 :: a21 :: a22 :: a23 :: a24 :: a25 :: a26 :: a27 :: a28 :: a29 :: a30 :: a31 :: a32 :: a33 :: a34 :: a35 :: a36 :: a37 :: a38 :: a39 :: a40 :: a41 :: a42 :: a43 :: a44 :: a45 :: a46 :: a47 :: a48 :: a49 :: a50 :: a51 :: a52 :: a53 :: a54 :: a55 :: a56 :: a57 :: a58 :: a59 :: a60 :: a61 :: a62 :: a63 :: a64 :: a65 :: a66 :: a67 :: a68 :: a69 :: a70 :: a71 :: a72 :: a73 :: a74 :: a75 :: a76 :: a77 :: a78 :: a79 :: a80 :: a81 :: a82 :: a83 :: a84 :: a85 :: a86 :: a87 :: a88 :: a89 :: a90 :: a91 :: a92 :: a93 :: a94 :: a95 :: a96 :: a97 :: a98 :: a99 :: a100 :: a101 :: a102 :: a103 :: a104 :: b105 :: b106 :: b107 :: b108 :: b109 :: b110 :: b111 :: b112 :: b113 :: b114 :: b115 :: b116 :: b117 :: b118 :: b119 :: b120 :: b121 :: b122 :: b123 :: b124 :: b125 :: b126 :: b127 :: b128 :: b129 :: b130 :: b131 :: b132 :: b133 :: b134 :: b135 :: b136 :: b137 :: b138 :: b139 :: b140 :: b141 :: b142 :: b143 :: b144 :: b145 :: b146 :: b147 :: b148 :: b149 :: b150 :: b151 :: b152 :: b153 :: b154 :: b155 :: b156 :: b157 :: b158 :: b159 :: b160 :: b161 :: b162 :: b163 :: b164 :: b165 :: b166 :: b167 :: b168 :: b169 :: b170 :: b171 :: b172 :: b173 :: b174 :: b175 :: b176 :: b177 :: b178 :: b179 :: b180 :: b181 :: b182 :: b183 :: b184 :: b185 :: b186 :: b187 :: b188 :: b189 :: b190 :: b191 :: b192 :: b193 :: b194 :: b195 :: b196 :: b197 :: b198 :: b199 :: b200 :: b201 :: b202 :: b203 :: b204 :: b205 :: b206 :: b207 :: b208 :: b209 :: b210 :: b211 :: b212 :: b213 :: b214 :: b215 :: b216 :: b217 :: b218 :: b219 :: b220 :: b221 :: b222 :: b223 :: b224 :: b225 :: b226 :: b227 :: b228 :: b229 :: b230 :: b231 :: b232 :: b233 :: b234 :: b235 :: b236 :: b237 :: b238 :: b239 :: [])), defers := [] } wr)) (hpost : (∀ wr : World, 0 = r → Below w.heap.size w wr → ∀ (b6 b12 b13 b14 b15 b16 b17 b105 b106 b107 b108 b109 b110 b111 b112 b113 b114 b115 b116 b117 b118 b119 b120 b121 b122 b123 b124 b125 b126 b127 b128 b129 b130 b131 b132 b133 b134 b135 b136 b137 b138 b139 b140 b141 b142 b143 b144 b145 b146 b147 b148 b149 b150 b151 b152 b153 b154 b155 b156 b157 b158 b159 b160 b161 b162 b163 b164 b165 b166 b167 b168 b169 b170 b171 b172 b173 b174 b175 b176 b177 b178 b179 b180 b181 b182 b183 b184 b185 b186 b187 b188 b189 b190 b191 b192 b193 b194 b195 b196 b197 b198 b199 b200 b201 b202 b203 b204 b205 b206 b207 b208 b209 b210 b211 b212 b213 b214 b215 b216 b217 b218 b219 b220 b221 b222 b223 b224 b225 b226 b227 b228 b229 b230 b231 b232 b233 b234 b235 b236 b237 b238 b239 : Value), K { tmps := (List.toArray (a0 :: a1 :: a2 :: (.pointer (some ⟨N, 0, none⟩) : Value) :: (.pointer (some ⟨N + 1, 0, none⟩) : Value) :: (.pointer (some ⟨N + 1 + 1, 0, none⟩) : Value) :: b6 :: a7 :: a8 :: a9 :: a10 :: a11 :: b12 :: b13 :: b14 :: b15 :: b16 :: b17 :: a18 :: a19 :: a20 :: a21 :: a22 :: a23 :: a24 :: a25 :: a26 :: a27 :: a28 :: a29 :: a30 :: a31 :: a32 :: a33 :: a34 :: a35 :: a36 :: a37 :: a38 :: a39 :: a40 :: a41 :: a42 :: a43 :: a44 :: a45 :: a46 :: a47 :: a48 :: a49 :: a50 :: a51 :: a52 :: a53 :: a54 :: a55 :: a56 :: a57 :: a58 :: a59 :: a60 :: a61 :: a62 :: a63 :: a64 :: a65 :: a66 :: a67 :: a68 :: a69 :: a70 :: a71 :: a72 :: a73 :: a74 :: a75 :: a76 :: a77 :: a78 :: a79 :: a80 :: a81 :: a82 :: a83 :: a84 :: a85 :: a86 :: a87 :: a88 :: a89 :: a90 :: a91 :: a92 :: a93 :: a94 :: a95 :: a96 :: a97 :: a98 :: a99 :: a100 :: a101 :: a102 :: a103 :: a104 :: b105 :: b106 :: b107 :: b108 :: b109 :: b110 :: b111 :: b112 :: b113 :: b114 :: b115 :: b116 :: b117 :: b118 :: b119 :: b120 :: b121 :: b122 :: b123 :: b124 :: b125 :: b126 :: b127 :: b128 :: b129 :: b130 :: b131 :: b132 :: b133 :: b134 :: b135 :: b136 :: b137 :: b138 :: b139 :: b140 :: b141 :: b142 :: b143 :: b144 :: b145 :: b146 :: b147 :: b148 :: b149 :: b150 :: b151 :: b152 :: b153 :: b154 :: b155 :: b156 :: b157 :: b158 :: b159 :: b160 :: b161 :: b162 :: b163 :: b164 :: b165 :: b166 :: b167 :: b168 :: b169 :: b170 :: b171 :: b172 :: b173 :: b174 :: b175 :: b176 :: b177 :: b178 :: b179 :: b180 :: b181 :: b182 :: b183 :: b184 :: b185 :: b186 :: b187 :: b188 :: b189 :: b190 :: b191 :: b192 :: b193 :: b194 :: b195 :: b196 :: b197 :: b198 :: b199 :: b200 :: b201 :: b202 :: b203 :: b204 :: b205 :: b206 :: b207 :: b208 :: b209 :: b210 :: b211 :: b212 :: b213 :: b214 :: b215 :: b216 :: b217 :: b218 :: b219 :: b220 :: b221 :: b222 :: b223 :: b224 :: b225 :: b226 :: b227 :: b228 :: b229 :: b230 :: b231 :: b232 :: b233 :: b234 :: b235 :: b236 :: b237 :: b238 :: b239 :: [])), defers := [] } wr))
    (cd : Code) (hcd : blkM 6 (Try.f8.body.getD .skip) = some cd) :
    cd.wp Try.prog (Exit.then K Q) { tmps := (List.toArray (a0 :: a1 :: a2 :: (.pointer (some ⟨N, 0, none⟩) : Value) :: (.pointer (some ⟨N + 1, 0, none⟩) : Value) :: (.pointer (some ⟨N + 1 + 1, 0, none⟩) : Value) :: a6 :: a7 :: a8 :: a9 :: a10 :: a11 :: (.int .i64 0 : Value) :: (.int .i64 0 : Value) :: a14 :: a15 :: a16 :: a17 :: a18 :: a19 :: a20 :: a21 :: a22 :: a23 :: a24 :: a25 :: a26 :: a27 :: a28 :: a29 :: a30 :: a31 :: a32 :: a33 :: a34 :: a35 :: a36 :: a37 :: a38 :: a39 :: a40 :: a41 :: a42 :: a43 :: a44 :: a45 :: a46 :: a47 :: a48 :: a49 :: a50 :: a51 :: a52 :: a53 :: a54 :: a55 :: a56 :: a57 :: a58 :: a59 :: a60 :: a61 :: a62 :: a63 :: a64 :: a65 :: a66 :: a67 :: a68 :: a69 :: a70 :: a71 :: a72 :: a73 :: a74 :: a75 :: a76 :: a77 :: a78 :: a79 :: a80 :: a81 :: a82 :: a83 :: a84 :: a85 :: a86 :: a87 :: a88 :: a89 :: a90 :: a91 :: a92 :: a93 :: a94 :: a95 :: a96 :: a97 :: a98 :: a99 :: a100 :: a101 :: a102 :: a103 :: a104 :: a105 :: a106 :: a107 :: a108 :: a109 :: a110 :: a111 :: a112 :: a113 :: a114 :: a115 :: a116 :: a117 :: a118 :: a119 :: a120 :: a121 :: a122 :: a123 :: a124 :: a125 :: a126 :: a127 :: a128 :: a129 :: a130 :: a131 :: a132 :: a133 :: a134 :: a135 :: a136 :: a137 :: a138 :: a139 :: a140 :: a141 :: a142 :: a143 :: a144 :: a145 :: a146 :: a147 :: a148 :: a149 :: a150 :: a151 :: a152 :: a153 :: a154 :: a155 :: a156 :: a157 :: a158 :: a159 :: a160 :: a161 :: a162 :: a163 :: a164 :: a165 :: a166 :: a167 :: a168 :: a169 :: a170 :: a171 :: a172 :: a173 :: a174 :: a175 :: a176 :: a177 :: a178 :: a179 :: a180 :: a181 :: a182 :: a183 :: a184 :: a185 :: a186 :: a187 :: a188 :: a189 :: a190 :: a191 :: a192 :: a193 :: a194 :: a195 :: a196 :: a197 :: a198 :: a199 :: a200 :: a201 :: a202 :: a203 :: a204 :: a205 :: a206 :: a207 :: a208 :: a209 :: a210 :: a211 :: a212 :: a213 :: a214 :: a215 :: a216 :: a217 :: a218 :: a219 :: a220 :: a221 :: a222 :: a223 :: a224 :: a225 :: a226 :: a227 :: a228 :: a229 :: a230 :: a231 :: a232 :: a233 :: a234 :: a235 :: a236 :: a237 :: a238 :: a239 :: [])), defers := [] } wo := by
  have HRET : Hid (∀ (x : Int) (wr : World), x = r → Below w.heap.size w wr → ∀ (b12 b13 b14 b15 b16 b17 b105 b106 b107 b108 b109 b110 b111 b112 b113 b114 b115 b116 b117 b118 b119 b120 b121 b122 b123 b124 b125 b126 b127 b128 b129 b130 b131 b132 b133 b134 b135 b136 b137 b138 b139 b140 b141 b142 b143 b144 b145 b146 b147 b148 b149 b150 b151 b152 b153 b154 b155 b156 b157 b158 b159 b160 b161 b162 b163 b164 b165 b166 b167 b168 b169 b170 b171 b172 b173 b174 b175 b176 b177 b178 b179 b180 b181 b182 b183 b184 b185 b186 b187 b188 b189 b190 b191 b192 b193 b194 b195 b196 b197 b198 b199 b200 b201 b202 b203 b204 b205 b206 b207 b208 b209 b210 b211 b212 b213 b214 b215 b216 b217 b218 b219 b220 b221 b222 b223 b224 b225 b226 b227 b228 b229 b230 b231 b232 b233 b234 b235 b236 b237 b238 b239 : Value), Q .ret { tmps := (List.toArray (a0 :: a1 :: a2 :: (.pointer (some ⟨N, 0, none⟩) : Value) :: (.pointer (some ⟨N + 1, 0, none⟩) : Value) :: (.pointer (some ⟨N + 1 + 1, 0, none⟩) : Value) :: (.int .i64 x : Value) :: a7 :: a8 :: a9 :: a10 :: a11 :: b12 :: b13 :: b14 :: b15 :: b16 :: b17 :: a18 :: a19 :: a20 :: a21 :: a22 :: a23 :: a24 :: a25 :: a26 :: a27 :: a28 :: a29 :: a30 :: a31 :: a32 :: a33 :: a34 :: a35 :: a36 :: a37 :: a38 :: a39 :: a40 :: a41 :: a42 :: a43 :: a44 :: a45 :: a46 :: a47 :: a48 :: a49 :: a50 :: a51 :: a52 :: a53 :: a54 :: a55 :: a56 :: a57 :: a58 :: a59 :: a60 :: a61 :: a62 :: a63 :: a64 :: a65 :: a66 :: a67 :: a68 :: a69 :: a70 :: a71 :: a72 :: a73 :: a74 :: a75 :: a76 :: a77 :: a78 :: a79 :: a80 :: a81 :: a82 :: a83 :: a84 :: a85 :: a86 :: a87 :: a88 :: a89 :: a90 :: a91 :: a92 :: a93 :: a94 :: a95 :: a96 :: a97 :: a98 :: a99 :: a100 :: a101 :: a102 :: a103 :: a104 :: b105 :: b106 :: b107 :: b108 :: b109 :: b110 :: b111 :: b112 :: b113 :: b114 :: b115 :: b116 :: b117 :: b118 :: b119 :: b120 :: b121 :: b122 :: b123 :: b124 :: b125 :: b126 :: b127 :: b128 :: b129 :: b130 :: b131 :: b132 :: b133 :: b134 :: b135 :: b136 :: b137 :: b138 :: b139 :: b140 :: b141 :: b142 :: b143 :: b144 :: b145 :: b146 :: b147 :: b148 :: b149 :: b150 :: b151 :: b152 :: b153 :: b154 :: b155 :: b156 :: b157 :: b158 :: b159 :: b160 :: b161 :: b162 :: b163 :: b164 :: b165 :: b166 :: b167 :: b168 :: b169 :: b170 :: b171 :: b172 :: b173 :: b174 :: b175 :: b176 :: b177 :: b178 :: b179 :: b180 :: b181 :: b182 :: b183 :: b184 :: b185 :: b186 :: b187 :: b188 :: b189 :: b190 :: b191 :: b192 :: b193 :: b194 :: b195 :: b196 :: b197 :: b198 :: b199 :: b200 :: b201 :: b202 :: b203 :: b204 :: b205 :: b206 :: b207 :: b208 :: b209 :: b210 :: b211 :: b212 :: b213 :: b214 :: b215 :: b216 :: b217 :: b218 :: b219 :: b220 :: b221 :: b222 :: b223 :: b224 :: b225 :: b226 :: b227 :: b228 :: b229 :: b230 :: b231 :: b232 :: b233 :: b234 :: b235 :: b236 :: b237 :: b238 :: b239 :: [])), defers := [] } wr) := hret
  have HPOST : Hid (∀ wr : World, 0 = r → Below w.heap.size w wr → ∀ (b6 b12 b13 b14 b15 b16 b17 b105 b106 b107 b108 b109 b110 b111 b112 b113 b114 b115 b116 b117 b118 b119 b120 b121 b122 b123 b124 b125 b126 b127 b128 b129 b130 b131 b132 b133 b134 b135 b136 b137 b138 b139 b140 b141 b142 b143 b144 b145 b146 b147 b148 b149 b150 b151 b152 b153 b154 b155 b156 b157 b158 b159 b160 b161 b162 b163 b164 b165 b166 b167 b168 b169 b170 b171 b172 b173 b174 b175 b176 b177 b178 b179 b180 b181 b182 b183 b184 b185 b186 b187 b188 b189 b190 b191 b192 b193 b194 b195 b196 b197 b198 b199 b200 b201 b202 b203 b204 b205 b206 b207 b208 b209 b210 b211 b212 b213 b214 b215 b216 b217 b218 b219 b220 b221 b222 b223 b224 b225 b226 b227 b228 b229 b230 b231 b232 b233 b234 b235 b236 b237 b238 b239 : Value), K { tmps := (List.toArray (a0 :: a1 :: a2 :: (.pointer (some ⟨N, 0, none⟩) : Value) :: (.pointer (some ⟨N + 1, 0, none⟩) : Value) :: (.pointer (some ⟨N + 1 + 1, 0, none⟩) : Value) :: b6 :: a7 :: a8 :: a9 :: a10 :: a11 :: b12 :: b13 :: b14 :: b15 :: b16 :: b17 :: a18 :: a19 :: a20 :: a21 :: a22 :: a23 :: a24 :: a25 :: a26 :: a27 :: a28 :: a29 :: a30 :: a31 :: a32 :: a33 :: a34 :: a35 :: a36 :: a37 :: a38 :: a39 :: a40 :: a41 :: a42 :: a43 :: a44 :: a45 :: a46 :: a47 :: a48 :: a49 :: a50 :: a51 :: a52 :: a53 :: a54 :: a55 :: a56 :: a57 :: a58 :: a59 :: a60 :: a61 :: a62 :: a63 :: a64 :: a65 :: a66 :: a67 :: a68 :: a69 :: a70 :: a71 :: a72 :: a73 :: a74 :: a75 :: a76 :: a77 :: a78 :: a79 :: a80 :: a81 :: a82 :: a83 :: a84 :: a85 :: a86 :: a87 :: a88 :: a89 :: a90 :: a91 :: a92 :: a93 :: a94 :: a95 :: a96 :: a97 :: a98 :: a99 :: a100 :: a101 :: a102 :: a103 :: a104 :: b105 :: b106 :: b107 :: b108 :: b109 :: b110 :: b111 :: b112 :: b113 :: b114 :: b115 :: b116 :: b117 :: b118 :: b119 :: b120 :: b121 :: b122 :: b123 :: b124 :: b125 :: b126 :: b127 :: b128 :: b129 :: b130 :: b131 :: b132 :: b133 :: b134 :: b135 :: b136 :: b137 :: b138 :: b139 :: b140 :: b141 :: b142 :: b143 :: b144 :: b145 :: b146 :: b147 :: b148 :: b149 :: b150 :: b151 :: b152 :: b153 :: b154 :: b155 :: b156 :: b157 :: b158 :: b159 :: b160 :: b161 :: b162 :: b163 :: b164 :: b165 :: b166 :: b167 :: b168 :: b169 :: b170 :: b171 :: b172 :: b173 :: b174 :: b175 :: b176 :: b177 :: b178 :: b179 :: b180 :: b181 :: b182 :: b183 :: b184 :: b185 :: b186 :: b187 :: b188 :: b189 :: b190 :: b191 :: b192 :: b193 :: b194 :: b195 :: b196 :: b197 :: b198 :: b199 :: b200 :: b201 :: b202 :: b203 :: b204 :: b205 :: b206 :: b207 :: b208 :: b209 :: b210 :: b211 :: b212 :: b213 :: b214 :: b215 :: b216 :: b217 :: b218 :: b219 :: b220 :: b221 :: b222 :: b223 :: b224 :: b225 :: b226 :: b227 :: b228 :: b229 :: b230 :: b231 :: b232 :: b233 :: b234 :: b235 :: b236 :: b237 :: b238 :: b239 :: [])), defers := [] } wr) := hpost
  clear hret hpost
  obtain rfl := Option.some.inj (hcd.symm.trans (rfl : blkM 6 (Try.f8.body.getD .skip) = some _))
  clear hcd
  go_wp2_with fail
  go_loopw [12, 13] (fun t x wr => ∃ (i : Nat) (tot : Int), t = .int .i64 tot ∧ x = .int .i64 i ∧ i ≤ ne ∧ Hid (0 ≤ tot ∧ tot ≤ 20000 ∧ Below W.heap.size W wr ∧ editsGo m0 m1 fr bs (prevOf eds i) tot (eds.drop i) = r)) (fun _ x _ => ne - (intOf x).toNat)
  case atStart => exact ⟨0, 0, rfl, rfl, Nat.zero_le _, by omega, by omega, HBo.out, HR.out⟩
  case round =>
    clear HR HBo
    obtain ⟨i, tot, rfl, rfl, hi, HK⟩ := hrel
    obtain ⟨wo, hwo⟩ : ∃ wo, wo = wr := ⟨_, rfl⟩
    subst hwo
    have HBo : Hid (Below W.heap.size W wo) := HK.out.2.2.1
    obtain ⟨q0, q1, q2, q3, q4, q5, q6, lW⟩ := HS.out _ HBo.out
    by_cases hlt : i < ne
    · have hil : i < eds.length := by rw [HNE.out]; exact hlt
      obtain ⟨be, offe, am, cm, rfl, hbe, e0, e1, e2, lm, hm⟩ := ed_cell (HE.out.below HBo.out (REd.below HBo.out)) i hil
      have HGO : Hid ((if edErr m0 m1 fr bs (prevOf eds i) tot eds[i] = 0 then editsGo m0 m1 fr bs (prevOf eds (i + 1)) (tot + (eds[i].moves.length : Int)) (eds.drop (i + 1)) else edErr m0 m1 fr bs (prevOf eds i) tot eds[i]) = r) := (editsGo_at hil).symm.trans HK.out.2.2.2
      obtain ⟨t0, t1⟩ : 0 ≤ tot ∧ tot ≤ 20000 := ⟨HK.out.1, HK.out.2.1⟩
      have HPR : Hid (0 < i → ∃ (p : Ed) (am2 : Option Addr) (cm2 : Nat), prevOf eds i = some p ∧ ∀ w', Below W.heap.size W w' → w'.cell? ⟨be, offe + (i - 1) * 3, none⟩ = some (.int .i64 p.block) ∧ w'.cell? ⟨be, offe + (i - 1) * 3 + 1, none⟩ = some (.int .i64 p.pos) ∧ w'.cell? ⟨be, offe + (i - 1) * 3 + 1 + 1, none⟩ = some (.slice am2 p.moves.length cm2) ∧ be < w'.heap.size) := fun hp => by
        have hi1 : i - 1 < eds.length := by omega
        obtain ⟨b', off', am2, cm2, he, hb', a0, a1, a2, _, _⟩ := ed_cell HE.out (i - 1) hi1
        simp only [Option.some.injEq, Addr.mk.injEq] at he
        obtain ⟨rfl, rfl, _⟩ := he
        exact ⟨eds[i - 1], am2, cm2, prevOf_pos hp hi1, fun w' hh => ⟨(hh.cell (p := ⟨be, offe + (i - 1) * 3, none⟩) hb').trans a0, (hh.cell (p := ⟨be, offe + (i - 1) * 3 + 1, none⟩) hb').trans a1, (hh.cell (p := ⟨be, offe + (i - 1) * 3 + 1 + 1, none⟩) hb').trans a2, Nat.lt_of_lt_of_le hb' hh.size⟩⟩
      have HMV : Hid (SlOf wo 6 RMv (.slice am eds[i].moves.length cm) eds[i].moves) := hm
      clear hm HK
      generalize eds[i] = e at *
      obtain ⟨W4, hW4⟩ : ∃ W4, W4 = wo.alloc (.cells #[.int .i64 e.block, .int .i64 e.pos, .slice am e.moves.length cm] 51) := ⟨_, rfl⟩
      obtain ⟨P, hP⟩ : ∃ P, wo.heap.size = P := ⟨_, rfl⟩
      have hb4 : Below wo.heap.size wo W4 := by rw [hW4]; exact (Below.refl _ _).alloc (Nat.le_refl _) _
      have s4 := top_at wo #[.int .i64 e.block, .int .i64 e.pos, .slice am e.moves.length cm] 51
      rw [← hW4, hP] at s4
      have HY : Hid (∀ w', Below W4.heap.size W4 w' → w'.cell? ⟨P, 0, none⟩ = some (.int .i64 e.block) ∧ w'.cell? ⟨P, 1, none⟩ = some (.int .i64 e.pos) ∧ w'.cell? ⟨P, 2, none⟩ = some (.slice am e.moves.length cm) ∧ P < w'.heap.size) := fun w' hh => ⟨(hh.cell (p := ⟨P, 0, none⟩) (block_lt (s4 0))).trans (s4 0), (hh.cell (p := ⟨P, 1, none⟩) (block_lt (s4 0))).trans (s4 1), (hh.cell (p := ⟨P, 2, none⟩) (block_lt (s4 0))).trans (s4 2), Nat.lt_of_lt_of_le (block_lt (s4 0)) hh.size⟩
      have HW4 : Hid (W4 = wo.alloc (.cells #[.int .i64 e.block, .int .i64 e.pos, .slice am e.moves.length cm] 51)) := hW4
      have HP4 : Hid (wo.heap.size = P) := hP
      have HB4 : Hid (Below W.heap.size W W4) := HBo.out.trans (hb4.mono HBo.out.size)
      have HO4 : Hid (Below wo.heap.size wo W4) := hb4
      obtain ⟨sv, hsv⟩ : ∃ sv, isSpotB bs e = sv := ⟨_, rfl⟩
      have HSV : Hid (isSpotB bs e = sv) := hsv
      have jn : IntKind.i64.wrap ((np : Int) - 1) = (np : Int) - 1 := by rw [IntKind.wrap_i64]; omega
      clear hW4 hP s4 hb4 hsv
      go_upto_region 29 with fail
      rw [← HW4.out, HP4.out]
      clear HW4 HP4 q0 q1 q2 q3 q4 q5 q6 lW e0 e1 e2 hbe
      obtain ⟨q0, q1, q2, q3, q4, q5, q6, lW⟩ := HS.out _ HB4.out
      obtain ⟨y0, y1, y2, lP⟩ := HY.out _ (Below.refl _ _)
      go_cut [138] from 105 to 239 (fun v wz => v = .bool (!sv) ∧ Below W4.heap.size W4 wz)
      case first =>
        obtain ⟨bb, hbb⟩ : ∃ bb, inB e.block 0 ((np : Int) - 1) = bb := ⟨_, rfl⟩
        cases bb
        · have hsf : sv = false := by
            rw [← HSV.out]
            unfold inB at hbb
            rw [decide_eq_false_iff_not] at hbb
            unfold isSpotB
            rw [decide_eq_false (by rw [HNB.out]; omega)]
            rfl
          subst hsf
          go_quiet ((go_at_call 22; exact Calls.quiet_of_same (in_is _ _ _ _ hbb _)))
          go_wp2
          go_meet
          exact ⟨rfl, below_drewN (Below.refl _ _) _⟩
        · have hbb' : 0 ≤ e.block ∧ e.block ≤ (np : Int) - 1 := by
            unfold inB at hbb
            rw [decide_eq_true_iff] at hbb
            exact hbb
          obtain ⟨t, htt⟩ : ∃ t : Nat, e.block = (t : Int) := ⟨e.block.toNat, by omega⟩
          have htn : t < bs.length := by rw [HNB.out]; omega
          obtain ⟨b5, off5, cs, rfl, hcl5, ⟨vp, vi, ve, rfl, hp, hi5, he0⟩, hc⟩ := (HB.out.below HB4.out (RBlk.below HB4.out)).at t htn
          obtain ⟨ai, ci, rfl, li⟩ := hi5.out
          unfold longest at li
          have c1 := hc 1 (by simp)
          simp at c1
          have HG : Hid ((bs.getD e.block.toNat ⟨[], [], []⟩).instrs.length = bs[t].instrs.length) := by
            show _ = _
            rw [htt]
            simp [List.getD, htn]
          have HD : Hid (decide (0 ≤ e.block ∧ e.block < (bs.length : Int)) = true) := decide_eq_true (by rw [HNB.out]; omega)
          rw [htt] at y0 hbb
          clear hc hcl5 hp hi5 he0
          generalize bs[t].instrs.length = ni at *
          have htb : (t : Int) < (np : Int) := by omega
          have htb2 : t < np := by omega
          obtain ⟨b2, hb2⟩ : ∃ b2, inB e.pos 0 (ni : Int) = b2 := ⟨_, rfl⟩
          have hse : b2 = sv := by
            rw [← HSV.out, ← hb2]
            unfold isSpotB inB
            rw [HD.out, HG.out]
            rfl
          subst hse
          clear htt hbb' htn
          go_quiet ((go_at_call 22; with_reducible (first | exact Calls.quiet_of_same (in_is _ _ _ _ hbb _) | exact Calls.quiet_of_same (in_is _ _ _ _ hb2 _))))
          go_wp2
          go_meet
          exact ⟨rfl, below_drewN (Below.refl _ _) _⟩
      case rest =>
        obtain ⟨rfl, hbz⟩ := hcut
        have HB5 : Hid (Below W4.heap.size W4 wc) := hbz
        have HBW5 : Hid (Below W.heap.size W wc) := HB4.out.trans (hbz.mono HB4.out.size)
        clear q0 q1 q2 q3 q4 q5 q6 lW y0 y1 y2 lP hbz jn
        obtain ⟨w5, hw5⟩ : ∃ w5, w5 = wc := ⟨_, rfl⟩
        subst hw5
        obtain ⟨q0, q1, q2, q3, q4, q5, q6, lW⟩ := HS.out _ HBW5.out
        obtain ⟨y0, y1, y2, lP⟩ := HY.out _ HB5.out
        cases sv
        case false =>
          have H : Hid (2 = r) := by
            show _ = _
            have hE : edErr m0 m1 fr bs (prevOf eds i) tot e = 2 := by unfold edErr; rw [if_pos HSV.out]
            rw [← HGO.out, hE]
            rfl
          go_wp2
          exact HRET.out _ _ H.out (HBW.out.trans (HBW5.out.mono HBW.out.size)) _ _ _ _ _ _ _ _ _ _ _ _ _ _ _ _ _ _ _ _ _ _ _ _ _ _ _ _ _ _ _ _ _ _ _ _ _ _ _ _ _ _ _ _ _ _ _ _ _ _ _ _ _ _ _ _ _ _ _ _ _ _ _ _ _ _ _ _ _ _ _ _ _ _ _ _ _ _ _ _ _ _ _ _ _ _ _ _ _ _ _ _ _ _ _ _ _ _ _ _ _ _ _ _ _ _ _ _ _ _ _ _ _ _ _ _ _ _ _ _ _ _ _ _ _ _ _ _ _ _ _ _ _ _ _ _ _ _ _ _ _
        case true =>
          obtain ⟨bv, hbv⟩ : ∃ bv, nextB (prevOf eds i) e = bv := ⟨_, rfl⟩
          have HBV : Hid (nextB (prevOf eds i) e = bv) := hbv
          clear hbv
          go_upto_region 31 with fail
          go_cut [176] from 105 to 239 (fun v wz => v = .bool (!bv) ∧ Below w5.heap.size w5 wz)
          case first =>
            by_cases hi0 : i = 0
            · subst hi0
              have hbt : bv = true := by rw [← HBV.out]; rfl
              subst hbt
              clear HPR
              go_quiet (fail)
              go_wp2
              go_meet
              exact ⟨rfl, below_drewN (Below.refl _ _) _⟩
            · have hi1 : 0 < i := by omega
              obtain ⟨p, am2, cm2, hpe, hpc⟩ := HPR.out hi1
              obtain ⟨z0, z1, z2, hbe⟩ := hpc _ HBW5.out
              have hbb : behindB e p = bv := by
                have h := HBV.out
                rw [hpe] at h
                exact h
              have g1 : (0 : Int) < (i : Int) := by omega
              have g1' : decide ((0 : Int) < (i : Int)) = true := decide_eq_true g1
              have g2' : decide (0 < i) = true := decide_eq_true hi1
              have j1 : IntKind.i64.wrap ((i : Int) - 1) = (i : Int) - 1 := by rw [IntKind.wrap_i64]; omega
              have j2 : 1 ≤ i := hi1
              have j3 : i < ne + 1 := by omega
              have j4 : (i : Int) - 1 < (ne : Int) := by omega
              have j5 : 0 ≤ (i : Int) - 1 := by omega
              have j6 : (1 : Int) ≤ (i : Int) := by omega
              unfold behindB at hbb
              clear hpe hpc hi0 HPR
              by_cases hq : e.block = p.block
              · rw [if_pos hq] at hbb
                have s1 : decide (e.block < p.block) = false := decide_eq_false (by omega)
                have s2 : (e.block == p.block) = true := by simp [hq]
                obtain ⟨x, hx⟩ : ∃ x, decide (e.pos ≤ p.pos) = x := ⟨_, rfl⟩
                have hxe : x = !bv := by
                  rw [← hx, ← hbb]
                  by_cases hh : e.pos ≤ p.pos
                  · rw [decide_eq_true hh, decide_eq_false (by omega)]; rfl
                  · rw [decide_eq_false hh, decide_eq_true (by omega)]; rfl
                clear hq hbb
                go_quiet (fail)
                go_wp2
                go_meet
                exact ⟨by first | rfl | rw [hx, hxe], below_drewN (Below.refl _ _) _⟩
              · rw [if_neg hq] at hbb
                have s2 : (e.block == p.block) = false := by simpa using hq
                by_cases hlb : e.block < p.block
                · have s1 : decide (e.block < p.block) = true := decide_eq_true hlb
                  have hbf : bv = false := by rw [← hbb, decide_eq_false (by omega)]
                  subst hbf
                  clear hq hbb
                  go_quiet (fail)
                  go_wp2
                  go_meet
                  exact ⟨rfl, below_drewN (Below.refl _ _) _⟩
                · have s1 : decide (e.block < p.block) = false := decide_eq_false hlb
                  have hbf : bv = true := by rw [← hbb, decide_eq_true (by omega)]
                  subst hbf
                  clear hq hbb
                  go_quiet (fail)
                  go_wp2
                  go_meet
                  exact ⟨rfl, below_drewN (Below.refl _ _) _⟩
          case rest =>
            obtain ⟨rfl, hbz⟩ := hcut
            have HB6 : Hid (Below W4.heap.size W4 wc) := HB5.out.trans (hbz.mono HB5.out.size)
            have HBW6 : Hid (Below W.heap.size W wc) := HBW5.out.trans (hbz.mono HBW5.out.size)
            clear q0 q1 q2 q3 q4 q5 q6 lW y0 y1 y2 lP hbz
            obtain ⟨y0, y1, y2, lP⟩ := HY.out _ HB6.out
            cases bv
            case false =>
              have H : Hid (4 = r) := by
                show _ = _
                have hE : edErr m0 m1 fr bs (prevOf eds i) tot e = 4 := by unfold edErr; rw [if_neg (by rw [HSV.out]; simp), if_pos HBV.out]
                rw [← HGO.out, hE]
                rfl
              go_wp2
              exact HRET.out _ _ H.out (HBW.out.trans (HBW6.out.mono HBW.out.size)) _ _ _ _ _ _ _ _ _ _ _ _ _ _ _ _ _ _ _ _ _ _ _ _ _ _ _ _ _ _ _ _ _ _ _ _ _ _ _ _ _ _ _ _ _ _ _ _ _ _ _ _ _ _ _ _ _ _ _ _ _ _ _ _ _ _ _ _ _ _ _ _ _ _ _ _ _ _ _ _ _ _ _ _ _ _ _ _ _ _ _ _ _ _ _ _ _ _ _ _ _ _ _ _ _ _ _ _ _ _ _ _ _ _ _ _ _ _ _ _ _ _ _ _ _ _ _ _ _ _ _ _ _ _ _ _ _ _ _ _ _
            case true =>
              have j1 : IntKind.i64.wrap (tot + (e.moves.length : Int)) = tot + (e.moves.length : Int) := by rw [IntKind.wrap_i64]; omega
              by_cases hbig : 20000 < tot + (e.moves.length : Int)
              · have H : Hid (1 = r) := by
                  show _ = _
                  have hE : edErr m0 m1 fr bs (prevOf eds i) tot e = 1 := by unfold edErr; rw [if_neg (by rw [HSV.out]; simp), if_neg (by rw [HBV.out]; simp), if_pos hbig]
                  rw [← HGO.out, hE]
                  rfl
                go_wp2
                exact HRET.out _ _ H.out (HBW.out.trans (HBW6.out.mono HBW.out.size)) _ _ _ _ _ _ _ _ _ _ _ _ _ _ _ _ _ _ _ _ _ _ _ _ _ _ _ _ _ _ _ _ _ _ _ _ _ _ _ _ _ _ _ _ _ _ _ _ _ _ _ _ _ _ _ _ _ _ _ _ _ _ _ _ _ _ _ _ _ _ _ _ _ _ _ _ _ _ _ _ _ _ _ _ _ _ _ _ _ _ _ _ _ _ _ _ _ _ _ _ _ _ _ _ _ _ _ _ _ _ _ _ _ _ _ _ _ _ _ _ _ _ _ _ _ _ _ _ _ _ _ _ _ _ _ _ _ _ _ _ _
              · have HEE : Hid (edErr m0 m1 fr bs (prevOf eds i) tot e = firstE (mvErr m0 m1 fr) e.moves) := by
                  show _ = _
                  unfold edErr
                  rw [if_neg (by rw [HSV.out]; simp), if_neg (by rw [HBV.out]; simp), if_neg hbig]
                have HTO : Hid (0 ≤ tot + (e.moves.length : Int) ∧ tot + (e.moves.length : Int) ≤ 20000) := by show _ ∧ _; omega
                have HYC : Hid (∀ w', Below wc.heap.size wc w' → w'.cell? ⟨P, 2, none⟩ = some (.slice am e.moves.length cm) ∧ P < w'.heap.size) := fun w' hh => by
                  obtain ⟨_, _, a, b⟩ := HY.out _ (HB6.out.trans (hh.mono HB6.out.size))
                  exact ⟨a, b⟩
                have HMC : Hid (SlOf wc 6 RMv (.slice am e.moves.length cm) e.moves) := by
                  have hh : Below wo.heap.size wo wc := HO4.out.trans (HB6.out.mono HO4.out.size)
                  exact HMV.out.below hh fun _ _ h => h
                go_wp2
                clear y0 y1 y2 lP hbig j1 t0 t1
                go_loopw [15] (fun x wr => ∃ j : Nat, x = .int .i64 j ∧ j ≤ e.moves.length ∧ Hid (Below wc.heap.size wc wr ∧ firstE (mvErr m0 m1 fr) (e.moves.drop j) = firstE (mvErr m0 m1 fr) e.moves)) (fun x _ => e.moves.length - (intOf x).toNat)
                case atStart => exact ⟨0, rfl, Nat.zero_le _, Below.refl _ _, rfl⟩
                case round =>
                  obtain ⟨j, rfl, hj, HJ⟩ := hrel
                  have HBr : Hid (Below W.heap.size W wr) := HBW6.out.trans (HJ.out.1.mono HBW6.out.size)
                  obtain ⟨q0, q1, q2, q3, q4, q5, q6, lW⟩ := HS.out _ HBr.out
                  obtain ⟨y2, lP⟩ := HYC.out _ HJ.out.1
                  by_cases hltj : j < e.moves.length
                  · obtain ⟨bm, offm, rfl, hbm, d0, d1, d2, d3, d4, d5⟩ := mv_cell (HMC.out.below HJ.out.1 fun _ _ h => h) j hltj
                    obtain ⟨er, her⟩ : ∃ er, mvErr m0 m1 fr e.moves[j] = er := ⟨_, rfl⟩
                    have HJN : Hid (er = 0 → firstE (mvErr m0 m1 fr) (e.moves.drop (j + 1)) = firstE (mvErr m0 m1 fr) e.moves) := fun h0 => firstE_next hltj rfl (her.trans h0) HJ.out.2
                    have HJE : Hid (er ≠ 0 → firstE (mvErr m0 m1 fr) e.moves = er) := fun h0 => firstE_here hltj rfl her h0 HJ.out.2
                    have HER : Hid (mvErr m0 m1 fr e.moves[j] = er) := her
                    clear her
                    generalize e.moves[j] = v at *
                    obtain ⟨W7, hW7⟩ : ∃ W7, W7 = (wr.alloc (.cells #[.int .i64 v.src.kind, .int .i64 v.src.cls, .int .i64 v.src.n] 37)).alloc (.cells #[.int .i64 v.dst.kind, .int .i64 v.dst.cls, .int .i64 v.dst.n] 37) := ⟨_, rfl⟩
                    obtain ⟨M, hM⟩ : ∃ M, wr.heap.size = M := ⟨_, rfl⟩
                    have hb7 : Below wr.heap.size wr W7 := by rw [hW7]; exact ((Below.refl _ _).alloc (Nat.le_refl _) _).alloc (by simp) _
                    obtain ⟨s7, s8⟩ := two_at wr #[.int .i64 v.src.kind, .int .i64 v.src.cls, .int .i64 v.src.n] #[.int .i64 v.dst.kind, .int .i64 v.dst.cls, .int .i64 v.dst.n] 37 37
                    rw [← hW7, hM] at s7 s8
                    have HX7 : Hid (∀ w', Below W7.heap.size W7 w' → w'.cell? ⟨M, 0, none⟩ = some (.int .i64 v.src.kind) ∧ w'.cell? ⟨M, 1, none⟩ = some (.int .i64 v.src.cls) ∧ w'.cell? ⟨M, 2, none⟩ = some (.int .i64 v.src.n) ∧ w'.cell? ⟨M + 1, 0, none⟩ = some (.int .i64 v.dst.kind) ∧ w'.cell? ⟨M + 1, 1, none⟩ = some (.int .i64 v.dst.cls) ∧ w'.cell? ⟨M + 1, 2, none⟩ = some (.int .i64 v.dst.n) ∧ M + 1 < w'.heap.size) := fun w' hh => ⟨(hh.cell (p := ⟨M, 0, none⟩) (block_lt (s7 0))).trans (s7 0), (hh.cell (p := ⟨M, 1, none⟩) (block_lt (s7 0))).trans (s7 1), (hh.cell (p := ⟨M, 2, none⟩) (block_lt (s7 0))).trans (s7 2), (hh.cell (p := ⟨M + 1, 0, none⟩) (block_lt (s8 0))).trans (s8 0), (hh.cell (p := ⟨M + 1, 1, none⟩) (block_lt (s8 0))).trans (s8 1), (hh.cell (p := ⟨M + 1, 2, none⟩) (block_lt (s8 0))).trans (s8 2), Nat.lt_of_lt_of_le (block_lt (s8 0)) hh.size⟩
                    have HW7 : Hid (W7 = (wr.alloc (.cells #[.int .i64 v.src.kind, .int .i64 v.src.cls, .int .i64 v.src.n] 37)).alloc (.cells #[.int .i64 v.dst.kind, .int .i64 v.dst.cls, .int .i64 v.dst.n] 37)) := hW7
                    have HM7 : Hid (wr.heap.size = M) := hM
                    have HB7 : Hid (Below wc.heap.size wc W7) := HJ.out.1.trans (hb7.mono HJ.out.1.size)
                    have HBW7 : Hid (Below W.heap.size W W7) := HBr.out.trans (hb7.mono HBr.out.size)
                    obtain ⟨b1, hb1⟩ : ∃ b1, moveB m0 m1 fr v.src = b1 := ⟨_, rfl⟩
                    obtain ⟨b2, hb2⟩ : ∃ b2, moveB m0 m1 fr v.dst = b2 := ⟨_, rfl⟩
                    have HV1 : Hid (moveB m0 m1 fr v.src = b1) := hb1
                    have HV2 : Hid (moveB m0 m1 fr v.dst = b2) := hb2
                    have HCA := placeMay_is v.src m0 m1 fr true b1 (mayB_true hb1) HM.out.1 HM.out.2 HFR.out W7
                    clear hW7 hM s7 s8 hb7 hb1 hb2
                    go_upto_region 41 with fail
                    rw [← HW7.out, HM7.out]
                    clear HW7 HM7 q0 q1 q2 q3 q4 q5 q6 lW d0 d1 d2 d3 d4 d5 hbm y2 lP
                    obtain ⟨q0, q1, q2, q3, q4, q5, q6, lW⟩ := HS.out _ HBW7.out
                    obtain ⟨o0, o1, o2, o3, o4, o5, lM⟩ := HX7.out _ (Below.refl _ _)
                    go_wp2_with fail
                    refine HCA.mono ?_
                    clear HCA
                    rintro x w8 ⟨rfl, hb8⟩
                    have HX8 : Hid (Below W7.heap.size W7 w8) := hb8
                    have HBW8 : Hid (Below W.heap.size W w8) := HBW7.out.trans (hb8.mono HBW7.out.size)
                    clear q0 q1 q2 q3 q4 q5 q6 lW o0 o1 o2 o3 o4 o5 lM hb8
                    cases b1
                    case false =>
                      have H : Hid (2 = r) := by
                        show _ = _
                        have hE : er = 2 := by rw [← HER.out]; unfold mvErr; rw [HV1.out, if_neg (by simp)]
                        rw [← HGO.out, HEE.out, HJE.out (by rw [hE]; decide), hE]
                        rfl
                      go_wp2
                      exact HRET.out _ _ H.out (HBW.out.trans (HBW8.out.mono HBW.out.size)) _ _ _ _ _ _ _ _ _ _ _ _ _ _ _ _ _ _ _ _ _ _ _ _ _ _ _ _ _ _ _ _ _ _ _ _ _ _ _ _ _ _ _ _ _ _ _ _ _ _ _ _ _ _ _ _ _ _ _ _ _ _ _ _ _ _ _ _ _ _ _ _ _ _ _ _ _ _ _ _ _ _ _ _ _ _ _ _ _ _ _ _ _ _ _ _ _ _ _ _ _ _ _ _ _ _ _ _ _ _ _ _ _ _ _ _ _ _ _ _ _ _ _ _ _ _ _ _ _ _ _ _ _ _ _ _ _ _ _ _ _
                    case true =>
                      obtain ⟨q0, q1, q2, q3, q4, q5, q6, lW⟩ := HS.out _ HBW8.out
                      obtain ⟨o0, o1, o2, o3, o4, o5, lM⟩ := HX7.out _ HX8.out
                      have HCA := placeMay_is v.dst m0 m1 fr true b2 (mayB_true HV2.out) HM.out.1 HM.out.2 HFR.out w8
                      go_wp2_with fail
                      refine HCA.mono ?_
                      clear HCA
                      rintro x w9 ⟨rfl, hb9⟩
                      have HX9 : Hid (Below W7.heap.size W7 w9) := HX8.out.trans (hb9.mono HX8.out.size)
                      have HBW9 : Hid (Below W.heap.size W w9) := HBW7.out.trans (HX9.out.mono HBW7.out.size)
                      have HB9 : Hid (Below wc.heap.size wc w9) := HB7.out.trans (HX9.out.mono HB7.out.size)
                      clear q0 q1 q2 q3 q4 q5 q6 lW o0 o1 o2 o3 o4 o5 lM hb9
                      cases b2
                      case false =>
                        have H : Hid (2 = r) := by
                          show _ = _
                          have hE : er = 2 := by rw [← HER.out]; unfold mvErr; rw [HV1.out, HV2.out, if_neg (by simp)]
                          rw [← HGO.out, HEE.out, HJE.out (by rw [hE]; decide), hE]
                          rfl
                        go_wp2
                        exact HRET.out _ _ H.out (HBW.out.trans (HBW9.out.mono HBW.out.size)) _ _ _ _ _ _ _ _ _ _ _ _ _ _ _ _ _ _ _ _ _ _ _ _ _ _ _ _ _ _ _ _ _ _ _ _ _ _ _ _ _ _ _ _ _ _ _ _ _ _ _ _ _ _ _ _ _ _ _ _ _ _ _ _ _ _ _ _ _ _ _ _ _ _ _ _ _ _ _ _ _ _ _ _ _ _ _ _ _ _ _ _ _ _ _ _ _ _ _ _ _ _ _ _ _ _ _ _ _ _ _ _ _ _ _ _ _ _ _ _ _ _ _ _ _ _ _ _ _ _ _ _ _ _ _ _ _ _ _ _ _
                      case true =>
                        obtain ⟨o0, o1, o2, o3, o4, o5, lM⟩ := HX7.out _ HX9.out
                        have HER2 : Hid ((if v.src.kind ≠ v.dst.kind then 0 else if v.src.kind = 2 then 13 else if v.src.cls ≠ v.dst.cls then 17 else 0) = er) := by
                          show _ = _
                          rw [← HER.out]
                          unfold mvErr
                          rw [HV1.out, HV2.out]
                          exact (if_pos (by simp)).symm
                        have hs := moveB_kind HV1.out
                        have hd := moveB_kind HV2.out

                        rcases hs with hs | hs
                        · rcases hd with hd | hd
                          · skip
                            have k1 : (v.src.kind == 2) = false := by simp [hs]
                            have k2 : (v.dst.kind == 2) = false := by simp [hd]
                            have k3 : (v.src.kind == 1) = true := by simp [hs]
                            have k4 : (v.dst.kind == 1) = true := by simp [hd]
                            by_cases hcc : v.src.cls = v.dst.cls
                            · have k5 : (v.src.cls != v.dst.cls) = false := by simp [hcc]
                              have hE : er = 0 := by rw [← HER2.out]; simp [hs, hd, hcc]
                              have HJ2 : Hid (Below wc.heap.size wc w9 ∧ firstE (mvErr m0 m1 fr) (e.moves.drop (j + 1)) = firstE (mvErr m0 m1 fr) e.moves) := ⟨HB9.out, HJN.out hE⟩
                              clear hE HJ hs hd
                              go_wp2
                              go_roundw
                              case rel => exact ⟨j + 1, by go_num, by omega, HJ2⟩
                              case measure => simp [intOf]; omega
                            · have k5 : (v.src.cls != v.dst.cls) = true := by simpa using hcc
                              have hE : er = 17 := by rw [← HER2.out]; simp [hs, hd, hcc]
                              have H : Hid (17 = r) := by
                                show _ = _
                                rw [← HGO.out, HEE.out, HJE.out (by rw [hE]; decide), hE]
                                rfl
                              clear hE HJ hs hd
                              go_wp2
                              exact HRET.out _ _ H.out (HBW.out.trans (HBW9.out.mono HBW.out.size)) _ _ _ _ _ _ _ _ _ _ _ _ _ _ _ _ _ _ _ _ _ _ _ _ _ _ _ _ _ _ _ _ _ _ _ _ _ _ _ _ _ _ _ _ _ _ _ _ _ _ _ _ _ _ _ _ _ _ _ _ _ _ _ _ _ _ _ _ _ _ _ _ _ _ _ _ _ _ _ _ _ _ _ _ _ _ _ _ _ _ _ _ _ _ _ _ _ _ _ _ _ _ _ _ _ _ _ _ _ _ _ _ _ _ _ _ _ _ _ _ _ _ _ _ _ _ _ _ _ _ _ _ _ _ _ _ _ _ _ _ _
                          · skip
                            have k1 : (v.src.kind == 2) = false := by simp [hs]
                            have k2 : (v.dst.kind == 2) = true := by simp [hd]
                            have k3 : (v.src.kind == 1) = true := by simp [hs]
                            have k4 : (v.dst.kind == 1) = false := by simp [hd]
                            have hE : er = 0 := by rw [← HER2.out]; simp [hs, hd]
                            have HJ2 : Hid (Below wc.heap.size wc w9 ∧ firstE (mvErr m0 m1 fr) (e.moves.drop (j + 1)) = firstE (mvErr m0 m1 fr) e.moves) := ⟨HB9.out, HJN.out hE⟩
                            clear hE HJ hs hd
                            go_wp2
                            go_roundw
                            case rel => exact ⟨j + 1, by go_num, by omega, HJ2⟩
                            case measure => simp [intOf]; omega
                        · rcases hd with hd | hd
                          · skip
                            have k1 : (v.src.kind == 2) = true := by simp [hs]
                            have k2 : (v.dst.kind == 2) = false := by simp [hd]
                            have k3 : (v.src.kind == 1) = false := by simp [hs]
                            have k4 : (v.dst.kind == 1) = true := by simp [hd]
                            have hE : er = 0 := by rw [← HER2.out]; simp [hs, hd]
                            have HJ2 : Hid (Below wc.heap.size wc w9 ∧ firstE (mvErr m0 m1 fr) (e.moves.drop (j + 1)) = firstE (mvErr m0 m1 fr) e.moves) := ⟨HB9.out, HJN.out hE⟩
                            clear hE HJ hs hd
                            go_wp2
                            go_roundw
                            case rel => exact ⟨j + 1, by go_num, by omega, HJ2⟩
                            case measure => simp [intOf]; omega
                          · skip
                            have k1 : (v.src.kind == 2) = true := by simp [hs]
                            have k2 : (v.dst.kind == 2) = true := by simp [hd]
                            have k3 : (v.src.kind == 1) = false := by simp [hs]
                            have k4 : (v.dst.kind == 1) = false := by simp [hd]
                            have hE : er = 13 := by rw [← HER2.out]; simp [hs, hd]
                            have H : Hid (13 = r) := by
                              show _ = _
                              rw [← HGO.out, HEE.out, HJE.out (by rw [hE]; decide), hE]
                              rfl
                            clear hE HJ hs hd
                            go_wp2
                            exact HRET.out _ _ H.out (HBW.out.trans (HBW9.out.mono HBW.out.size)) _ _ _ _ _ _ _ _ _ _ _ _ _ _ _ _ _ _ _ _ _ _ _ _ _ _ _ _ _ _ _ _ _ _ _ _ _ _ _ _ _ _ _ _ _ _ _ _ _ _ _ _ _ _ _ _ _ _ _ _ _ _ _ _ _ _ _ _ _ _ _ _ _ _ _ _ _ _ _ _ _ _ _ _ _ _ _ _ _ _ _ _ _ _ _ _ _ _ _ _ _ _ _ _ _ _ _ _ _ _ _ _ _ _ _ _ _ _ _ _ _ _ _ _ _ _ _ _ _ _ _ _ _ _ _ _ _ _ _ _ _
                  · have HK2 : Hid (0 ≤ tot + (e.moves.length : Int) ∧ tot + (e.moves.length : Int) ≤ 20000 ∧ Below W.heap.size W wr ∧ editsGo m0 m1 fr bs (prevOf eds (i + 1)) (tot + (e.moves.length : Int)) (eds.drop (i + 1)) = r) := by
                      refine ⟨HTO.out.1, HTO.out.2, HBr.out, ?_⟩
                      have h := HGO.out
                      rw [HEE.out, firstE_end (by omega) HJ.out.2, if_pos rfl] at h
                      exact h
                    clear HJ
                    go_wp2
                    go_roundw
                    case rel => exact ⟨i + 1, tot + (e.moves.length : Int), rfl, by go_num, by omega, HK2⟩
                    case measure => simp [intOf]; omega
    · have H : Hid (0 = r) := by
        show _ = _
        have h := HK.out.2.2.2
        rw [List.drop_of_length_le (by rw [HNE.out]; omega)] at h
        rw [← h]
        unfold editsGo
        rfl
      have HX : Hid (Below w.heap.size w wo) := HBW.out.trans (HBo.out.mono HBW.out.size)
      clear HK
      go_wp2
      exact HPOST.out _ H.out HX.out _ _ _ _ _ _ _ _ _ _ _ _ _ _ _ _ _ _ _ _ _ _ _ _ _ _ _ _ _ _ _ _ _ _ _ _ _ _ _ _ _ _ _ _ _ _ _ _ _ _ _ _ _ _ _ _ _ _ _ _ _ _ _ _ _ _ _ _ _ _ _ _ _ _ _ _ _ _ _ _ _ _ _ _ _ _ _ _ _ _ _ _ _ _ _ _ _ _ _ _ _ _ _ _ _ _ _ _ _ _ _ _ _ _ _ _ _ _ _ _ _ _ _ _ _ _ _ _ _ _ _ _ _ _ _ _ _ _ _ _ _ _
end Go.Proofs.Ytjbjnndmpheedaa
