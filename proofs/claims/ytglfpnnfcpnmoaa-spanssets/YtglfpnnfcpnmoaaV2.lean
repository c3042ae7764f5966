/-
  Tables of marks in memory; the contracts of 'askFor' and 'hold'.
-/
import Derived.Test.YtglfpnnfcpnmoaaV0
import Derived.Test.YtglfpnnfcpnmoaaA4
import Derived.Laws.MakeOwn
import Derived.Deep.OwnRows
namespace Go.Proofs.Ytglfpnnfcpnmoaa
open Go.RowKit
set_option linter.unusedVariables false
structure Tch (S:Nat → Prop) (w w':World):Prop where
 os:w'.os = w.os
 tape:w'.tape = w.tape
 output:w'.output = w.output
 size:w.heap.size ≤ w'.heap.size
 block:∀ k,k < w.heap.size → ¬ S k → w'.heap[k]? = w.heap[k]?
theorem Tch.refl (S:Nat → Prop) (w:World):Tch S w w:=⟨rfl,rfl,rfl,Nat.le_refl _,fun _ _ _ => rfl⟩
theorem Tch.trans {S:Nat → Prop} {a b c:World} (h:Tch S a b) (k:Tch S b c):Tch S a c :=
 ⟨k.os.trans h.os,k.tape.trans h.tape,k.output.trans h.output,Nat.le_trans h.size k.size,fun x hx ho => (k.block x (Nat.lt_of_lt_of_le hx h.size) ho).trans (h.block x hx ho)⟩
theorem Tch.of {S:Nat → Prop} {w w':World} (h:Below w.heap.size w w'):Tch S w w':=⟨h.os,h.tape,h.output,h.size,fun k hk _ => h.block k hk⟩
theorem Tch.alloc {S:Nat → Prop} {a w:World} (h:Tch S a w) (o:Obj):Tch S a (w.alloc o):=h.trans (Tch.of ((Below.refl _ _).alloc (Nat.le_refl _) _))
theorem Tch.setCell {S:Nat → Prop} {a w:World} (h:Tch S a w) {p:Addr} (h1:S p.block) (u:Value):Tch S a (w.setCell p u):=by
 have hb:Below 0 w (w.setCell p u):=(Below.refl _ _).setCell (Nat.zero_le _) _
 refine h.trans ⟨hb.os,hb.tape,hb.output,hb.size,fun k hk ho => Below.heap_setCell _ _ _ _ fun e => ho (by rw [e]; exact h1)⟩
theorem Tch.row {S:Nat → Prop} {w w':World} (h:Tch S w w') {b:Nat} {t:TypeId} {n:Nat} {f:Nat → Value} (hr:w.rowIs b t n f) (hb:¬ S b):w'.rowIs b t n f:=hr.of_block (h.block b hr.lt hb)
theorem Tch.below {S:Nat → Prop} {B:Nat} {w0 w w':World} (h:Tch S w w') (hb:Below B w0 w) (hB:∀ k,S k → B ≤ k) (hs:B ≤ w.heap.size):Below B w0 w' :=
 ⟨h.os.trans hb.os,h.tape.trans hb.tape,h.output.trans hb.output,Nat.le_trans hb.size h.size,fun k hk => (h.block k (by omega) (fun hc => by have:=hB k hc; omega)).trans (hb.block k hk)⟩
def TS (r1 r2 r3 n k:Nat):Prop:=(r1 ≤ k∧k ≤ r1 + n) ∨ (r2 ≤ k∧k ≤ r2 + n) ∨ (r3 ≤ k∧k ≤ r3 + n)
structure Tab (w:World) (R n nv:Nat) (T:Tb):Prop where
 row:w.rowIs R 88 n (fun b => .slice (some ⟨R + 1 + b,0,none⟩) nv nv)
 rows:∀ b,b < n → w.rowIs (R + 1 + b) 4 nv (fun v => .bool (T b v))
theorem Tab.keep {w w':World} {R n nv:Nat} {T:Tb} (h:Tab w R n nv T) (hb:∀ k,k < w.heap.size → R ≤ k → k ≤ R + n → w'.heap[k]? = w.heap[k]?):Tab w' R n nv T :=
 ⟨h.row.of_block (hb R h.row.lt (Nat.le_refl _) (by omega)),fun b hbn => (h.rows b hbn).of_block (hb _ (h.rows b hbn).lt (by omega) (by omega))⟩
theorem Tab.congr {w:World} {R n nv:Nat} {T T':Tb} (h:Tab w R n nv T) (he:∀ b v,b < n → v < nv → T b v = T' b v):Tab w R n nv T' :=
 ⟨h.row,fun b hb => (h.rows b hb).congr fun v hv => by rw [he b v hb hv]⟩
theorem Tab.up {w:World} {R n nv:Nat} {T:Tb} (h:Tab w R n nv T) (b v:Nat):Tab (w.setCell ⟨R + 1 + b,v,none⟩ (.bool true)) R n nv (upT T b v):=by
 refine ⟨h.row.setOther (by simp; omega) _,fun b' hb' => ?_⟩
 by_cases e:b' = b
 ·subst e
  refine ((h.rows b' hb').set v _).congr fun u hu => ?_
  unfold upT
  by_cases e2:u = v
  ·rw [if_pos e2,if_pos ⟨rfl,e2⟩]
  ·rw [if_neg e2,if_neg (fun hc => e2 hc.2)]
 ·refine ((h.rows b' hb').setOther (by simp; omega) _).congr fun u hu => ?_
  unfold upT
  rw [if_neg (fun hc => e hc.1)]
theorem Tab.off {w:World} {R n nv:Nat} {T:Tb} (h:Tab w R n nv T) {p:Addr} (hp:p.block < R ∨ R + n < p.block) (u:Value):Tab (w.setCell p u) R n nv T :=
 h.keep fun k hk h1 h2 => Below.heap_setCell _ _ _ _ (by omega)
theorem Tab.lt {w:World} {R n nv:Nat} {T:Tb} (h:Tab w R n nv T):R < w.heap.size:=h.row.lt
theorem Tab.hi {w:World} {R n nv:Nat} {T:Tb} (h:Tab w R n nv T):R + n < w.heap.size:=by
 by_cases e:n = 0
 ·have:=h.row.lt; omega
 ·have:=(h.rows (n - 1) (by omega)).lt; omega
structure NdS (w:World) (r1 r2 r3 n nv:Nat) (I O M:Tb):Prop where
 ti:Tab w r1 n nv I
 tu:Tab w r2 n nv O
 tm:Tab w r3 n nv M
 a12:r1 + n < r2
 a23:r2 + n < r3
theorem NdS.below {w w':World} {r1 r2 r3 n nv:Nat} {I O M:Tb} (h:NdS w r1 r2 r3 n nv I O M) (hb:Below w.heap.size w w'):NdS w' r1 r2 r3 n nv I O M :=
 ⟨h.ti.keep fun k hk _ _ => hb.block k hk,h.tu.keep fun k hk _ _ => hb.block k hk,h.tm.keep fun k hk _ _ => hb.block k hk,h.a12,h.a23⟩
theorem NdS.congr {w:World} {r1 r2 r3 n nv:Nat} {I O M I' O' M':Tb} (h:NdS w r1 r2 r3 n nv I O M) (h1:∀ b v,b < n → v < nv → I b v = I' b v) (h2:∀ b v,b < n → v < nv → O b v = O' b v) (h3:∀ b v,b < n → v < nv → M b v = M' b v):NdS w r1 r2 r3 n nv I' O' M' :=
 ⟨h.ti.congr h1,h.tu.congr h2,h.tm.congr h3,h.a12,h.a23⟩
theorem NdS.upI {w:World} {r1 r2 r3 n nv:Nat} {I O M:Tb} (h:NdS w r1 r2 r3 n nv I O M) (b v:Nat) (hb:b < n):NdS (w.setCell ⟨r1 + 1 + b,v,none⟩ (.bool true)) r1 r2 r3 n nv (upT I b v) O M:=by
 have:=h.a12
 have:=h.a23
 exact ⟨h.ti.up b v,h.tu.off (by simp; omega) _,h.tm.off (by simp; omega) _,h.a12,h.a23⟩
theorem NdS.upO {w:World} {r1 r2 r3 n nv:Nat} {I O M:Tb} (h:NdS w r1 r2 r3 n nv I O M) (b v:Nat) (hb:b < n):NdS (w.setCell ⟨r2 + 1 + b,v,none⟩ (.bool true)) r1 r2 r3 n nv I (upT O b v) M:=by
 have:=h.a12
 have:=h.a23
 exact ⟨h.ti.off (by simp; omega) _,h.tu.up b v,h.tm.off (by simp; omega) _,h.a12,h.a23⟩
theorem NdS.upM {w:World} {r1 r2 r3 n nv:Nat} {I O M:Tb} (h:NdS w r1 r2 r3 n nv I O M) (b v:Nat) (hb:b < n):NdS (w.setCell ⟨r3 + 1 + b,v,none⟩ (.bool true)) r1 r2 r3 n nv I O (upT M b v):=by
 have:=h.a12
 have:=h.a23
 exact ⟨h.ti.off (by simp; omega) _,h.tu.off (by simp; omega) _,h.tm.up b v,h.a12,h.a23⟩
def nSl (r n:Nat):Value:=.slice (some ⟨r,0,none⟩) n n
set_option maxHeartbeats 2000000 in
theorem askFor_any (n nv r1 r2 r3:Nat) (I O M:Tb) (b v:Nat) (w:World) (h:NdS w r1 r2 r3 n nv I O M) (hb:b < n) (hv:v < nv) (hn:n ≤ 1000) (hnv:nv ≤ 1000) :
  Calls Try.prog 41 #[.agg #[.slice (some ⟨r1,0,none⟩) n n,.slice (some ⟨r2,0,none⟩) n n,.slice (some ⟨r3,0,none⟩) n n],.int .i64 b,.int .i64 v] w fun e w' => e = .returned (.tuple #[])∧NdS w' r1 r2 r3 n nv (askT M I b v) O M∧Tch (TS r1 r2 r3 n) w w':=by
 obtain ⟨W,hW⟩:∃ W,W = w.alloc (.cells #[.slice (some ⟨r1,0,none⟩) n n,.slice (some ⟨r2,0,none⟩) n n,.slice (some ⟨r3,0,none⟩) n n] 67):=⟨_,rfl⟩
 have hbw:Below w.heap.size w W:=by rw [hW]; exact (Below.refl _ _).alloc (Nat.le_refl _) _
 have hN:=h.below hbw
 have d0:W.cell? ⟨w.heap.size,0,none⟩ = some (.slice (some ⟨r1,0,none⟩) n n):=by rw [hW]; simp
 have d2:W.cell? ⟨w.heap.size,2,none⟩ = some (.slice (some ⟨r3,0,none⟩) n n):=by rw [hW]; simp
 have m1:W.cell? ⟨r3,b,none⟩ = some (.slice (some ⟨r3 + 1 + b,0,none⟩) nv nv):=hN.tm.row.cell hb
 have m2:W.cell? ⟨r3 + 1 + b,v,none⟩ = some (.bool (M b v)):=(hN.tm.rows b hb).cell hv
 have i1:W.cell? ⟨r1,b,none⟩ = some (.slice (some ⟨r1 + 1 + b,0,none⟩) nv nv):=hN.ti.row.cell hb
 have i2:W.cell? ⟨r1 + 1 + b,v,none⟩ = some (.bool (I b v)):=(hN.ti.rows b hb).cell hv
 have z2:=(hN.ti.rows b hb).frozen v
 have HW:Hid (W = w.alloc (.cells #[.slice (some ⟨r1,0,none⟩) n n,.slice (some ⟨r2,0,none⟩) n n,.slice (some ⟨r3,0,none⟩) n n] 67)):=hW
 have HN:Hid (NdS W r1 r2 r3 n nv I O M∧Tch (TS r1 r2 r3 n) w W):=⟨hN,Tch.of hbw⟩
 have H12:Hid (r1 + n < r2∧r2 + n < r3):=⟨h.a12,h.a23⟩
 clear hW hN hbw h
 cases hm:M b v
 ·rw [hm] at m2
  have HE:Hid (NdS (W.setCell ⟨r1 + 1 + b,v,none⟩ (.bool true)) r1 r2 r3 n nv (askT M I b v) O M∧Tch (TS r1 r2 r3 n) w (W.setCell ⟨r1 + 1 + b,v,none⟩ (.bool true))):=by
   have e:askT M I b v = upT I b v:=by unfold askT; rw [hm]; simp
   have:=H12.out
   exact ⟨by rw [e]; exact HN.out.1.upI b v hb,HN.out.2.setCell (by unfold TS; simp; omega) _⟩
  clear HN hm
  go_enter Try.func41,Try.ntmps41
  go_upto_region 1 with fail
  rw [← HW.out]
  go_wp2
  go_end0
  exact ⟨rfl,HE.out⟩
 ·rw [hm] at m2
  have HE:Hid (NdS W r1 r2 r3 n nv (askT M I b v) O M∧Tch (TS r1 r2 r3 n) w W):=by
   have e:askT M I b v = I:=by unfold askT; rw [hm]; simp
   exact ⟨by rw [e]; exact HN.out.1,HN.out.2⟩
  clear HN hm
  go_enter Try.func41,Try.ntmps41
  go_upto_region 1 with fail
  rw [← HW.out]
  go_wp2
  go_end0
  exact ⟨rfl,HE.out⟩
set_option maxHeartbeats 2000000 in
theorem hold_any (n nv r1 r2 r3:Nat) (I O M:Tb) (b v:Nat) (w:World) (h:NdS w r1 r2 r3 n nv I O M) (hb:b < n) (hv:v < nv) (hn:n ≤ 1000) (hnv:nv ≤ 1000) :
  Calls Try.prog 42 #[.agg #[.slice (some ⟨r1,0,none⟩) n n,.slice (some ⟨r2,0,none⟩) n n,.slice (some ⟨r3,0,none⟩) n n],.int .i64 b,.int .i64 v] w fun e w' => e = .returned (.tuple #[])∧NdS w' r1 r2 r3 n nv (askT M I b v) (upT O b v) M∧Tch (TS r1 r2 r3 n) w w':=by
 obtain ⟨W,hW⟩:∃ W,W = w.alloc (.cells #[.slice (some ⟨r1,0,none⟩) n n,.slice (some ⟨r2,0,none⟩) n n,.slice (some ⟨r3,0,none⟩) n n] 67):=⟨_,rfl⟩
 have hbw:Below w.heap.size w W:=by rw [hW]; exact (Below.refl _ _).alloc (Nat.le_refl _) _
 have hN:=h.below hbw
 have rX:W.rowIs w.heap.size 67 3 (fun q => if q = 0 then .slice (some ⟨r1,0,none⟩) n n else if q = 1 then .slice (some ⟨r2,0,none⟩) n n else .slice (some ⟨r3,0,none⟩) n n):=by
  rw [hW]
  exact World.rowIs_alloc _ _ _ _ fun i hi => by
   simp at hi
   match i,hi with | 0,_ => rfl | 1,_ => rfl | 2,_ => rfl
 have lX:r3 + n < w.heap.size:=h.tm.hi
 obtain ⟨X,hX⟩:∃ X,w.heap.size = X:=⟨_,rfl⟩
 rw [hX] at rX lX
 have i1:W.cell? ⟨r2,b,none⟩ = some (.slice (some ⟨r2 + 1 + b,0,none⟩) nv nv):=hN.tu.row.cell hb
 have i2:W.cell? ⟨r2 + 1 + b,v,none⟩ = some (.bool (O b v)):=(hN.tu.rows b hb).cell hv
 have z2:=(hN.tu.rows b hb).frozen v
 have d1:W.cell? ⟨X,1,none⟩ = some (.slice (some ⟨r2,0,none⟩) n n):=rX.cell (i:=1) (by omega)
 have H12:r1 + n < r2∧r2 + n < r3:=⟨h.a12,h.a23⟩
 obtain ⟨W2,hW2⟩:∃ W2,W2 = W.setCell ⟨r2 + 1 + b,v,none⟩ (.bool true):=⟨_,rfl⟩
 have rX2:W2.rowIs X 67 3 (fun q => if q = 0 then .slice (some ⟨r1,0,none⟩) n n else if q = 1 then .slice (some ⟨r2,0,none⟩) n n else .slice (some ⟨r3,0,none⟩) n n):=by
  rw [hW2]
  exact rX.setOther (by simp; omega) _
 have e0:W2.cell? ⟨X,0,none⟩ = some (.slice (some ⟨r1,0,none⟩) n n):=rX2.cell (i:=0) (by omega)
 have e1:W2.cell? ⟨X,1,none⟩ = some (.slice (some ⟨r2,0,none⟩) n n):=rX2.cell (i:=1) (by omega)
 have e2:W2.cell? ⟨X,2,none⟩ = some (.slice (some ⟨r3,0,none⟩) n n):=rX2.cell (i:=2) (by omega)
 have hN2:NdS W2 r1 r2 r3 n nv I (upT O b v) M:=by rw [hW2]; exact hN.upO b v hb
 have hT2:Tch (TS r1 r2 r3 n) w W2:=by rw [hW2]; exact (Tch.of hbw).setCell (by unfold TS; simp; omega) _
 have HC:=askFor_any n nv r1 r2 r3 I (upT O b v) M b v W2 hN2 hb hv hn hnv
 have HW:Hid (W = w.alloc (.cells #[.slice (some ⟨r1,0,none⟩) n n,.slice (some ⟨r2,0,none⟩) n n,.slice (some ⟨r3,0,none⟩) n n] 67)):=hW
 have HW2:Hid (W2 = W.setCell ⟨r2 + 1 + b,v,none⟩ (.bool true)):=hW2
 have HX:Hid (w.heap.size = X):=hX
 have HT2:Hid (Tch (TS r1 r2 r3 n) w W2):=hT2
 clear hW hW2 hX hN hbw h hN2 hT2 rX rX2 H12
 go_enter Try.func42,Try.ntmps42
 go_upto_region 1 with fail
 rw [← HW.out,HX.out]
 go_upto_region 2 with fail
 rw [← HW2.out]
 clear HW HW2 HX i1 i2 z2 d1
 go_wp2_with fail
 refine HC.mono ?_
 clear HC
 rintro e w3 ⟨rfl,h3,t3⟩
 have HE:Hid (NdS w3 r1 r2 r3 n nv (askT M I b v) (upT O b v) M∧Tch (TS r1 r2 r3 n) w w3):=⟨h3,HT2.out.trans t3⟩
 clear h3 t3 HT2
 go_wp2
 go_end0
 exact ⟨rfl,HE.out⟩
end Go.Proofs.Ytglfpnnfcpnmoaa
