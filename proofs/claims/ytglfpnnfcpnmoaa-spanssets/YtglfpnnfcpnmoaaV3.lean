/-
  The contract of 'none': a table without marks.
-/
import Derived.Test.YtglfpnnfcpnmoaaV2
import Derived.Test.YtglfpnnfcpnmoaaF2
namespace Go.Proofs.Ytglfpnnfcpnmoaa
open Go.RowKit
set_option linter.unusedVariables false
structure NnS (w0:World) (N n nv k:Nat) (vv vb:Value) (w:World):Prop where
 bx:w.rowIs N 30 2 (fun q => if q = 0 then vv else vb)
 row:w.rowIs (N + 1) 88 n (fun b => if b < k then .slice (some ⟨N + 1 + 1 + b,0,none⟩) nv nv else .slice none 0 0)
 rows:∀ b,b < k → w.rowIs (N + 1 + 1 + b) 4 nv (fun _ => .bool false)
 size:w.heap.size = N + 1 + 1 + k
 low:Below N w0 w
theorem NnS.next {w0:World} {N n nv k:Nat} {vv vb:Value} {w:World} (h:NnS w0 N n nv k vv vb w) (hk:k < n):NnS w0 N n nv (k + 1) vv vb ((w.alloc (.cells (madeCells #[.bool false] nv) 4)).setCell ⟨N + 1,k,none⟩ (.slice (some ⟨N + 1 + 1 + k,0,none⟩) nv nv)):=by
 have hs:=h.size
 have hm:=World.rowIs_made w (.bool false) nv 4
 rw [hs] at hm
 refine ⟨(h.bx.alloc _).setOther (by simp) _,((h.row.alloc _).set k _).congr fun b hb => ?_,fun b hb => ?_,by simp [hs]; omega,(h.low.alloc (by omega) _).setCell (by simp) _⟩
 ·by_cases e:b = k
  ·subst e
   rw [if_pos rfl,if_pos (by omega)]
  ·rw [if_neg e]
   by_cases e2:b < k
   ·rw [if_pos e2,if_pos (by omega)]
   ·rw [if_neg e2,if_neg (by omega)]
 ·by_cases e:b = k
  ·subst e
   exact hm.setOther (by simp; omega) _
  ·exact ((h.rows b (by omega)).alloc _).setOther (by simp; omega) _
set_option maxHeartbeats 2000000 in
theorem none_any (n nv N:Nat) (av ab:Option Addr) (cv cb:Nat) (w:World) (hN:w.heap.size = N) (hn:n ≤ 1000) (hnv:nv ≤ 1000) :
  Calls Try.prog 28 #[.agg #[.slice av nv cv,.slice ab n cb]] w fun e w' => e = .returned (.slice (some ⟨N + 1,0,none⟩) n n)∧Tab w' (N + 1) n nv (fun _ _ => false)∧Below w.heap.size w w'∧w'.heap.size = N + 1 + 1 + n:=by
 have hmk:=run_make_row' (P:=Try.prog) 65 88 (.slice none 0 0) 24 Try.underlying65 (by kernel_rfl) rfl .i64 .i64 n (by omega) (by omega)
 have hmk2:=run_make_row' (P:=Try.prog) 88 4 (.bool false) 1 Try.underlying88 (by kernel_rfl) rfl .i64 .i64 nv (by omega) (by omega)
 obtain ⟨W,hW⟩:∃ W,W = (w.alloc (.cells #[.slice av nv cv,.slice ab n cb] 30)).alloc (.cells (madeCells #[.slice none 0 0] n) 88):=⟨_,rfl⟩
 have hst:NnS w N n nv 0 (.slice av nv cv) (.slice ab n cb) W:=by
  rw [hW]
  have r0:(w.alloc (.cells #[.slice av nv cv,.slice ab n cb] 30)).rowIs w.heap.size 30 2 (fun q => if q = 0 then .slice av nv cv else .slice ab n cb) :=
   World.rowIs_alloc _ _ _ _ fun i hi => by
    simp at hi
    match i,hi with | 0,_ => rfl | 1,_ => rfl
  have r1:=World.rowIs_made (w.alloc (.cells #[.slice av nv cv,.slice ab n cb] 30)) (.slice none 0 0) n 88
  have e:(w.alloc (.cells #[.slice av nv cv,.slice ab n cb] 30)).heap.size = N + 1:=by simp [hN]
  rw [e] at r1
  rw [hN] at r0
  exact ⟨r0.alloc _,r1.congr fun b hb => by simp,fun b hb => by omega,by simp [hN],((Below.refl _ _).alloc (by omega) _).alloc (by rw [e]; omega) _⟩
 have HW:Hid (W = (w.alloc (.cells #[.slice av nv cv,.slice ab n cb] 30)).alloc (.cells (madeCells #[.slice none 0 0] n) 88)):=hW
 have HS0:Hid (NnS w N n nv 0 (.slice av nv cv) (.slice ab n cb) W):=hst
 have HN:Hid (w.heap.size = N):=hN
 clear hW hst hN
 go_enter Try.func28,Try.ntmps28
 go_upto_region 2 with fail
 rw [← HW.out,HN.out]
 go_wp2_with fail
 clear hmk HW
 go_loopw [11] (fun i wr => ∃ k:Nat,k ≤ n∧i = .int .i64 k∧Hid (NnS w N n nv k (.slice av nv cv) (.slice ab n cb) wr)) (fun i _ => n - (intOf i).toNat)
 case atStart => exact ⟨0,Nat.zero_le _,rfl,HS0⟩
 case round =>
  obtain ⟨k,hk,rfl,HI⟩:=hrel
  by_cases hlt:k < n
  ·have d0:wr.cell? ⟨N,0,none⟩ = some (.slice av nv cv):=HI.out.bx.cell (i:=0) (by omega)
   have s1:=HI.out.row.cell hlt
   have s2:=HI.out.row.frozen k
   simp only [Nat.lt_irrefl,if_false] at s1
   have hsz:=HI.out.size
   have HE:=HI.out.next hlt
   have HZ:Hid (wr.heap.size = N + 1 + 1 + k):=hsz
   have HE2:Hid (NnS w N n nv (k + 1) (.slice av nv cv) (.slice ab n cb) ((wr.setCell ⟨N + 1,k,none⟩ (.slice (some ⟨wr.heap.size,0,none⟩) nv nv)).alloc (.cells (madeCells #[.bool false] nv) 4))):=by
    show NnS _ _ _ _ _ _ _ _
    rw [← World.setCell_alloc_past (w:=wr) _ (N + 1) k _ (by omega),hsz]; exact HE
   have l1:N < wr.heap.size:=by omega
   have l2:N + 1 < wr.heap.size:=by omega
   clear hsz HE HI HZ
   go_wp2
   go_roundw
   case rel => exact ⟨k + 1,by omega,by go_num,HE2⟩
   case measure => simp [intOf]; omega
  ·have he:k = n:=by omega
   have HE:Hid (Tab wr (N + 1) n nv (fun _ _ => false)∧Below w.heap.size w wr∧wr.heap.size = N + 1 + 1 + n):=by
    have h:=HI.out
    rw [he] at h
    refine ⟨⟨h.row.congr fun b hb => by rw [if_pos hb],h.rows⟩,by rw [HN.out]; exact h.low,h.size⟩
   clear HI he
   go_wp2
   go_ret
   exact ⟨rfl,HE.out⟩
end Go.Proofs.Ytglfpnnfcpnmoaa
