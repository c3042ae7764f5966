/-
  The contract of the statements' own 'has'.
-/
import Derived.Test.YtglfpnnfcpnmoaaF1
namespace Go.Proofs.Ytglfpnnfcpnmoaa
open Go.RowKit
set_option linter.unusedVariables false
theorem SlOf.take {w:World} {a:Option Addr} {n cap:Nat} {l:List Int} (h:SlOf w 1 RInt (.slice a n cap) l) (k:Nat) (hk:k ≤ l.length) (cap':Nat):SlOf w 1 RInt (.slice a k cap') (l.take k):=by
 obtain ⟨a',c',hv,hl,h⟩:=h
 simp only [Value.slice.injEq] at hv
 obtain ⟨rfl,_,_⟩:=hv
 refine ⟨a,cap',by rw [List.length_take,Nat.min_eq_left hk],by rw [List.length_take]; omega,?_⟩
 by_cases e:l.take k = []
 ·exact Or.inl e
 ·rcases h with rfl | ⟨b,off,ha,h⟩
  ·simp at e
  ·refine Or.inr ⟨b,off,ha,fun i hi => ?_⟩
   rw [List.length_take] at hi
   obtain ⟨cs,h1,h2,h3⟩:=h i (by omega)
   exact ⟨cs,h1,by rw [List.getElem_take]; exact h2,h3⟩
set_option maxHeartbeats 2000000 in
theorem has_any (l:List Int) (a:Option Addr) (n c:Nat) (x:Int) (w:World) (hn:l.length = n) (h1:SlOf w 1 RInt (.slice a n c) l) (r:Bool) (hr:decide (x ∈ l) = r) :
  Calls Try.prog 11 #[.slice a n c,.int .i64 x] w fun e w' => e = .returned (.bool r)∧Below w.heap.size w w':=by
 subst hn
 have lb:l.length ≤ longest:=by
  obtain ⟨_,_,_,h⟩:=h1.out
  exact h
 unfold longest at lb
 have HA:Hid (SlOf w 1 RInt (.slice a l.length c) l):=h1
 have HR:Hid (decide (x ∈ l) = r):=hr
 clear h1 hr
 go_enter Try.func11,Try.ntmps11
 go_wp2_with fail
 go_loopw [5] (fun i wr => ∃ k:Nat,k ≤ l.length∧i = .int .i64 k∧Below w.heap.size w wr∧Hid (decide (x ∈ l.drop k) = r)) (fun i _ => l.length - (intOf i).toNat)
 case atStart => exact ⟨0,Nat.zero_le _,rfl,Below.refl _ _,HR.out⟩
 case round =>
  obtain ⟨k,hk,rfl,hbr,HI⟩:=hrel
  by_cases hlt:k < l.length
  ·obtain ⟨b1,o1,rfl,hb1,hc1⟩:=ints_at HA.out k (by omega) (by omega)
   rw [Int.toNat_natCast] at hc1
   have e1:=(hbr.cell (p:=⟨b1,o1 + k,none⟩) hb1).trans hc1
   have hd:l.drop k = l.getD k 0 :: l.drop (k + 1):=by
    rw [List.drop_eq_getElem_cons hlt,List.getD_eq_getElem?_getD,List.getElem?_eq_getElem hlt]
    rfl
   have hI:=HI.out
   rw [hd] at hI
   clear hc1 hd
   generalize l.getD k 0 = y at *
   by_cases hy:y = x
   ·have e2:(y == x) = true:=by simp [hy]
    have H:Hid (true = r):=by show _ = _; rw [← hI]; simp [hy]
    clear hI HI hy
    go_wp2
    go_ret
    exact ⟨ret_bool H.out,hbr⟩
   ·have e2:(y == x) = false:=by simp [hy]
    have HN:Hid (decide (x ∈ l.drop (k + 1)) = r):=by
     show _ = _
     rw [← hI]
     have:x ≠ y:=fun e => hy e.symm
     simp [this]
    clear hI HI hy
    go_wp2
    go_roundw
    case rel => exact ⟨k + 1,by omega,by go_num,hbr,HN⟩
    case measure => simp [intOf]; omega
  ·have H:Hid (false = r):=by
    show _ = _
    rw [← HI.out,List.drop_eq_nil_of_le (by omega)]
    simp
   clear HI
   go_wp2
   go_ret
   exact ⟨ret_bool H.out,hbr⟩
theorem rowl_at {w:World} {g n c:Nat} {l:List Int} (h:SlOf w 1 RInt (.slice (some ⟨g,0,none⟩) n c) l) (i:Nat) (hi:i < l.length):w.cell? ⟨g,i,none⟩ = some (.int .i64 (l.getD i 0))∧g < w.heap.size:=by
 obtain ⟨b,off,e,hb,hc⟩:=ints_at h (i:Int) (by omega) (by omega)
 simp only [Option.some.injEq,Addr.mk.injEq] at e
 obtain ⟨rfl,rfl,_⟩:=e
 rw [Int.toNat_natCast,Nat.zero_add] at hc
 exact ⟨hc,hb⟩
theorem row_fn {w:World} {g n c:Nat} {f:Nat → Int} (h:SlOf w 1 RInt (.slice (some ⟨g,0,none⟩) n c) (fnL n f)) (i:Nat) (hi:i < n):w.cell? ⟨g,i,none⟩ = some (.int .i64 (f i))∧g < w.heap.size:=by
 have:=rowl_at h i (by rw [fnL_length]; exact hi)
 rw [fnL_getD _ _ _ hi] at this
 exact this
end Go.Proofs.Ytglfpnnfcpnmoaa
