/-
  The contracts of 'slices.Grow' (of nothing) and 'slices.Concat' (of two lists of spans).
-/
import Derived.Test.YtdlnofjmonpmgaaG1
import Derived.Lib.AppendZerosOnto
import Derived.Deep.DeepAppendWide
import Derived.Deep.AppendSrc
import Derived.Deep.Upon
import Derived.Deep.DeepCutAuto
import Derived.Deep.CutBlock
import Derived.Test.YtdlnofjmonpmgaaSortL
import Derived.Deep.QuietTactic
import Derived.BigQuiet
namespace Go.Proofs.Ytdlnofjmonpmgaa
open Go.RowKit Go.Lib
set_option linter.unusedVariables false
def RSn (cs:List Value) (x:Sp):Prop:=cs = cS x
theorem underI:Try.prog.underlying 3 = some (.int .i64):=by kernel_rfl
theorem spn_parts:∃ i,Try.prog.info? 80 = some i∧i.zero = some (.agg #[.int .i64 0,.int .i64 0])∧i.size = 2∧i.bytes = 16:=info_parts2 infoSnZ
theorem sn_one (l:List Sp):∀ u ∈ l.flatMap cS,u.oneCell' = true:=fun u hu => by
 obtain ⟨x,_,hx⟩:=List.mem_flatMap.1 hu
 simp [cS] at hx
 rcases hx with h | h <;> (rw [h]; rfl)
theorem own_spans {w:World} {base e n:Nat} {v:Value} (l:List Sp) (h:w.ownsRow base e 2 v n (l.flatMap cS)) (hn:n ≤ longest):SlOf w 2 RSn v l:=own_sl (k:=2) cS (fun _ => rfl) (by decide) (fun _ => rfl) l h hn
section
variable {P:Program} {o:Oper} {a:Act} {w w':World} {K:Act → World → Prop} {Q:Exit → Act → World → Prop}
theorem wpL_append2 {ops:Array Oper} {rest:List Oper} (hgd:o.guard = none) (s x:Operand) (t tn:TypeId) (ho:o.op = .call { callee:=.builtin .append,args:=#[s,x],argTypes:=#[t,tn] }) {v1 v2 v:Value} (h1:a.eval s = v1) (h2:a.eval x = v2) (hr:(Builtin.append_ #[t,tn] o.type #[v1,v2]).run P w = .ok v w') (h:wpList P ops Q rest (a.put o.dst v) w'):wpList P ops Q (o :: rest) a w :=
 wpList_plain hgd fun _ hK => by
  unfold Oper.wp execOp
  simp only [ho,resolve,invoke,builtin,Sem.run_bind,Sem.run_pure,Result.andThen_ok,List.map_toArray,List.map_cons,List.map_nil,h1,h2,hr]
  exact hK _ _ h
theorem wpL_append {ops:Array Oper} {rest:List Oper} (hgd:o.guard = none) (s x:Operand) (t:TypeId) (ho:o.op = .call { callee:=.builtin .append,args:=#[s,x],argTypes:=#[t,t] }) {v1 v2 v:Value} (h1:a.eval s = v1) (h2:a.eval x = v2) (hr:(Builtin.append_ #[t,t] o.type #[v1,v2]).run P w = .ok v w') (h:wpList P ops Q rest (a.put o.dst v) w'):wpList P ops Q (o :: rest) a w :=
 wpL_append2 hgd s x t t ho h1 h2 hr h
end
theorem addS (b off j:Nat):(⟨b,off,none⟩:Addr).add j = ⟨b,off + j,none⟩:=by unfold Addr.add; split <;> simp_all
theorem growS_run (w:World) (n:Nat) (h0:0 < n) (hn:n ≤ 10000) (ty:TypeId):∃ cap w',(Builtin.append_ #[39,3] ty #[.slice none 0 0,.int .i64 n]).run Try.prog w = .ok (.slice (some ⟨w.heap.size,0,none⟩) n cap) w'∧w'.ownsRow w.heap.size 80 2 (.slice (some ⟨w.heap.size,0,none⟩) 0 cap) 0 []∧Below w.heap.size w w'∧n ≤ cap∧cap ≤ 9223372036854775807:=by
 obtain ⟨i,hi,hz,h2s,h16⟩:=spn_parts
 have h:=Lib.run_append_grow_zeros (P:=Try.prog) w 39 3 ty 80 i _ .i64 .i64 Try.underlying39 underI hi hz none 0 0 [] (run_firstCells_none w.drew i.size 0 0 0) n h0 (by omega) (by omega) (by omega) (by rw [h16]; omega) (by rw [h16]; exact growslice_fits_wide (by omega) (by omega))
 rw [Nat.zero_add] at h
 have hge:=grownCap_ge w n 0 80
 have hle:=grownCap_le_maxLen w n 0 80 (by unfold maxLen; omega)
 obtain ⟨G,hG⟩:∃ G,G = grownCap w n 0 80:=⟨_,rfl⟩
 rw [← hG] at h hge hle
 refine ⟨G,_,h,?_,((Below.refl _ _).drew).alloc (Nat.le_refl _) _,hge,by unfold maxLen at hle; omega⟩
 refine ⟨rfl,Or.inr ⟨w.heap.size,G,_,rfl,Nat.le_refl _,heap_alloc_new w.drew _,Nat.zero_le _,hle,?_,by simp⟩⟩
 simp only [Array.size_append,size_zeroCells]
 simp [Value.cells]
 omega
set_option maxRecDepth 8000 in
set_option maxHeartbeats 4000000 in
theorem growS_any (n:Nat) (hn:n ≤ 10000) (w:World) :
  Calls Try.prog 70 #[.slice none 0 0,.int .i64 n] w fun e w' => ∃ v,e = .returned v∧w'.ownsRow w.heap.size 80 2 v 0 []∧Below w.heap.size w w':=by
 by_cases h0:n = 0
 ·subst h0
  go_enter Try.func70,Try.ntmps70
  go_wp2
  go_ret
  exact ⟨_,rfl,⟨rfl,Or.inl ⟨rfl,rfl⟩⟩,Below.refl _ _⟩
 ·obtain ⟨cap,w',hr,ho,hb,hc,hc2⟩:=growS_run w n (by omega) hn 39
  have h1:¬ ((n:Int) < 0):=by omega
  have h4:(0:Int) < (n:Int):=by omega
  have HO:Hid (w'.ownsRow w.heap.size 80 2 (.slice (some ⟨w.heap.size,0,none⟩) 0 cap) 0 []∧Below w.heap.size w w'):=⟨ho,hb⟩
  clear ho hb h0
  go_enter Try.func70,Try.ntmps70
  go_wp2_with (at_builtin; refine wpL_append2 rfl _ _ _ _ rfl rfl rfl hr ?_)
  go_ret
  exact ⟨_,rfl,HO.out.1,HO.out.2⟩
theorem app_spans {B n:Nat} {w:World} {v:Value} {xs:List Value} (hown:w.ownsRow B 80 2 v n xs) (hB:B ≤ w.heap.size) (l:List Sp) {ax:Option Addr} {m c:Nat} (hl:SlOf w 2 RSn (.slice ax m c) l) (hm:l.length = m) (hn:n + m ≤ 1000000) (ty:Nat) :
  ∃ a' cap w',(Builtin.append_ #[39,39] ty #[v,.slice ax m c]).run Try.prog w = .ok (.slice a' (n + m) cap) w' ∧
   w'.ownsRow B 80 2 (.slice a' (n + m) cap) (n + m) (xs ++ l.flatMap cS)∧w.grownBy w' v.ownBlock:=by
 obtain ⟨i,hi,hz,h2s,h16⟩:=spn_parts
 by_cases h0:m = 0
 ·subst h0
  have hl0:l = []:=List.length_eq_zero_iff.1 hm
  subst hl0
  have hv:∃ a' cap,v = .slice a' n cap∧n ≤ cap:=by
   rcases hown.2 with ⟨rfl,rfl⟩ | ⟨g,cap,cur,rfl,_,_,hnc,_⟩
   ·exact ⟨none,0,rfl,Nat.le_refl _⟩
   ·exact ⟨_,cap,rfl,hnc⟩
  obtain ⟨a',cap,rfl,hnc⟩:=hv
  refine ⟨a',cap,w,?_,by simpa using hown,⟨rfl,rfl,rfl,Nat.le_refl _,fun _ _ _ => rfl⟩⟩
  rw [Nat.add_zero]
  cases ax with
  | none => exact run_append_nothing w 39 39 ty 80 i Try.underlying39 hi a' n cap hnc _ (Src.ofNil w Try.underlying39 c)
  | some ad => exact run_append_nothing w 39 39 ty 80 i Try.underlying39 hi a' n cap hnc _ (Src.ofSlice w Try.underlying39 ad 0 c [] (by simp) (by simp) (by simp))
 ·obtain ⟨a0,c0,hv0,_,h⟩:=hl
  simp only [Value.slice.injEq] at hv0
  obtain ⟨rfl,_,rfl⟩:=hv0
  rcases h with rfl | ⟨b,off,rfl,h⟩
  ·exact absurd hm.symm h0
  ·have hnews:∀ j u,(l.flatMap cS)[j]? = some u → w.cell? ((⟨b,off,none⟩:Addr).add j) = some u:=fun j u hu => by
    have hj:j < l.length * 2:=by
     have:=(List.getElem?_eq_some_iff.1 hu).1
     rw [cS_len] at this
     exact this
    have hq:j / 2 < l.length:=by omega
    have hr:j % 2 < 2:=Nat.mod_lt _ (by omega)
    have hjj:j = j / 2 * 2 + j % 2:=by omega
    obtain ⟨cs,h1,h2,h3⟩:=h (j / 2) hq
    have h4:=flat_at cS 2 (fun _ => rfl) l (j / 2) (j % 2) hq hr
    rw [← hjj,hu] at h4
    unfold RSn at h2
    have h5:cs = cS l[j / 2]:=h2
    subst h5
    have h6:=h3 (j % 2) (by rw [h1]; exact hr)
    have hoff:(⟨b,off,none⟩:Addr).add j = ⟨b,off + j / 2 * 2 + j % 2,none⟩:=by
     have:off + j = off + j / 2 * 2 + j % 2:=by omega
     rw [← this]
     exact addS b off j
    rw [hoff,h6]
    have h7:(cS l[j / 2])[j % 2]? = some ((cS l[j / 2])[j % 2]'(by rw [h1]; exact hr)):=List.getElem?_eq_getElem _
    rw [← h7,← h4]
   obtain ⟨g,cap,w',q1,q2,q3,_⟩:=run_append_lies (P:=Try.prog) w 39 ty B 80 i _ 2 16 Try.underlying39 hi hz h2s h16 rfl (by decide) v n xs hown ⟨b,off,none⟩ m c (l.flatMap cS) (by rw [cS_len,hm]) hnews (sn_one l) (by omega) (by unfold maxLen; omega) (by omega) hB _ rfl
   exact ⟨_,cap,w',q1,q2,q3⟩
set_option maxRecDepth 8000 in
set_option maxHeartbeats 8000000 in
theorem concatS_any (g:Nat) (a1 a2:Option Addr) (n1 n2 c1 c2:Nat) (l1 l2:List Sp) (w:World) (h1:SlOf w 2 RSn (.slice a1 n1 c1) l1) (h2:SlOf w 2 RSn (.slice a2 n2 c2) l2) (e1:l1.length = n1) (e2:l2.length = n2) (hn1:n1 ≤ 5000) (hn2:n2 ≤ 5000) (g0:w.cell? ⟨g,0,none⟩ = some (.slice a1 n1 c1)) (g1:w.cell? ⟨g,1,none⟩ = some (.slice a2 n2 c2)) :
  Calls Try.prog 55 #[.slice (some ⟨g,0,none⟩) 2 2] w fun e w' => ∃ v,e = .returned v∧w'.ownsRow w.heap.size 80 2 v (n1 + n2) ((l1 ++ l2).flatMap cS)∧Below w.heap.size w w':=by
 have lg:=block_lt g0
 have hs1:¬ ((n1:Int) < 0):=by omega
 have hs2:¬ ((n1:Int) + (n2:Int) < 0):=by omega
 have hw1:IntKind.i64.wrap (n1:Int) = n1:=by rw [IntKind.wrap_i64]; omega
 have hw2:IntKind.i64.wrap ((n1:Int) + n2) = (n1:Int) + n2:=by rw [IntKind.wrap_i64]; omega
 have HG:=growS_any (n1 + n2) (by omega) w
 have hcast:(((n1 + n2:Nat)):Int) = (n1:Int) + n2:=by omega
 rw [hcast] at HG
 have H1:Hid (SlOf w 2 RSn (.slice a1 n1 c1) l1∧l1.length = n1∧SlOf w 2 RSn (.slice a2 n2 c2) l2∧l2.length = n2):=⟨h1,e1,h2,e2⟩
 clear h1 h2 e1 e2 hcast
 go_enter Try.func55,Try.ntmps55
 go_wp2
 refine wp_loop_rounds 3 ?_
 rw [rounds_succ]
 go_wp2
 rw [rounds_succ]
 go_wp2
 rw [rounds_succ]
 go_upto_region 10 with (go_at_call 70; refine HG.mono ?_; clear HG; rintro e w1 ⟨v,rfl,ho,hb⟩)
 have hv:∃ a0 c0,v = .slice a0 0 c0:=by
  rcases ho.2 with ⟨h,_⟩ | ⟨q,cap,cur,h,_⟩
  ·exact ⟨none,0,h⟩
  ·exact ⟨_,cap,h⟩
 obtain ⟨a0,c0,rfl⟩:=hv
 have hz1:=hb.size
 obtain ⟨a3,c3,w2,hr2,ho2,hg2⟩:=app_spans ho hz1 l1 (H1.out.1.below hb fun _ _ h => h) H1.out.2.1 (by omega) 39
 have hb2:Below w.heap.size w w2:=hb.grown hg2 hz1 (fun q hq => (own_base ho hq).1)
 have hz2:=hb2.size
 obtain ⟨a4,c4,w3,hr3,ho3,hg3⟩:=app_spans ho2 hz2 l2 (H1.out.2.2.1.below hb2 fun _ _ h => h) H1.out.2.2.2 (by omega) 39
 have hb3:Below w.heap.size w w3:=hb2.grown hg3 hz2 (fun q hq => (own_base ho2 hq).1)
 rw [Nat.zero_add] at hr2 hr3 ho3
 have q0:=(hb.cell (p:=⟨g,0,none⟩) lg).trans g0
 have q1:=(hb2.cell (p:=⟨g,1,none⟩) lg).trans g1
 have HE:Hid (w3.ownsRow w.heap.size 80 2 (.slice a4 (n1 + n2) c4) (n1 + n2) ((l1 ++ l2).flatMap cS)∧Below w.heap.size w w3):=by
  refine ⟨?_,hb3⟩
  rw [List.flatMap_append]
  simpa using ho3
 clear ho ho2 ho3 hg2 hg3 hb hb2 hb3 hz1 hz2
 go_wp2
 refine wp_loop_rounds 3 ?_
 rw [rounds_succ]
 go_wp2_with (at_builtin; refine wpL_append rfl _ _ _ rfl rfl rfl hr2 ?_)
 rw [rounds_succ]
 go_wp2_with (at_builtin; refine wpL_append rfl _ _ _ rfl rfl rfl hr3 ?_)
 rw [rounds_succ]
 go_wp2
 go_ret
 exact ⟨_,rfl,HE.out⟩
end Go.Proofs.Ytdlnofjmonpmgaa
namespace Go.Proofs.Ytdlnofjmonpmgaa
open Go.RowKit Go.Sort
set_option linter.unusedVariables false
set_option maxHeartbeats 4000000 in
theorem compare_any (a b:Int) (W:World):Calls Try.prog 58 #[.int .i64 a,.int .i64 b] W fun e w' => e = .returned (.int .i64 (Lib.compareInt a b))∧w' = W:=by
 have h0:(!(a == a)) = false:=by simp
 have h1:(!(b == b)) = false:=by simp
 go_enter Try.func58,Try.ntmps58
 unfold Lib.compareInt
 by_cases hlt:a < b
 ·go_wp2
  go_ret
  exact ⟨rfl,rfl⟩
 ·by_cases hgt:b < a
  ·go_wp2
   go_ret
   exact ⟨rfl,rfl⟩
  ·go_wp2
   go_ret
   exact ⟨rfl,rfl⟩
set_option maxHeartbeats 4000000 in
theorem closureSp (x y:Sp) (W:World):Calls Try.prog 57 #[.agg #[.int .i64 x.1,.int .i64 x.2],.agg #[.int .i64 y.1,.int .i64 y.2]] W fun e w' => e = .returned (.int .i64 (Lib.compareInt x.1 y.1))∧∃ q os',w' = grow (W.drewN q) os':=by
 have hcon:=fun W' => compare_any x.1 y.1 W'
 generalize Lib.compareInt x.1 y.1 = r at hcon ⊢
 go_enter Try.func57,Try.ntmps57
 go_wp2_with (go_at_call 58; refine (hcon _).mono ?_; rintro e w' ⟨rfl,rfl⟩)
 go_ret
 exact ⟨rfl,0,_,by rw [alloc_eq_grow,alloc_eq_grow,grow_grow]; rfl⟩
theorem sort_any {w:World} {base n g cap:Nat} {l:List Sp} (h:w.ownsRow base 80 2 (.slice (some ⟨g,0,none⟩) n cap) n (l.flatMap cS)) (hl:l.length = n) (hn:n ≤ 100000) :
  Calls Try.prog 56 #[.slice (some ⟨g,0,none⟩) n cap,.func (.func 57) #[] #[]] w fun e w' => e = .returned (.tuple #[])∧∃ l',l'.Perm l∧Asc l'∧w'.ownsRow base 80 2 (.slice (some ⟨g,0,none⟩) n cap) n (l'.flatMap cS)∧w.grownBy w' (some g):=by
 have hlt:g < w.heap.size:=(own_base h rfl).2
 have hH:=holdsK_own h hl
 have eg:∀ args w,(callFunc 57 args).run Try.prog w = .ok (.enter 57 args) w:=enters_of Try.func57 (by kernel_rfl) rfl
 have hcon:=AnyQ.slices_SortFunc sortSp 2 Try.isAgg80 Try.sizeOf80 cS (fun _ => rfl) (fun x v hv => by simp [cS] at hv; rcases hv with rfl | rfl <;> rfl) (fun x y => Lib.compareInt x.1 y.1) swoSp 57 #[] g 0 cap l.toArray w eg (fun _ _ _ _ x y => closureSp x y _) hH hlt (by simp; omega)
 change Calls Try.prog 56 _ _ _ at hcon
 have e1:l.toArray.size = n:=by simpa using hl
 rw [e1] at hcon
 refine hcon.mono ?_
 rintro e w' ⟨rfl,d',m,os,hp,hs,rfl⟩
 have hsz:d'.size = l.toArray.size:=by have:=hp.1; rw [e1]; rw [e1] at this; exact this
 refine ⟨rfl,d'.toList,?_,?_,?_,?_⟩
 ·exact perm_of (by rw [e1]; exact hp)
 ·exact asc_of hsz (by rw [e1]; exact hs)
 ·exact own_sortedK h hl d'.toList (by simp; omega)
 ·exact grownBy_sortedK d'
end Go.Proofs.Ytdlnofjmonpmgaa
namespace Go.Proofs.Ytdlnofjmonpmgaa
open Go.RowKit
set_option linter.unusedVariables false
theorem side_get:∀ {l:List Sp},Side l ↔ ∀ j (h:j + 1 < l.length),l[j].2 ≤ l[j + 1].1
 | [] => ⟨fun _ j h => by simp at h,fun _ => trivial⟩
 | [x] => ⟨fun _ j h => by simp at h,fun _ => trivial⟩
 | x :: y :: r => by
  have ih:=side_get (l:=y :: r)
  constructor
  ·rintro ⟨h1,h2⟩ j hj
   cases j with
   | zero => exact h1
   | succ j => exact ih.1 h2 j (by simpa using hj)
  ·intro h
   exact ⟨h 0 (by simp),ih.2 fun j hj => h (j + 1) (by simpa using hj)⟩
theorem own_mono {w:World} {base base' e k n:Nat} {v:Value} {xs:List Value} (h:w.ownsRow base e k v n xs) (hb:base' ≤ base):w.ownsRow base' e k v n xs:=by
 obtain ⟨h1,h2⟩:=h
 refine ⟨h1,?_⟩
 rcases h2 with h2 | ⟨g,cap,cur,a,b,c⟩
 ·exact Or.inl h2
 ·exact Or.inr ⟨g,cap,cur,a,Nat.le_trans hb b,c⟩
theorem below_drwN {B:Nat} {w wr:World} (h:Below B w wr) (n:Nat):Below B w (wr.drewN n):=⟨h.os,h.tape,h.output,h.size,h.block⟩
set_option maxHeartbeats 4000000 in
theorem overlap_any (l:List Sp) (n g cap base:Nat) (w:World) (h:w.ownsRow base 80 2 (.slice (some ⟨g,0,none⟩) n cap) n (l.flatMap cS)) (hl:l.length = n) (hn:n ≤ 100000) :
  Calls Try.prog 46 #[.slice (some ⟨g,0,none⟩) n cap] w fun e w' => ∃ b:Bool,e = .returned (.bool b)∧(b = false ↔ Side l)∧Below w.heap.size w w':=by
 have lg:g < w.heap.size:=(own_base h rfl).2
 have HC:Hid (∀ w',Below w.heap.size w w' → ∀ i (hi:i < l.length),w'.cell? ⟨g,i * 2,none⟩ = some (.int .i64 l[i].1)∧w'.cell? ⟨g,i * 2 + 1,none⟩ = some (.int .i64 l[i].2)):=fun w' hh i hi => by
  have h1:=own_cellS h rfl i hi
  exact ⟨(hh.cell (p:=⟨g,i * 2,none⟩) lg).trans h1.1,(hh.cell (p:=⟨g,i * 2 + 1,none⟩) lg).trans h1.2.1⟩
 have HL:Hid (l.length = n):=hl
 clear h hl lg
 go_enter Try.func46,Try.ntmps46
 go_wp2_with fail
 go_loopw [2,3] (fun r i wr => ∃ k:Nat,r = .bool false∧1 ≤ k∧(k ≤ n ∨ k = 1)∧i = .int .i64 k∧Hid (Below w.heap.size w wr∧∀ j (hj:j + 1 < l.length),j + 1 < k → l[j].2 ≤ l[j + 1].1)) (fun _ i _ => n - (intOf i).toNat)
 case atStart => exact ⟨1,rfl,Nat.le_refl _,Or.inr rfl,rfl,Below.refl _ _,fun j _ h => by omega⟩
 case round =>
  obtain ⟨k,rfl,hk1,hk2,rfl,HB⟩:=hrel
  by_cases hkn:k < n
  ·have hk':k < l.length:=by rw [HL.out]; exact hkn
   obtain ⟨a1,_⟩:=HC.out wr HB.out.1 k hk'
   obtain ⟨_,a4⟩:=HC.out wr HB.out.1 (k - 1) (by omega)
   obtain ⟨x1,hx1⟩:∃ x,l[k].1 = x:=⟨_,rfl⟩
   obtain ⟨x3,hx3⟩:∃ x,(l[k - 1]'(by omega)).2 = x:=⟨_,rfl⟩
   rw [hx1] at a1
   rw [hx3] at a4
   have HX:Hid (l[k].1 = x1∧(l[k - 1]'(by omega)).2 = x3):=⟨hx1,hx3⟩
   clear hx1 hx3
   have q6:IntKind.i64.wrap ((k:Int) - 1) = (k:Int) - 1:=by rw [IntKind.wrap_i64]; omega
   have q7:(0:Int) ≤ (k:Int) - 1:=by omega
   have q8:(k:Int) - 1 < (n:Int):=by omega
   have q9:((k:Int) - 1).toNat = k - 1:=by omega
   have q11:k < n + 1:=by omega
   have d0:(k:Int) < (n:Int):=by omega
   by_cases hov:x1 < x3
   ·go_upto_region 4 with fail
    go_quiet (fail)
    have HE:Hid (¬ Side l):=fun hs => by
     have h1:=side_get.1 hs (k - 1) (by omega)
     have h2:=HX.out
     simp only [show k - 1 + 1 = k by omega] at h1
     omega
    go_wp2
    go_ret
    exact ⟨true,rfl,⟨fun h => (by cases h),fun h => absurd h HE.out⟩,below_drwN HB.out.1 _⟩
   ·have HN:Hid (∀ w',Below w.heap.size wr w' → Below w.heap.size w w'∧∀ j (hj:j + 1 < l.length),j + 1 < k + 1 → l[j].2 ≤ l[j + 1].1):=fun w' hw => ⟨HB.out.1.trans hw,fun j hj hjk => by
     by_cases e:j + 1 < k
     ·exact HB.out.2 j hj e
     ·have:j = k - 1:=by omega
      subst this
      have h2:=HX.out
      simp only [show k - 1 + 1 = k by omega]
      omega⟩
    go_upto_region 4 with fail
    go_quiet (fail)
    go_wp2
    go_roundw
    case rel => exact ⟨k + 1,rfl,by omega,by omega,by go_num,HN.out _ (below_drwN (Below.refl _ _) _)⟩
    case measure => simp [intOf]; omega
  ·have HE:Hid (Side l∧Below w.heap.size w wr):=⟨side_get.2 fun j hj => HB.out.2 j hj (by rw [HL.out] at hj; omega),HB.out.1⟩
   clear HB
   go_wp2
   go_ret
   exact ⟨false,rfl,⟨fun _ => HE.out.1,fun _ => rfl⟩,HE.out.2⟩
set_option maxRecDepth 8000 in
set_option maxHeartbeats 4000000 in
theorem ordered_any (a1 a2:Option Addr) (n1 n2 c1 c2:Nat) (l1 l2:List Sp) (w:World) (h1:SlOf w 2 RSn (.slice a1 n1 c1) l1) (h2:SlOf w 2 RSn (.slice a2 n2 c2) l2) (e1:l1.length = n1) (e2:l2.length = n2) (hn1:n1 ≤ 5000) (hn2:n2 ≤ 5000) (h0:0 < n1) :
  Calls Try.prog 45 #[.slice a1 n1 c1,.slice a2 n2 c2] w fun e w' => ∃ (g cap:Nat) (l':List Sp),e = .returned (.slice (some ⟨g,0,none⟩) (n1 + n2) cap)∧l'.Perm (l1 ++ l2)∧Asc l'∧w'.ownsRow w.heap.size 80 2 (.slice (some ⟨g,0,none⟩) (n1 + n2) cap) (n1 + n2) (l'.flatMap cS)∧Below w.heap.size w w':=by
 obtain ⟨W,hW⟩:∃ W,W = w.alloc (.cells #[.slice a1 n1 c1,.slice a2 n2 c2] 39):=⟨_,rfl⟩
 obtain ⟨B,hB⟩:∃ B,w.heap.size = B:=⟨_,rfl⟩
 have hbw:Below w.heap.size w W:=by rw [hW]; exact (Below.refl _ _).alloc (Nat.le_refl _) _
 have c0:W.cell? ⟨B,0,none⟩ = some (.slice a1 n1 c1):=by rw [hW,← hB]; simp
 have c1':W.cell? ⟨B,1,none⟩ = some (.slice a2 n2 c2):=by rw [hW,← hB]; simp
 have hBW:B ≤ W.heap.size:=by rw [← hB]; exact hbw.size
 have HC:=concatS_any B a1 a2 n1 n2 c1 c2 l1 l2 W (h1.below hbw fun _ _ h => h) (h2.below hbw fun _ _ h => h) e1 e2 hn1 hn2 c0 c1'
 have HBW:Hid (W = w.alloc (.cells #[.slice a1 n1 c1,.slice a2 n2 c2] 39)∧Below B w W∧B ≤ W.heap.size∧l1.length = n1∧l2.length = n2):=⟨hW,by rw [← hB]; exact hbw,hBW,e1,e2⟩
 clear hW hbw c0 c1' hBW h1 h2 e1 e2
 go_enter Try.func45,Try.ntmps45
 rw [hB]
 go_upto_region 2 with (go_at_call 55; rw [← HBW.out.1]; refine HC.mono ?_; clear HC; rintro e w1 ⟨v,rfl,ho,hb1⟩)
 have hv:∃ g cap,v = .slice (some ⟨g,0,none⟩) (n1 + n2) cap:=by
  rcases ho.2 with ⟨h,h3⟩ | ⟨q,cap,cur,h,_⟩
  ·omega
  ·exact ⟨q,cap,h⟩
 obtain ⟨g,cap,rfl⟩:=hv
 have HS:=sort_any ho (by rw [List.length_append,HBW.out.2.2.2.1,HBW.out.2.2.2.2]) (by omega)
 have HO:Hid (w1.ownsRow W.heap.size 80 2 (.slice (some ⟨g,0,none⟩) (n1 + n2) cap) (n1 + n2) ((l1 ++ l2).flatMap cS)∧Below W.heap.size W w1):=⟨ho,hb1⟩
 clear ho hb1
 go_upto_region 3 with (go_at_call 56; refine HS.mono ?_; clear HS; rintro e w2 ⟨rfl,l',hp,ha,ho2,hg2⟩)
 have HE:Hid (l'.Perm (l1 ++ l2)∧Asc l'∧w2.ownsRow W.heap.size 80 2 (.slice (some ⟨g,0,none⟩) (n1 + n2) cap) (n1 + n2) (l'.flatMap cS)∧w1.grownBy w2 (some g)):=⟨hp,ha,ho2,hg2⟩
 clear hp ha ho2 hg2
 go_wp2
 go_ret
 refine ⟨g,cap,l',rfl,HE.out.1,HE.out.2.1,own_mono HE.out.2.2.1 HBW.out.2.2.1,?_⟩
 have h1:Below B w w1:=HBW.out.2.1.trans (HO.out.2.mono HBW.out.2.2.1)
 refine h1.grown HE.out.2.2.2 (by rw [← hB]; exact h1.size) fun q hq => ?_
 simp only [Option.some.injEq] at hq
 have k1:=(own_base HO.out.1 (g:=g) rfl).1
 have k2:=HBW.out.2.2.1
 omega
end Go.Proofs.Ytdlnofjmonpmgaa
