/-
  The memory of 'Func': the mason, a cell for what it answers, and how what he has built reads as a function.
-/
import Derived.Test.YtglfpnnfcpnmoaaW3l
import Derived.OpenShut
import Derived.SizedLaws
namespace Go.Proofs.Ytglfpnnfcpnmoaa
open Go.RowKit
set_option linter.unusedVariables false
theorem own_out {w:World} {base e k n:Nat} {v:Value} {xs:List Value} (h:w.ownsRow base e k v n xs):∃ a c,v = .slice a n c:=by
 rcases h.2 with ⟨rfl,rfl⟩ | ⟨g,cap,cur,rfl,_⟩
 ·exact ⟨none,0,rfl⟩
 ·exact ⟨_,_,rfl⟩
theorem SlOf.turn {α β:Type} {w:World} {k:Nat} {R:List Value → α → Prop} {R':List Value → β → Prop} {v:Value} {l:List α} {l':List β} (h:SlOf w k R v l) (hl:l.length = l'.length) (hR:∀ i (h1:i < l.length) (h2:i < l'.length) cs,R cs l[i] → R' cs l'[i]):SlOf w k R' v l':=by
 obtain ⟨a,cap,hv,hn,h⟩:=h
 refine ⟨a,cap,by rw [← hl]; exact hv,by rw [← hl]; exact hn,?_⟩
 rcases h with rfl | ⟨b,off,ha,h⟩
 ·exact Or.inl (List.length_eq_zero_iff.1 hl.symm)
 ·refine Or.inr ⟨b,off,ha,fun i hi => ?_⟩
  obtain ⟨cs,h1,h2,h3⟩:=h i (by omega)
  exact ⟨cs,h1,hR i (by omega) hi cs h2,h3⟩
theorem BlkS.reads {N:Nat} {κ:Nat → Nat} {w:World} {j:Nat} {x:Value × Value × Value} {b:Blk} (h:BlkS N κ w j x b) (hi:b.instrs.length ≤ longest) (he:b.edges.length ≤ longest):RBlk w (c3 x) b:=by
 obtain ⟨par,⟨L,l1,l2,l3⟩,ki,⟨M,m1,m2,m3⟩,ke⟩:=h
 have hL:L.length = b.instrs.length:=by rw [← l1]; simp
 have hM:M.length = b.edges.length:=by rw [← m1]; simp
 refine ⟨x.1,x.2.1,x.2.2,rfl,par.1,?_,?_⟩
 ·have:=own_sl (k:=3) (R:=fun cs p => cs = cX p) cX (fun _ => rfl) (by decide) (fun _ => rfl) L l2 (by omega)
  refine this.turn hL fun i h1 h2 cs hcs => ?_
  have hm:=l3 L[i] (List.getElem_mem h1)
  have e:b.instrs[i] = L[i].1:=by simp [← l1]
  rw [e,hcs]
  exact ⟨_,_,rfl,hm.1.1,hm.2.1⟩
 ·have:=own_sl (k:=2) (R:=fun cs p => cs = cE p) cE (fun _ => rfl) (by decide) (fun _ => rfl) M m2 (by omega)
  refine this.turn hM fun i h1 h2 cs hcs => ?_
  have hm:=m3 M[i] (List.getElem_mem h1)
  have e:b.edges[i] = M[i].1:=by simp [← m1]
  rw [e,hcs]
  exact ⟨_,rfl,hm.1⟩
theorem MaS.reads {N:Nat} {κ:Nat → Nat} {w:World} {P:Nat} {s:Ms} {vv vb vk:Value} {al:Int} {bx:Nat → Value × Value × Value} (h:MaS N κ w P s vv vb vk al bx) (hv:s.f.values.length ≤ longest) (hb:s.f.blocks.length ≤ longest) (hi:∀ b ∈ s.f.blocks,b.instrs.length ≤ longest∧b.edges.length ≤ longest):SlOf w 1 RInt vv s.f.values∧SlOf w 3 (RBlk w) vb s.f.blocks:=by
 refine ⟨own_ints _ h.ov hv,?_⟩
 have:=own_sl (k:=3) (R:=fun cs j => cs = c3 (bx j)) (fun j => c3 (bx j)) (fun _ => rfl) (by decide) (fun _ => rfl) (List.range s.f.blocks.length) h.ob hb
 refine this.turn (by simp) fun i h1 h2 cs hcs => ?_
 rw [hcs,List.getElem_range]
 have hm:=hi _ (List.getElem_mem h2)
 exact (h.blk i h2).reads hm.1 hm.2
structure FnS (N:Nat) (w0:World) (P R:Nat) (s:Ms) (κ:Nat → Nat) (w:World):Prop where
 ma:MaO N κ w P s
 bel:Below N w0 w
 kR:κ R = 5
 row:w.rowIs R 30 2 (fun _ => .slice none 0 0)
section
variable {N:Nat} {w0:World} {P R:Nat} {s:Ms} {κ:Nat → Nat} {w:World}
theorem FnS.call {κ':Nat → Nat} {w':World} {s':Ms} (h:FnS N w0 P R s κ w) (hm:MaO N κ' w' P s') (ho:Only MR κ κ' w w'):FnS N w0 P R s' κ' w' :=
 ⟨hm,h.bel.trans (ho.below h.ma.szN fun b hb => by rw [h.ma.lowN b hb]; exact MR0),by rw [ho.role R h.row.lt]; exact h.kR,h.row.of_block (ho.block R h.row.lt (by rw [h.kR]; exact MR5))⟩
theorem FnS.below {w':World} (h:FnS N w0 P R s κ w) (hb:Below w.heap.size w w'):FnS N w0 P R s κ w':=h.call (h.ma.below hb) (Only.of_below hb)
end
theorem FnS.fin {N:Nat} {w0:World} {P R:Nat} {s:Ms} {κ:Nat → Nat} {w:World} (h:FnS N w0 P R s κ w) (hR:N ≤ R) (v0 v1:Value):MaO N κ ((w.setCell ⟨R,0,none⟩ v0).setCell ⟨R,1,none⟩ v1) P s∧Below N w0 ((w.setCell ⟨R,0,none⟩ v0).setCell ⟨R,1,none⟩ v1):=by
 have hO:Only (fun r => r = 5) κ κ w ((w.setCell ⟨R,0,none⟩ v0).setCell ⟨R,1,none⟩ v1):=((Only.refl _ _ _).set (Or.inr h.kR) 0 v0).set (Or.inr h.kR) 1 v1
 exact ⟨h.ma.only hO fun b hb => h.ma.fresh b (by simpa [World.setCell] using hb),(h.bel.setCell (p:=⟨R,0,none⟩) hR v0).setCell (p:=⟨R,1,none⟩) hR v1⟩
theorem FnS.start (w:World) (m0 m1:Int) (z:Value) (N:Nat) (hN:w.heap.size = N):FnS N w (N + 2) (N + 1) ⟨m0,m1,⟨[],[]⟩,0,[]⟩ (upK (upK (fun _ => 0) (N + 1) 5) (N + 2) 1) (((w.alloc (.cells #[.int .i64 m0,.int .i64 m1] 25)).alloc (.cells #[.slice none 0 0,.slice none 0 0] 30)).alloc (.cells #[.int .i64 m0,.int .i64 m1,.slice none 0 0,.slice none 0 0,.int .i64 0,.slice none 0 0,.int .i64 0] 59)):=by
 have hb:Below N w (((w.alloc (.cells #[.int .i64 m0,.int .i64 m1] 25)).alloc (.cells #[.slice none 0 0,.slice none 0 0] 30)).alloc (.cells #[.int .i64 m0,.int .i64 m1,.slice none 0 0,.slice none 0 0,.int .i64 0,.slice none 0 0,.int .i64 0] 59)):=(((Below.refl _ _).alloc (by omega) _).alloc (by simp; omega) _).alloc (by simp; omega) _
 refine ⟨⟨.slice none 0 0,.slice none 0 0,.slice none 0 0,0,fun _ => (.slice none 0 0,.slice none 0 0,.slice none 0 0),?_,?_,World.ownsRow_nil _ _ _ _,fun g hg => by simp [Value.ownBlock] at hg,World.ownsRow_nil _ _ _ _,fun g hg => by simp [Value.ownBlock] at hg,World.ownsRow_nil _ _ _ _,fun g hg => by simp [Value.ownBlock] at hg,fun j hj => by simp at hj,fun b hb' => ?_,fun b hb' => ?_,?_⟩,hb,by simp [upK],?_⟩
 ·have:=World.rowIs_alloc ((w.alloc (.cells #[.int .i64 m0,.int .i64 m1] 25)).alloc (.cells #[.slice none 0 0,.slice none 0 0] 30)) #[.int .i64 m0,.int .i64 m1,.slice none 0 0,.slice none 0 0,.int .i64 0,.slice none 0 0,.int .i64 0] 59 (masonRow ⟨m0,m1,⟨[],[]⟩,0,[]⟩ (.slice none 0 0) (.slice none 0 0) (.slice none 0 0) 0) fun i hi => by
   simp at hi
   match i,hi with | 0,_ => rfl | 1,_ => rfl | 2,_ => rfl | 3,_ => rfl | 4,_ => rfl | 5,_ => rfl | 6,_ => rfl
  have e:((w.alloc (.cells #[.int .i64 m0,.int .i64 m1] 25)).alloc (.cells #[.slice none 0 0,.slice none 0 0] 30)).heap.size = N + 2:=by simp; omega
  rw [e] at this
  exact this
 ·simp [upK]
 ·simp at hb'
  unfold upK
  rw [if_neg (by omega),if_neg (by omega)]
 ·unfold upK
  rw [if_neg (by omega),if_neg (by omega)]
 ·simp; omega
 ·have:=World.rowIs_alloc (w.alloc (.cells #[.int .i64 m0,.int .i64 m1] 25)) #[.slice none 0 0,.slice none 0 0] 30 (fun _ => .slice none 0 0) fun i hi => by
   simp at hi
   match i,hi with | 0,_ => rfl | 1,_ => rfl
  have e:(w.alloc (.cells #[.int .i64 m0,.int .i64 m1] 25)).heap.size = N + 1:=by simp; omega
  rw [e] at this
  exact this.alloc _
def RPc (cs:List Value) (p:Pc):Prop:=cs = [.int .i64 p.kind,.int .i64 p.op,.int .i64 p.a,.int .i64 p.b,.int .i64 p.c,.int .i64 p.limits,.int .i64 p.flags]
def stM (m0 m1:Int) (l:List Pc) (j:Nat):Ms:=(l.take j).foldl stepM (blockM ⟨m0,m1,⟨[],[]⟩,0,[]⟩ []).1
theorem stM_succ (m0 m1:Int) (l:List Pc) (j:Nat) (hj:j < l.length):stM m0 m1 l (j + 1) = stepM (stM m0 m1 l j) l[j]:=by
 unfold stM
 rw [← List.take_append_getElem hj,List.foldl_append]
 rfl
theorem stM_inv (m0 m1:Int) (h0:2 ≤ m0∧m0 ≤ 10) (h1:2 ≤ m1∧m1 ≤ 10) (l:List Pc) (j:Nat) (hj:j ≤ 24):Inv 626 (stM m0 m1 l j):=by
 have:=Inv.fold (l.take j) (Inv.start m0 m1 h0 h1)
 have hl:(l.take j).length ≤ 24:=by rw [List.length_take]; omega
 exact ⟨this.good.mono (by omega),this.bare,this.vals,this.blks,this.inss⟩
theorem stM_end (m0 m1:Int) (l:List Pc) (j:Nat) (hj:j = l.length∧j ≤ 24 ∨ j = 24):endM m0 m1 l = layM (stM m0 m1 l j) ⟨0,0,1,0,0,0,3⟩:=by
 unfold endM stM
 rcases hj with ⟨h,h'⟩ | h
 ·rw [List.take_of_length_le (by omega),List.take_of_length_le (by omega)]
 ·rw [h]
end Go.Proofs.Ytglfpnnfcpnmoaa
namespace Go.Proofs.Ytglfpnnfcpnmoaa
open Go.RowKit Go.ChangeShapes Go.WideShapes
set_option linter.unusedVariables false
theorem list_by {α:Type} (Q:Nat → α → Prop):∀ n,(∀ i,i < n → ∃ a,Q i a) → ∃ l:List α,l.length = n∧∀ i (h:i < l.length),Q i l[i]
 | 0,_ => ⟨[],rfl,fun i h => by simp at h⟩
 | n + 1,h => by
  obtain ⟨l,hl,hq⟩:=list_by Q n fun i hi => h i (by omega)
  obtain ⟨a,ha⟩:=h n (by omega)
  refine ⟨l ++ [a],by simp [hl],fun i hi => ?_⟩
  by_cases h':i < l.length
  ·rw [List.getElem_append_left h']; exact hq i h'
  ·have:i = l.length:=by simp at hi; omega
   subst this
   simpa [hl] using ha
theorem weights_all {H:Type} {P:Program} {e:TypeId} {n:Nat}:∀ {ds:List (DataW H)} {d:DataW H},d ∈ ds → n ∈ d.weights P e → n ∈ DataW.weightsAll P e ds
 | d0 :: r,d,hd,hn => by
  simp only [DataW.weightsAll,List.mem_append]
  rcases List.mem_cons.1 hd with rfl | h
  ·exact Or.inl hn
  ·exact Or.inr (weights_all h hn)
section
variable {H:Type} {enc:TypeId × Value → H} {w:World} {base:Nat} {sp:Nat → Bool} {held:Bool}
def Reads (enc:TypeId × Value → H) (w:World) (base:Nat) (sp:Nat → Bool) (held:Bool) {α:Type} (t:TypeId) (R:List Value → α → Prop):Prop :=
 ∀ (fuel:Nat) (cs:List Value) (x:DataW H × List MemPlace),DataW.trod enc Try.prog w base sp held fuel t cs = some x → (∀ n ∈ x.1.weights Try.prog t,n ≤ reachBytes) → ∃ a,R cs a
theorem reads_slice {α:Type} {t e:TypeId} {k:Nat} {R:List Value → α → Prop} (ht:Try.prog.underlying t = some (.slice e)) (hk:Try.prog.cellsOf e = k) (hk0:0 < k) (hby:0 < Try.prog.bytesOf e) (hR:Reads enc w base sp held e R) :
  Reads enc w base sp held t (fun cs l => ∃ v,cs = [v]∧SlOf w k R v l):=by
 intro fuel cs x h hw
 rcases DataW.trod_slice ht h with ⟨rfl,rfl⟩ | ⟨a,len,cap,elems,rest,n,_,rfl,rfl,hb,hl,hm,hlen,hel,hsp,hns⟩
 ·exact ⟨[],_,rfl,none,0,rfl,by simp [longest],Or.inl rfl⟩
 have hw0:(elems.length + rest.length) * Try.prog.bytesOf e ≤ reachBytes:=hw _ (by simp [DataW.weights,ht])
 have hlong:len ≤ longest:=by
  have h1:=reachBytes_lt
  have h2:len * 1 ≤ (elems.length + rest.length) * Try.prog.bytesOf e:=Nat.mul_le_mul (by omega) hby
  unfold longest
  omega
 have each:∀ i,i < len → ∃ x:α,∃ cs:List Value,cs.length = k∧R cs x∧∀ j (hj:j < cs.length),w.cell? ((a.add (i * k)).add j) = some cs[j]:=by
  intro i hi
  have hE:=hel i hi
  have hi':i < elems.length:=by omega
  rw [List.getElem?_eq_getElem hi',Option.bind_eq_some_iff] at hE
  obtain ⟨cs',hc,hy⟩:=hE
  obtain ⟨_,hcl,hcc⟩:=World.cells?_some hc
  obtain ⟨x,hx⟩:=hR n cs' _ hy fun m hm => hw m (by
   simp only [DataW.weights,ht]
   exact List.mem_cons_of_mem _ (List.mem_append_left _ (weights_all (List.mem_map_of_mem (List.getElem_mem hi')) hm)))
  rw [hk] at hcl hcc
  refine ⟨x,cs',hcl,hx,fun j hj => ?_⟩
  rw [hcc j (by omega),List.getElem?_eq_getElem hj]
 obtain ⟨l,hll,hq⟩:=list_by _ len each
 refine ⟨l,_,rfl,some a,cap,by rw [hll],by omega,?_⟩
 by_cases hl0:l = []
 ·exact Or.inl hl0
 right
 have hpos:0 < l.length:=List.length_pos_iff.2 hl0
 obtain ⟨b,off,spot⟩:=a
 have hs:spot = none:=by
  obtain ⟨cs,hcl,_,hc⟩:=hq 0 hpos
  have:=hc 0 (by omega)
  simp only [Nat.zero_mul,Addr.add,if_true] at this
  cases spot with
  | none => rfl
  | some s =>
   simp only [World.cell?] at this
   split at this <;> simp at this
 subst hs
 refine ⟨b,off,rfl,fun i hi => ?_⟩
 obtain ⟨cs,hcl,hr,hc⟩:=hq i hi
 refine ⟨cs,hcl,hr,fun j hj => ?_⟩
 have:=hc j hj
 simp only [Addr.add] at this
 split at this <;> split at this <;> simp_all
def PcF (p:Pc):Prop:=PcOk p∧-9223372036854775808 ≤ p.kind∧p.kind ≤ 9223372036854775807
theorem wf_i64 {n:Int} (h:(Lit.int .i64 n).wf = true):-9223372036854775808 ≤ n∧n ≤ 9223372036854775807:=bounds_i64 h
set_option maxRecDepth 100000 in
theorem reads_pc:Reads enc w base sp held 62 (fun cs p => RPc cs p∧PcF p):=by
 intro fuel cs x h hw
 have u:=Try.underlying62
 obtain ⟨xs,n,_,rfl,hl,hxs,hf⟩:=DataW.trod_struct u h
 have hc:Try.prog.cellsOf 62 = 7:=by kernel_rfl
 rw [hc] at hl
 have k:Try.prog.cellsOf 3 = 1:=by kernel_rfl
 match cs,hl with
 | [c0,c1,c2,c3,c4,c5,c6],_ =>
 match xs,hxs with
 | [y0,y1,y2,y3,y4,y5,y6],_ =>
  have h0':DataW.trod enc Try.prog w base sp held n 3 (([c0,c1,c2,c3,c4,c5,c6].drop 0).take (Try.prog.cellsOf 3)) = some y0:=hf 0 _ rfl
  rw [k] at h0'
  have h0:DataW.trod enc Try.prog w base sp held n 3 [c0] = some y0:=h0'
  have h1':DataW.trod enc Try.prog w base sp held n 3 (([c0,c1,c2,c3,c4,c5,c6].drop 1).take (Try.prog.cellsOf 3)) = some y1:=hf 1 _ rfl
  rw [k] at h1'
  have h1:DataW.trod enc Try.prog w base sp held n 3 [c1] = some y1:=h1'
  have h2':DataW.trod enc Try.prog w base sp held n 3 (([c0,c1,c2,c3,c4,c5,c6].drop 2).take (Try.prog.cellsOf 3)) = some y2:=hf 2 _ rfl
  rw [k] at h2'
  have h2:DataW.trod enc Try.prog w base sp held n 3 [c2] = some y2:=h2'
  have h3':DataW.trod enc Try.prog w base sp held n 3 (([c0,c1,c2,c3,c4,c5,c6].drop 3).take (Try.prog.cellsOf 3)) = some y3:=hf 3 _ rfl
  rw [k] at h3'
  have h3:DataW.trod enc Try.prog w base sp held n 3 [c3] = some y3:=h3'
  have h4':DataW.trod enc Try.prog w base sp held n 3 (([c0,c1,c2,c3,c4,c5,c6].drop 4).take (Try.prog.cellsOf 3)) = some y4:=hf 4 _ rfl
  rw [k] at h4'
  have h4:DataW.trod enc Try.prog w base sp held n 3 [c4] = some y4:=h4'
  have h5':DataW.trod enc Try.prog w base sp held n 3 (([c0,c1,c2,c3,c4,c5,c6].drop 5).take (Try.prog.cellsOf 3)) = some y5:=hf 5 _ rfl
  rw [k] at h5'
  have h5:DataW.trod enc Try.prog w base sp held n 3 [c5] = some y5:=h5'
  have h6':DataW.trod enc Try.prog w base sp held n 3 (([c0,c1,c2,c3,c4,c5,c6].drop 6).take (Try.prog.cellsOf 3)) = some y6:=hf 6 _ rfl
  rw [k] at h6'
  have h6:DataW.trod enc Try.prog w base sp held n 3 [c6] = some y6:=h6'
  obtain ⟨a0,e0,_,w0⟩:=DataW.trod_int Try.underlying3 h0
  obtain rfl:=List.cons.inj e0 |>.1
  obtain ⟨a1,e1,_,w1⟩:=DataW.trod_int Try.underlying3 h1
  obtain rfl:=List.cons.inj e1 |>.1
  obtain ⟨a2,e2,_,w2⟩:=DataW.trod_int Try.underlying3 h2
  obtain rfl:=List.cons.inj e2 |>.1
  obtain ⟨a3,e3,_,w3⟩:=DataW.trod_int Try.underlying3 h3
  obtain rfl:=List.cons.inj e3 |>.1
  obtain ⟨a4,e4,_,w4⟩:=DataW.trod_int Try.underlying3 h4
  obtain rfl:=List.cons.inj e4 |>.1
  obtain ⟨a5,e5,_,w5⟩:=DataW.trod_int Try.underlying3 h5
  obtain rfl:=List.cons.inj e5 |>.1
  obtain ⟨a6,e6,_,w6⟩:=DataW.trod_int Try.underlying3 h6
  obtain rfl:=List.cons.inj e6 |>.1
  exact ⟨⟨a0,a1,a2,a3,a4,a5,a6⟩,rfl,⟨wf_i64 w1,wf_i64 w2,wf_i64 w3,wf_i64 w4,wf_i64 w5,wf_i64 w6⟩,wf_i64 w0⟩
theorem reads_pcs:Reads enc w base sp held 22 (fun cs (l:List Pc) => ∃ v,cs = [v]∧SlOf w 7 (fun cs p => RPc cs p∧PcF p) v l) :=
 reads_slice (k:=7) Try.underlying22 (by kernel_rfl) (by omega) (of_decide_eq_true (by kernel_rfl)) reads_pc
theorem SlOf.both {α:Type} {w:World} {k:Nat} {R:List Value → α → Prop} {Q:α → Prop} {v:Value} {l:List α} (h:SlOf w k (fun cs p => R cs p∧Q p) v l):SlOf w k R v l∧∀ p ∈ l,Q p:=by
 refine ⟨h.turn rfl fun i _ _ cs hc => hc.1,fun p hp => ?_⟩
 obtain ⟨i,hi,rfl⟩:=List.getElem_of_mem hp
 obtain ⟨a,c,rfl,_⟩:=h.out
 obtain ⟨_,_,cs,_,_,hR,_⟩:=h.at i hi
 exact hR.2
theorem open_pcs {v:Value} {d:DataW H} {p:List MemPlace} (h:DataW.Trod enc Try.prog w base sp held 22 v d p) (hw:∀ n ∈ d.weights Try.prog 22,n ≤ reachBytes) (hc:v.cells = #[v]) :
  ∃ l:List Pc,SlOf w 7 RPc v l∧∀ p ∈ l,PcF p:=by
 obtain ⟨fuel,hf⟩:=h
 obtain ⟨l,v',e,hs⟩:=reads_pcs fuel _ _ hf hw
 rw [hc] at e
 simp at e
 subst e
 exact ⟨l,hs.both⟩
end
end Go.Proofs.Ytglfpnnfcpnmoaa
