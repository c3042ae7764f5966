/-
  How the mason's blocks hang together. No Go in here.
-/
import Derived.Test.YtglfpnnfcpnmoaaB2
import Derived.Test.YtglfpnnfcpnmoaaF7
namespace Go.Proofs.Ytglfpnnfcpnmoaa
open Go.RowKit
set_option linter.unusedVariables false
def scM (s:Ms) (b:Nat):List Nat:=(blkAt s b).edges.map fun e => e.block.toNat
theorem scM_eq (s:Ms):scM s = succM s.f.blocks:=rfl
structure Gi (n:Nat) (sc:Nat → List Nat) (D:Nat → List Nat):Prop where
 pos:0 < n
 lt:∀ b t,t ∈ sc b → b < n∧t < n
 self:∀ b,b < n → b ∈ D b
 low:∀ b,b < n → ∀ x ∈ D b,x < n
 back:∀ b t,t ∈ sc b → ∀ x ∈ D t,x = t ∨ x ∈ D b
 root:D 0 = [0]
 reach:∀ b,b < n → Reach sc b
 many:∀ b,2 ≤ (sc b).length → (sc b).Nodup∧∀ t ∈ sc b,∀ b',b' ≠ b → t ∉ sc b'
theorem Reach.mono {sc sc':Nat → List Nat} (h:∀ b t,t ∈ sc b → t ∈ sc' b) {b:Nat} (hb:Reach sc b):Reach sc' b:=by
 induction hb with
 | zero => exact Reach.zero
 | step _ ht ih => exact Reach.step ih (h _ _ ht)
def forkSc (n cur:Nat) (sc:Nat → List Nat) (j:Nat):List Nat:=if j = cur then [n,n + 1] else if j = n ∨ j = n + 1 then [n + 2] else sc j
def forkD (n cur:Nat) (D:Nat → List Nat) (j:Nat):List Nat:=if j < n then D j else j :: D cur
def ringSc (n cur:Nat) (sc:Nat → List Nat) (j:Nat):List Nat:=if j = cur then [n] else if j = n then [n + 1,n + 2] else if j = n + 1 then [n] else sc j
def ringD (n cur:Nat) (D:Nat → List Nat) (j:Nat):List Nat:=if j < n then D j else if j = n then n :: D cur else j :: n :: D cur
theorem Gi.none {n:Nat} {sc D:Nat → List Nat} (h:Gi n sc D) (j:Nat) (hj:n ≤ j):sc j = []:=by
 cases e:sc j with
 | nil => rfl
 | cons t r => have:=(h.lt j t (by rw [e]; exact List.mem_cons_self)).1; omega
theorem Gi.fork {n cur:Nat} {sc D:Nat → List Nat} (h:Gi n sc D) (hc:cur < n) (h0:sc cur = []):Gi (n + 3) (forkSc n cur sc) (forkD n cur D):=by
 have hpos:=h.pos
 have key:∀ b t,t ∈ forkSc n cur sc b → (b = cur∧(t = n ∨ t = n + 1)) ∨ ((b = n ∨ b = n + 1)∧t = n + 2) ∨ (b < n∧t < n∧b ≠ cur∧t ∈ sc b):=fun b t ht => by
  unfold forkSc at ht
  split at ht
  ·simp at ht; omega
  ·split at ht
   ·simp at ht; omega
   ·have:=h.lt b t ht; exact Or.inr (Or.inr ⟨this.1,this.2,by assumption,ht⟩)
 have keyR:∀ b t,t ∈ sc b → t ∈ forkSc n cur sc b:=fun b t ht => by
  have:=h.lt b t ht
  have hb:b ≠ cur:=fun e => by rw [e,h0] at ht; cases ht
  unfold forkSc
  rw [if_neg hb,if_neg (by omega)]
  exact ht
 have hD:∀ j,j < n → forkD n cur D j = D j:=fun j hj => by unfold forkD; rw [if_pos hj]
 have hN:∀ j,n ≤ j → forkD n cur D j = j :: D cur:=fun j hj => by unfold forkD; rw [if_neg (by omega)]
 refine ⟨by omega,fun b t ht => ?_,fun b hb => ?_,fun b hb x hx => ?_,fun b t ht x hx => ?_,by rw [hD 0 hpos]; exact h.root,fun b hb => ?_,fun b hb => ?_⟩
 ·have:=key b t ht; omega
 ·by_cases e:b < n
  ·rw [hD b e]; exact h.self b e
  ·rw [hN b (by omega)]; exact List.mem_cons_self
 ·by_cases e:b < n
  ·rw [hD b e] at hx; have:=h.low b e x hx; omega
  ·rw [hN b (by omega)] at hx
   rcases List.mem_cons.1 hx with rfl | hx
   ·omega
   ·have:=h.low cur hc x hx; omega
 ·rcases key b t ht with ⟨e,e2⟩ | ⟨e,e2⟩ | ⟨b1,t1,e,e2⟩
  ·rw [hN t (by omega)] at hx
   rcases List.mem_cons.1 hx with rfl | hx
   ·exact Or.inl rfl
   ·right; rw [e,hD cur hc]; exact hx
  ·rw [hN t (by omega)] at hx
   rcases List.mem_cons.1 hx with rfl | hx
   ·exact Or.inl rfl
   ·right; rw [hN b (by omega)]; exact List.mem_cons_of_mem _ hx
  ·rw [hD t t1] at hx
   rw [hD b b1]
   exact h.back b t e2 x hx
 ·have rc:Reach (forkSc n cur sc) cur:=(h.reach cur hc).mono keyR
  have ra:Reach (forkSc n cur sc) n:=rc.step (by unfold forkSc; rw [if_pos rfl]; simp)
  have rb:Reach (forkSc n cur sc) (n + 1):=rc.step (by unfold forkSc; rw [if_pos rfl]; simp)
  have re:Reach (forkSc n cur sc) (n + 2):=ra.step (by unfold forkSc; rw [if_neg (by omega),if_pos (by omega)]; simp)
  by_cases e:b < n
  ·exact (h.reach b e).mono keyR
  ·have:b = n ∨ b = n + 1 ∨ b = n + 2:=by omega
   rcases this with rfl | rfl | rfl
   ·exact ra
   ·exact rb
   ·exact re
 ·unfold forkSc at hb
  split at hb
  ·rename_i e
   subst e
   have e1:forkSc n b sc b = [n,n + 1]:=by unfold forkSc; rw [if_pos rfl]
   rw [e1]
   refine ⟨by simp,fun t ht b' hb' ht' => ?_⟩
   simp at ht
   have:=key b' t ht'
   omega
  ·split at hb
   ·simp at hb
   ·rename_i e1 e2
    have e3:forkSc n cur sc b = sc b:=by unfold forkSc; rw [if_neg e1,if_neg e2]
    rw [e3]
    obtain ⟨m1,m2⟩:=h.many b hb
    refine ⟨m1,fun t ht b' hb' ht' => ?_⟩
    have:=h.lt b t ht
    rcases key b' t ht' with k | k | ⟨_,_,_,k⟩
    ·omega
    ·omega
    ·exact m2 t ht b' hb' k
theorem Gi.ring {n cur:Nat} {sc D:Nat → List Nat} (h:Gi n sc D) (hc:cur < n) (h0:sc cur = []):Gi (n + 3) (ringSc n cur sc) (ringD n cur D):=by
 have hpos:=h.pos
 have key:∀ b t,t ∈ ringSc n cur sc b → (b = cur∧t = n) ∨ (b = n∧(t = n + 1 ∨ t = n + 2)) ∨ (b = n + 1∧t = n) ∨ (b < n∧t < n∧b ≠ cur∧t ∈ sc b):=fun b t ht => by
  unfold ringSc at ht
  split at ht
  ·simp at ht; omega
  ·split at ht
   ·simp at ht; omega
   ·split at ht
    ·simp at ht; omega
    ·have:=h.lt b t ht; exact Or.inr (Or.inr (Or.inr ⟨this.1,this.2,by assumption,ht⟩))
 have keyR:∀ b t,t ∈ sc b → t ∈ ringSc n cur sc b:=fun b t ht => by
  have:=h.lt b t ht
  have hb:b ≠ cur:=fun e => by rw [e,h0] at ht; cases ht
  unfold ringSc
  rw [if_neg hb,if_neg (by omega),if_neg (by omega)]
  exact ht
 have hD:∀ j,j < n → ringD n cur D j = D j:=fun j hj => by unfold ringD; rw [if_pos hj]
 have hH:ringD n cur D n = n :: D cur:=by unfold ringD; rw [if_neg (by omega),if_pos rfl]
 have hN:∀ j,n < j → ringD n cur D j = j :: n :: D cur:=fun j hj => by unfold ringD; rw [if_neg (by omega),if_neg (by omega)]
 refine ⟨by omega,fun b t ht => ?_,fun b hb => ?_,fun b hb x hx => ?_,fun b t ht x hx => ?_,by rw [hD 0 hpos]; exact h.root,fun b hb => ?_,fun b hb => ?_⟩
 ·have:=key b t ht; omega
 ·by_cases e:b < n
  ·rw [hD b e]; exact h.self b e
  ·by_cases e2:b = n
   ·rw [e2,hH]; exact List.mem_cons_self
   ·rw [hN b (by omega)]; exact List.mem_cons_self
 ·by_cases e:b < n
  ·rw [hD b e] at hx; have:=h.low b e x hx; omega
  ·by_cases e2:b = n
   ·rw [e2,hH] at hx
    rcases List.mem_cons.1 hx with rfl | hx
    ·omega
    ·have:=h.low cur hc x hx; omega
   ·rw [hN b (by omega)] at hx
    rcases List.mem_cons.1 hx with rfl | hx
    ·omega
    ·rcases List.mem_cons.1 hx with rfl | hx
     ·omega
     ·have:=h.low cur hc x hx; omega
 ·rcases key b t ht with ⟨e,e2⟩ | ⟨e,e2⟩ | ⟨e,e2⟩ | ⟨b1,t1,e,e2⟩
  ·rw [e2,hH] at hx
   rcases List.mem_cons.1 hx with rfl | hx
   ·exact Or.inl e2.symm
   ·right; rw [e,hD cur hc]; exact hx
  ·rw [hN t (by omega)] at hx
   rcases List.mem_cons.1 hx with rfl | hx
   ·exact Or.inl rfl
   ·right; rw [e,hH]; exact hx
  ·rw [e2,hH] at hx
   rcases List.mem_cons.1 hx with rfl | hx
   ·exact Or.inl e2.symm
   ·right; rw [hN b (by omega)]; exact List.mem_cons_of_mem _ (List.mem_cons_of_mem _ hx)
  ·rw [hD t t1] at hx
   rw [hD b b1]
   exact h.back b t e2 x hx
 ·have rc:Reach (ringSc n cur sc) cur:=(h.reach cur hc).mono keyR
  have rh:Reach (ringSc n cur sc) n:=rc.step (by unfold ringSc; rw [if_pos rfl]; simp)
  have rb:Reach (ringSc n cur sc) (n + 1):=rh.step (by unfold ringSc; rw [if_neg (by omega),if_pos rfl]; simp)
  have re:Reach (ringSc n cur sc) (n + 2):=rh.step (by unfold ringSc; rw [if_neg (by omega),if_pos rfl]; simp)
  by_cases e:b < n
  ·exact (h.reach b e).mono keyR
  ·have:b = n ∨ b = n + 1 ∨ b = n + 2:=by omega
   rcases this with rfl | rfl | rfl
   ·exact rh
   ·exact rb
   ·exact re
 ·unfold ringSc at hb
  split at hb
  ·simp at hb
  ·split at hb
   ·rename_i e1 e2
    subst e2
    have e3:ringSc b cur sc b = [b + 1,b + 2]:=by unfold ringSc; rw [if_neg e1,if_pos rfl]
    rw [e3]
    refine ⟨by simp,fun t ht b' hb' ht' => ?_⟩
    simp at ht
    have:=key b' t ht'
    omega
   ·split at hb
    ·simp at hb
    ·rename_i e1 e2 e4
     have e3:ringSc n cur sc b = sc b:=by unfold ringSc; rw [if_neg e1,if_neg e2,if_neg e4]
     rw [e3]
     obtain ⟨m1,m2⟩:=h.many b hb
     refine ⟨m1,fun t ht b' hb' ht' => ?_⟩
     have:=h.lt b t ht
     rcases key b' t ht' with k | k | k | ⟨_,_,_,k⟩
     ·omega
     ·omega
     ·omega
     ·exact m2 t ht b' hb' k
theorem scM_out {s:Ms} {b:Nat} (h:s.f.blocks.length ≤ b):scM s b = []:=by unfold scM; rw [blkAt_out h]; rfl
theorem fork_sc {B:Nat} {s:Ms} (p:Pc) (h:Good B s) (hE:(blkAt s s.cur).edges = []) (j:Nat):scM (forkM s p) j = forkSc s.f.blocks.length s.cur (scM s) j:=by
 rw [forkM_eq]
 simp only
 have hc:=pick2 p.c
 have hcl:=h.ok.cur
 generalize pickedOf p.c 2 = c at *
 obtain ⟨P0,P1,F⟩:=fork_steps p h hE c hc _ _ _ _ _ _ rfl rfl rfl rfl rfl rfl
 generalize edgeM (edgeM (blockM (blockM (blockM (layM s p) []).1 []).1 [c,0]).1 (layM s p).cur (blockM (layM s p) []).2 []) (layM s p).cur (blockM (blockM (layM s p) []).1 []).2 [] = s2 at *
 have ia:=F.ia
 have ib:=F.ib
 have ie:=F.ie
 have W1:=way_good (k:=s.f.blocks.length) (e:=s.f.blocks.length + 2) (kn:=(layM s p).known) p true F.g2 (by have:=F.len; omega) (by rw [F.ea]) F.takes (by omega) F.kval (by have:=F.g1.sm.1; omega) hc
 rw [ia,ib,ie]
 generalize hw1:wayM c (layM s p).known (s.f.blocks.length + 2) s2 p s.f.blocks.length true = w1 at *
 have W2:=way_good (k:=s.f.blocks.length + 1) (e:=s.f.blocks.length + 2) (kn:=(layM s p).known) w1.2 (decide (pickedOf p.flags 2 = 1)) W1.good (by have:=W1.len; have:=F.len; omega) (by rw [W1.other _ (by omega),F.eb]) W1.takes (by omega) (fun v hv => by obtain ⟨l,e,_⟩:=W1.vals; rw [e]; exact isValue_app (F.kval v hv)) (by have:=F.g1.sm.1; omega) hc
 generalize wayM c (layM s p).known (s.f.blocks.length + 2) w1.1 w1.2 (s.f.blocks.length + 1) (decide (pickedOf p.flags 2 = 1)) = w2 at *
 show (blkAt w2.1 j).edges.map (fun e => e.block.toNat) = _
 unfold forkSc
 by_cases hjc:j = s.cur
 ·rw [if_pos hjc,W2.other j (by omega),W1.other j (by omega)]
  obtain ⟨x,e⟩:=F.own
  rw [hjc,e]
  simp
 ·rw [if_neg hjc]
  by_cases hja:j = s.f.blocks.length
  ·rw [if_pos (Or.inl hja),W2.other j (by omega)]
   obtain ⟨v,z,xs,_,e⟩:=W1.own
   rw [hja,e,F.ea]
   simp
   omega
  ·by_cases hjb:j = s.f.blocks.length + 1
   ·rw [if_pos (Or.inr hjb)]
    obtain ⟨v,z,xs,_,e⟩:=W2.own
    rw [hjb,e,W1.other _ (by omega),F.eb]
    simp
    omega
   ·rw [if_neg (by omega),W2.other j hjb,W1.other j hja]
    by_cases hj:j < s.f.blocks.length
    ·rw [F.other j hj hjc]
     rfl
    ·rw [scM_out (by omega)]
     by_cases hj2:j = s.f.blocks.length + 2
     ·rw [hj2,F.ee]
      rfl
     ·rw [blkAt_out (by have:=F.len; omega)]
      rfl
set_option maxHeartbeats 1000000 in
theorem ring_sc {B:Nat} {s:Ms} (p:Pc) (h:Good B s) (hE:(blkAt s s.cur).edges = []) (j:Nat):scM (ringM s p) j = ringSc s.f.blocks.length s.cur (scM s) j:=by
 rw [ringM_eq]
 extract_lets c rv ru rh s1 s2 p1 s3 rb ro s4 p2 t
 have hcl:=h.ok.cur
 have hc:c = 0 ∨ c = 1:=pick2 p.c
 obtain ⟨P0,P1,F⟩:=ring_steps p p1 h hE c hc rv ru rh s1 s2 s3 rb ro _ s4 rfl rfl rfl rfl rfl rfl rfl rfl rfl rfl
 have ih:=F.ih
 have ib:=F.ib
 have io:=F.io
 have hlen:=F.len
 have hk3:=F.g3.sm.1
 have h0:Good (B + 16) { s4 with cur:=rb.2 }:=F.g4.turn rb.2 s4.known (by omega) F.g4.ok.kn F.g4.sm.1
 have hL:Lays { s4 with cur:=rb.2 } t 1:=lay_lays _ _ h0.ok
 have hT:Takes s4 rh.2 c P0 P1:=by rw [ih]; exact F.takes
 have W:=give_good p2 h0 hL (by omega) (by rw [ib,F.eb]) hT (by omega) F.kval (by omega) hc
 have key:∀ R:Ms,WayS s4 R rb.2 rh.2 c P0 P1 s3.known (B + 16) → scM { R with cur:=ro.2 } j = ringSc s.f.blocks.length s.cur (scM s) j:=fun R W => by
  show (blkAt R j).edges.map (fun e => e.block.toNat) = _
  unfold ringSc
  by_cases hjc:j = s.cur
  ·rw [if_pos hjc,W.other j (by omega)]
   obtain ⟨xs,v,u,_,e⟩:=F.own
   rw [hjc,e]
   simp
  ·rw [if_neg hjc]
   by_cases hjh:j = s.f.blocks.length
   ·rw [if_pos hjh,W.other j (by omega)]
    obtain ⟨x,e⟩:=F.head
    rw [hjh,e]
    simp
    omega
   ·rw [if_neg hjh]
    by_cases hjb:j = s.f.blocks.length + 1
    ·rw [if_pos hjb]
     obtain ⟨v,z,xs,_,e⟩:=W.own
     rw [show j = rb.2 by omega,e,ib,F.eb,ih]
     simp
    ·rw [if_neg hjb,W.other j (by omega)]
     by_cases hj:j < s.f.blocks.length
     ·rw [F.other j hj hjc]
      rfl
     ·rw [scM_out (by omega)]
      by_cases hj2:j = s.f.blocks.length + 2
      ·rw [hj2,F.eo]
       rfl
      ·rw [blkAt_out (by omega)]
       rfl
 exact key _ W
theorem Knows.nil (D:Nat → List Nat) (s:Ms) (k:Nat):Knows D s k []:=fun v hv => by cases hv
theorem Knows.app {D:Nat → List Nat} {s:Ms} {k:Nat} {a b:List Int} (h:Knows D s k a) (h':Knows D s k b):Knows D s k (a ++ b):=fun v hv => (List.mem_append.1 hv).elim (h v) (h' v)
theorem Knows.par (D:Nat → List Nat) (s:Ms) (k:Nat) (hk:k ∈ D k):Knows D s k (blkAt s k).params:=fun v hv => ⟨k,-1,Or.inl ⟨rfl,hv⟩,hk⟩
theorem give_fl {D:Nat → List Nat} {B:Nat} {t:Ms} (c:Int) (p:Pc) (e:Nat) (h:Fl D t) (g:Good B t) (hc:c = 0 ∨ c = 1) (hD:∀ b,b ∈ D b) :
  Fl D (edgeM (newestM (newestM t c p).1 0 p).1 t.cur e [(newestM t c p).2,(newestM (newestM t c p).1 0 p).2])∧Ext t (edgeM (newestM (newestM t c p).1 0 p).1 t.cur e [(newestM t c p).2,(newestM (newestM t c p).1 0 p).2]):=by
 have hp:=pair2 g c p hc
 obtain ⟨f1,x1⟩:=h.newest c p g.ok.cur (fun b _ => hD b)
 obtain ⟨f2,x2⟩:=f1.newest 0 p hp.gv.ok.cur (fun b _ => hD b)
 have hcu:(newestM (newestM t c p).1 0 p).1.cur = t.cur:=hp.lz.cur
 have hlt:t.cur < (newestM (newestM t c p).1 0 p).1.f.blocks.length:=by rw [← hcu]; exact hp.gz.ok.cur
 have kn:Knows D (newestM (newestM t c p).1 0 p).1 t.cur [(newestM t c p).2,(newestM (newestM t c p).1 0 p).2]:=fun v hv => by
  simp at hv
  rw [← hcu]
  rcases hv with rfl | rfl
  ·exact f2.kn _ hp.mv
  ·exact f2.kn _ hp.mz
 exact ⟨f2.edge _ e _ hlt kn,x1.trans (x2.trans (edge_ext _ _ _ _ hlt))⟩
theorem way_fl {D:Nat → List Nat} {B:Nat} {s:Ms} (c:Int) (kn:List Int) (e:Nat) (p:Pc) (k:Nat) (more:Bool) (h:Fl D s) (g:Good B s) (hk:k < s.f.blocks.length) (hc:c = 0 ∨ c = 1) (hD:∀ b,b ∈ D b) (hs:Knows D s k s.known) (hkn:Knows D s k kn) :
  Fl D (wayM c kn e s p k more).1∧Ext s (wayM c kn e s p k more).1:=by
 have h0:Good B { s with cur:=k }:=g.turn k s.known hk g.ok.kn g.sm.1
 have f0:Fl D { s with cur:=k }:=h.turn k s.known hs
 have fin:∀ (t:Ms) (p2:Pc) (B':Nat),Fl D t → Good B' t → Ext s t → t.cur = k → Fl D { edgeM (newestM (newestM t c p2).1 0 p2).1 k e [(newestM t c p2).2,(newestM (newestM t c p2).1 0 p2).2] with known:=kn }∧Ext s { edgeM (newestM (newestM t c p2).1 0 p2).1 k e [(newestM t c p2).2,(newestM (newestM t c p2).1 0 p2).2] with known:=kn }:=fun t p2 B' ft gt xt hcu => by
  obtain ⟨f,x⟩:=give_fl c p2 e ft gt hc hD
  rw [hcu] at f x
  have hcE:(edgeM (newestM (newestM t c p2).1 0 p2).1 k e [(newestM t c p2).2,(newestM (newestM t c p2).1 0 p2).2]).cur = k:=(pair2 gt c p2 hc).lz.cur.trans hcu
  have hx:=xt.trans x
  refine ⟨?_,hx⟩
  have:=f.turn k kn (hkn.ext hx fun b hb => hb)
  have e1:∀ (E:Ms) (k:Nat),E.cur = k → ({ E with known:=kn }:Ms) = { E with cur:=k,known:=kn }:=fun E k h => by subst h; rfl
  rw [e1 _ k hcE]
  exact this
 unfold wayM
 cases more
 ·exact fin { s with cur:=k } { p with a:=up p.a } B f0 h0 (turn_ext s k s.known) rfl
 ·exact fin (layM { s with cur:=k } { ({ p with a:=up p.a }:Pc) with op:=up p.op }) { ({ p with a:=up p.a }:Pc) with op:=up p.op } (B + 2) (f0.lay _ h0.ok.cur fun b _ => hD b) (h0.lay _) ((turn_ext s k s.known).trans (lay_ext { s with cur:=k } _ h0.ok.cur)) rfl
theorem fork_fl {D:Nat → List Nat} {B:Nat} {s:Ms} (p:Pc) (h:Fl D s) (g:Good B s) (hE:(blkAt s s.cur).edges = []) (hD:∀ b,b < s.f.blocks.length → b ∈ D b):Fl (forkD s.f.blocks.length s.cur D) (forkM s p):=by
 rw [forkM_eq]
 simp only
 have hc:=pick2 p.c
 have hcl:=g.ok.cur
 generalize pickedOf p.c 2 = c at *
 obtain ⟨P0,P1,F⟩:=fork_steps p g hE c hc _ _ _ _ _ _ rfl rfl rfl rfl rfl rfl
 obtain ⟨n,hn⟩:∃ n,s.f.blocks.length = n:=⟨_,rfl⟩
 rw [hn] at hD
 have hD':∀ b,b ∈ forkD n s.cur D b:=fun b => by
  unfold forkD
  split
  ·exact hD b (by assumption)
  ·exact List.mem_cons_self
 have hsub:∀ k,n ≤ k → ∀ b ∈ forkD n s.cur D s.cur,b ∈ forkD n s.cur D k:=fun k hk b hb => by
  unfold forkD at hb ⊢
  rw [if_pos (by omega)] at hb
  rw [if_neg (by omega)]
  exact List.mem_cons_of_mem _ hb
 have f0:Fl (forkD n s.cur D) s:=h.dom g.ok.cur fun b hb => by unfold forkD; rw [if_pos (by omega)]
 have f1:Fl (forkD n s.cur D) (layM s p):=f0.lay p g.ok.cur fun b _ => hD' b
 have kn1:Knows (forkD n s.cur D) (layM s p) s.cur (layM s p).known:=f1.kn
 have hl1:(layM s p).f.blocks.length = n:=by rw [(lay_lays s p g.ok).len,hn]
 have fe:=((f1.block []).block []).block [c,0]
 have xe:=((block_ext (layM s p) []).trans (block_ext _ [])).trans (block_ext (blockM (blockM (layM s p) []).1 []).1 [c,0])
 have hle:(blockM (blockM (blockM (layM s p) []).1 []).1 [c,0]).1.f.blocks.length = n + 3:=by rw [blockM_len,blockM_len,blockM_len,hl1]
 have hcs:(layM s p).cur < (blockM (blockM (blockM (layM s p) []).1 []).1 [c,0]).1.f.blocks.length:=by rw [hle,F.cur]; omega
 have fa:=fe.edge (layM s p).cur (blockM (layM s p) []).2 [] hcs (Knows.nil _ _ _)
 have xa:=xe.trans (edge_ext _ _ (blockM (layM s p) []).2 [] hcs)
 have hcs2:(layM s p).cur < (edgeM (blockM (blockM (blockM (layM s p) []).1 []).1 [c,0]).1 (layM s p).cur (blockM (layM s p) []).2 []).f.blocks.length:=by rw [edgeM_len]; exact hcs
 have f2:=fa.edge (layM s p).cur (blockM (blockM (layM s p) []).1 []).2 [] hcs2 (Knows.nil _ _ _)
 have x2:=xa.trans (edge_ext _ _ (blockM (blockM (layM s p) []).1 []).2 [] hcs2)
 generalize edgeM (edgeM (blockM (blockM (blockM (layM s p) []).1 []).1 [c,0]).1 (layM s p).cur (blockM (layM s p) []).2 []) (layM s p).cur (blockM (blockM (layM s p) []).1 []).2 [] = s2 at *
 have ia:=F.ia
 have ib:=F.ib
 have ie:=F.ie
 rw [hn] at ia ib ie
 have hlen:=F.len
 rw [hn] at hlen
 have ks2:∀ k,n ≤ k → Knows (forkD n s.cur D) s2 k (layM s p).known:=fun k hk => kn1.ext x2 (hsub k hk)
 have W1:=way_good (k:=s.f.blocks.length) (e:=s.f.blocks.length + 2) (kn:=(layM s p).known) p true F.g2 (by have:=F.len; omega) (by rw [F.ea]) F.takes (by omega) F.kval (by have:=F.g1.sm.1; omega) hc
 rw [hn] at W1
 obtain ⟨fw1,xw1⟩:=way_fl c (layM s p).known (n + 2) p n true f2 F.g2 (by omega) hc hD' (by rw [F.kn.2]; exact ks2 n (by omega)) (ks2 n (by omega))
 rw [ia,ib,ie,hn]
 generalize wayM c (layM s p).known (n + 2) s2 p n true = w1 at *
 obtain ⟨fw2,xw2⟩:=way_fl c (layM s p).known (n + 2) w1.2 (n + 1) (decide (pickedOf p.flags 2 = 1)) fw1 W1.good (by rw [W1.len]; omega) hc hD' (by rw [W1.kn]; exact (ks2 (n + 1) (by omega)).ext xw1 fun b hb => hb) ((ks2 (n + 1) (by omega)).ext xw1 fun b hb => hb)
 generalize wayM c (layM s p).known (n + 2) w1.1 w1.2 (n + 1) (decide (pickedOf p.flags 2 = 1)) = w2 at *
 exact fw2.turn (n + 2) _ (((ks2 (n + 2) (by omega)).ext (xw1.trans xw2) fun b hb => hb).app (Knows.par _ _ _ (hD' _)))
set_option maxHeartbeats 1000000 in
theorem ring_fl {D:Nat → List Nat} {B:Nat} {s:Ms} (p:Pc) (h:Fl D s) (g:Good B s) (hE:(blkAt s s.cur).edges = []) (hD:∀ b,b < s.f.blocks.length → b ∈ D b):Fl (ringD s.f.blocks.length s.cur D) (ringM s p):=by
 rw [ringM_eq]
 extract_lets c rv ru rh s1 s2 p1 s3 rb ro s4 p2 t
 have hcl:=g.ok.cur
 have hc:c = 0 ∨ c = 1:=pick2 p.c
 obtain ⟨P0,P1,F⟩:=ring_steps p p1 g hE c hc rv ru rh s1 s2 s3 rb ro _ s4 rfl rfl rfl rfl rfl rfl rfl rfl rfl rfl
 obtain ⟨n,hn⟩:∃ n,s.f.blocks.length = n:=⟨_,rfl⟩
 have ih:=F.ih
 have ib:=F.ib
 have io:=F.io
 have hlen:=F.len
 rw [hn] at hD ih ib io hlen hcl
 rw [hn]
 have hD':∀ b,b ∈ ringD n s.cur D b:=fun b => by
  unfold ringD
  split
  ·exact hD b (by assumption)
  ·split
   ·rename_i e; rw [e]; exact List.mem_cons_self
   ·exact List.mem_cons_self
 have hsub:∀ b ∈ ringD n s.cur D s.cur,b ∈ ringD n s.cur D n:=fun b hb => by
  unfold ringD at hb ⊢
  rw [if_pos (by omega)] at hb
  rw [if_neg (by omega),if_pos rfl]
  exact List.mem_cons_of_mem _ hb
 have hsub2:∀ k,n < k → ∀ b ∈ ringD n s.cur D n,b ∈ ringD n s.cur D k:=fun k hk b hb => by
  unfold ringD at hb ⊢
  rw [if_neg (by omega),if_pos rfl] at hb
  rw [if_neg (by omega),if_neg (by omega)]
  exact List.mem_cons_of_mem _ hb
 have f0:Fl (ringD n s.cur D) s:=h.dom g.ok.cur fun b hb => by unfold ringD; rw [if_pos (by omega)]
 have hp:=pair2 g c p hc
 obtain ⟨fv,xv⟩:=f0.newest c p g.ok.cur (fun b _ => hD' b)
 obtain ⟨fu,xu⟩:=fv.newest 0 p hp.gv.ok.cur (fun b _ => hD' b)
 have hcu:ru.1.cur = s.cur:=hp.lz.cur
 have fh:=fu.block [c,0]
 have hch:rh.1.cur = s.cur:=F.curh
 have hlt:rh.1.cur < rh.1.f.blocks.length:=F.gh.ok.cur
 have ka:Knows (ringD n s.cur D) rh.1 rh.1.cur [rv.2,ru.2]:=fun v hv => by
  have:v ∈ ru.1.known:=by
   simp at hv
   rcases hv with rfl | rfl
   ·exact hp.mv
   ·exact hp.mz
  exact fh.kn v this
 have f1:Fl (ringD n s.cur D) s1:=fh.edge rh.1.cur rh.2 [rv.2,ru.2] hlt ka
 have f2:Fl (ringD n s.cur D) s2:=f1.turn rh.2 _ ((f1.kn.ext (Ext.refl _) (by
  show ∀ b ∈ ringD n s.cur D rh.1.cur,b ∈ ringD n s.cur D rh.2
  rw [hch,ih]
  exact hsub)).app (Knows.par _ _ _ (hD' _)))
 have f3:Fl (ringD n s.cur D) s3:=f2.lay p1 F.g2.ok.cur fun b _ => hD' b
 have c3:s3.cur = n:=ih
 have k3:Knows (ringD n s.cur D) s3 n s3.known:=by have:=f3.kn; rw [c3] at this; exact this
 have fo:Fl (ringD n s.cur D) ro.1:=(f3.block []).block []
 have xo:Ext s3 ro.1:=(block_ext s3 []).trans (block_ext rb.1 [])
 have hlo:rh.2 < ro.1.f.blocks.length:=by
  have h1:ro.1.f.blocks.length = s4.f.blocks.length:=by show _ = (edgeM (edgeM ro.1 rh.2 rb.2 []) rh.2 ro.2 []).f.blocks.length; rw [edgeM_len,edgeM_len]
  omega
 have f4a:=fo.edge rh.2 rb.2 [] hlo (Knows.nil _ _ _)
 have x4a:=xo.trans (edge_ext _ rh.2 rb.2 [] hlo)
 have f4:Fl (ringD n s.cur D) s4:=f4a.edge rh.2 ro.2 [] (by rw [edgeM_len]; exact hlo) (Knows.nil _ _ _)
 have x4:Ext s3 s4:=x4a.trans (edge_ext _ rh.2 ro.2 [] (by rw [edgeM_len]; exact hlo))
 have k4:∀ k,n < k → Knows (ringD n s.cur D) s4 k s3.known:=fun k hk => k3.ext x4 (hsub2 k hk)
 have h0:Good (B + 16) { s4 with cur:=rb.2 }:=F.g4.turn rb.2 s4.known (by omega) F.g4.ok.kn F.g4.sm.1
 have f5:Fl (ringD n s.cur D) { s4 with cur:=rb.2 }:=f4.turn rb.2 s4.known (by rw [F.kn.2]; exact k4 _ (by omega))
 have ft:Fl (ringD n s.cur D) t:=f5.lay p2 h0.ok.cur fun b _ => hD' b
 have xt:Ext s4 t:=lay_ext { s4 with cur:=rb.2 } p2 h0.ok.cur
 obtain ⟨fg,xg⟩:=give_fl c p2 rh.2 ft (h0.lay p2) hc hD'
 have hx:=xt.trans xg
 exact fg.turn ro.2 s3.known ((k4 ro.2 (by omega)).ext hx fun b hb => hb)
structure Hang (s:Ms) (D:Nat → List Nat):Prop where
 gi:Gi s.f.blocks.length (scM s) D
 fl:Fl D s
theorem Hang.start (m0 m1:Int):Hang (blockM ⟨m0,m1,⟨[],[]⟩,0,[]⟩ []).1 (fun b => [b]):=by
 have hb:∀ j,blkAt (blockM ⟨m0,m1,⟨[],[]⟩,0,[]⟩ []).1 j = ⟨[],[],[]⟩:=fun j => by
  unfold blkAt blockM
  match j with
  | 0 => rfl
  | j + 1 => rfl
 have hsc:scM (blockM ⟨m0,m1,⟨[],[]⟩,0,[]⟩ []).1 = fun _ => []:=by
  funext j
  unfold scM
  rw [hb j]
  rfl
 refine ⟨?_,fun v hv => by simp [blockM] at hv,fun v b i hu => ?_⟩
 ·rw [hsc]
  refine ⟨by simp [blockM],fun b t h => by simp at h,by simp,fun b hb x hx => by simp at hx; omega,fun b t h => by simp at h,rfl,fun b hb => ?_,fun b h => by simp at h⟩
  simp [blockM] at hb
  rw [hb]
  exact Reach.zero
 ·unfold UsedAt at hu
  rw [hb] at hu
  simp at hu
theorem Hang.lay {s:Ms} {D:Nat → List Nat} (h:Hang s D) (p:Pc) (ok:MsOk s):Hang (layM s p) D:=by
 refine ⟨?_,h.fl.lay p ok.cur h.gi.self⟩
 have L:=lay_lays s p ok
 have e:scM (layM s p) = scM s:=by
  funext j
  unfold scM
  rw [(L.edges ok.cur j).1]
 rw [e,L.len]
 exact h.gi
theorem Hang.step {B:Nat} {s:Ms} {D:Nat → List Nat} (h:Hang s D) (hI:Inv B s) (p:Pc):∃ D',Hang (stepM s p) D':=by
 have h0:scM s s.cur = []:=by unfold scM; rw [hI.bare]; rfl
 unfold stepM
 simp only
 split
 ·refine ⟨forkD s.f.blocks.length s.cur D,?_,fork_fl p h.fl hI.good hI.bare h.gi.self⟩
  have e:scM (forkM s p) = forkSc s.f.blocks.length s.cur (scM s):=funext (fork_sc p hI.good hI.bare)
  rw [e,(fork_good p hI.good hI.bare).2.2]
  exact h.gi.fork hI.good.ok.cur h0
 ·split
  ·refine ⟨ringD s.f.blocks.length s.cur D,?_,ring_fl p h.fl hI.good hI.bare h.gi.self⟩
   have e:scM (ringM s p) = ringSc s.f.blocks.length s.cur (scM s):=funext (ring_sc p hI.good hI.bare)
   rw [e,(ring_good p hI.good hI.bare).2.2]
   exact h.gi.ring hI.good.ok.cur h0
  ·split
   ·exact ⟨D,h.lay p hI.good.ok⟩
   ·exact ⟨D,h⟩
theorem Hang.fold:∀ (l:List Pc) {B:Nat} {s:Ms} {D:Nat → List Nat},Hang s D → Inv B s → ∃ D',Hang (l.foldl stepM s) D'
 | [],_,_,D,h,_ => ⟨D,h⟩
 | p :: r,B,s,D,h,hI => by
  obtain ⟨D',h'⟩:=h.step hI p
  exact Hang.fold r h' (hI.step p)
theorem end_hang (m0 m1:Int) (h0:2 ≤ m0∧m0 ≤ 10) (h1:2 ≤ m1∧m1 ≤ 10) (l:List Pc):∃ D,Hang (endM m0 m1 l) D:=by
 obtain ⟨D,h⟩:=Hang.fold (l.take 24) (Hang.start m0 m1) (Inv.start m0 m1 h0 h1)
 have hI:=Inv.fold (l.take 24) (Inv.start m0 m1 h0 h1)
 exact ⟨D,h.lay _ hI.good.ok⟩
theorem filt_one (t b0:Nat) (sc:Nat → List Nat) (hn:(sc b0).Nodup) (ho:∀ b,b ≠ b0 → t ∉ sc b):∀ k,(((List.range k).flatMap fun b => (sc b).map fun t => (b,t)).filter fun p => p.2 == t).length ≤ if b0 < k then 1 else 0
 | 0 => by simp
 | k + 1 => by
  have ih:=filt_one t b0 sc hn ho k
  rw [List.range_succ,List.flatMap_append,List.filter_append,List.length_append]
  have e:(([k].flatMap fun b => (sc b).map fun t => (b,t)).filter fun p => p.2 == t).length = (sc k).count t:=by
   simp only [List.flatMap_cons,List.flatMap_nil,List.append_nil,List.filter_map,List.length_map]
   rw [List.count_eq_length_filter]
   rfl
  rw [e]
  by_cases hk:k = b0
  ·have h1:(sc k).count t ≤ 1:=by rw [hk]; exact List.nodup_iff_count.1 hn t
   rw [if_neg (by omega)] at ih
   rw [if_pos (by omega)]
   omega
  ·have h1:(sc k).count t = 0:=List.count_eq_zero.2 (ho k hk)
   by_cases h2:b0 < k
   ·rw [if_pos h2] at ih
    rw [if_pos (by omega)]
    omega
   ·rw [if_neg h2] at ih
    rw [if_neg (by omega)]
    omega
theorem Gi.fewL {s:Ms} {D:Nat → List Nat} (h:Gi s.f.blocks.length (scM s) D):manyL (predsL s.f.blocks) s.f.blocks = false:=by
 unfold manyL
 rw [List.any_eq_false]
 intro b hb
 obtain ⟨j,hj,rfl⟩:=List.getElem_of_mem hb
 unfold blkMany
 simp only [Bool.and_eq_true,decide_eq_true_eq,List.any_eq_true,not_and,not_exists]
 intro h2 e he hm
 unfold edgeMany at hm
 simp only [decide_eq_true_eq] at hm
 have hsc:scM s j = s.f.blocks[j].edges.map fun e => e.block.toNat:=by unfold scM; rw [blkAt_eq hj]
 have ht:e.block.toNat ∈ scM s j:=by rw [hsc]; exact List.mem_map_of_mem he
 obtain ⟨m1,m2⟩:=h.many j (by rw [hsc]; simpa using h2)
 have hlt:=(h.lt j _ ht).2
 have hl:((predsL s.f.blocks).getD e.block.toNat []).length ≤ 1:=by
  unfold predsL
  rw [List.getD_eq_getElem?_getD,List.getElem?_eq_getElem (by simpa using hlt)]
  simp only [List.getElem_map,List.getElem_range,Option.getD_some]
  unfold intoM
  rw [List.length_map]
  have:=filt_one e.block.toNat j (scM s) m1 (fun b hb => m2 _ ht b hb) s.f.blocks.length
  rw [if_pos hj] at this
  exact this
 omega
theorem Gi.backR {s:Ms} {D:Nat → List Nat} (h:Gi s.f.blocks.length (scM s) D):Back s.f.blocks.length (predsL s.f.blocks) 0 (fun x v => ∃ a b:Nat,x = a∧v = b∧b < s.f.blocks.length∧a ∈ D b):=by
 refine ⟨fun x v p v0 v1 hR hx hp => ?_,fun x hR => ?_⟩
 ·obtain ⟨a,b,rfl,rfl,hb,ha⟩:=hR
  rw [Int.toNat_natCast,mem_preds hb] at hp
  obtain ⟨p0,p1,ht⟩:=hp
  have:=h.back p.toNat b ht a ha
  refine ⟨a,p.toNat,rfl,by omega,by omega,this.resolve_left fun e => hx (by rw [e])⟩
 ·obtain ⟨a,b,rfl,hb,_,ha⟩:=hR
  have hb0:b = 0:=by omega
  rw [hb0,h.root] at ha
  simp at ha
  omega
theorem MadeAt.sp {s:Ms} {v:Int} {b:Nat} {i:Int} (h:MadeAt s v b i):(v,((b:Int),i)) ∈ spU s.f.blocks s.f.blocks.length:=by
 have hb:=h.in
 unfold spU
 refine List.mem_flatMap.2 ⟨b,List.mem_range.2 hb,?_⟩
 show _ ∈ blkSp b (blkAt s b)
 unfold blkSp
 rcases h with ⟨rfl,hp⟩ | ⟨k,x,rfl,hx,hv⟩
 ·exact List.mem_append_left _ (List.mem_map.2 ⟨v,hp,rfl⟩)
 ·refine List.mem_append_right _ (List.mem_flatMap.2 ⟨k,List.mem_range.2 (List.getElem?_eq_some_iff.1 hx).1,?_⟩)
  rw [List.getD_eq_getElem?_getD,hx]
  exact List.mem_map.2 ⟨v,hv,rfl⟩
theorem MadeAt.val {s:Ms} {v:Int} {b:Nat} {i:Int} (h:MadeAt s v b i):v ∈ allM s.f.blocks:=by
 have:=List.mem_map_of_mem (f:=fun p:Int × Spot => p.1) h.sp
 rw [sp_vals] at this
 exact this
theorem hang_flow {s:Ms} {D:Nat → List Nat} (h:Hang s D) (hs:shapeErr s.f s.m0 s.m1 = 0):flowE s.f s.m0 s.m1 (s.f.blocks.length * s.f.blocks.length + 1) = 0:=by
 have S:=shape_in hs
 have I:=flowIn_all hs
 have hlen:s.f.blocks.length ≤ (orderM s.f.blocks).length:=(order_full s.f.blocks S.pos I.suc).2 h.gi.reach
 have g:=(I.gr hlen).1
 have hroot:=order_first s.f.blocks S.pos I.suc
 have hnod:=(marks_free _ _ _ S.mks).2
 have hup:∀ a b:Nat,b < s.f.blocks.length → a ∈ D b → domM (idomF s.f (s.f.blocks.length * s.f.blocks.length + 1)) (s.f.blocks.length + 1) a b = true:=fun a b hb ha => by
  unfold idomF
  rw [dom_end g (by omega) (by omega) (by omega) (by omega)]
  have hR:=h.gi.backR
  rw [← hroot] at hR
  have hm:=(kt_at g (s.f.blocks.length * s.f.blocks.length + 1)).rng (b:Int) (by omega) (by omega)
  exact back_up g hR (s.f.blocks.length * s.f.blocks.length) s.f.blocks.length b a (by omega) (by omega) (by omega) ⟨a,b,rfl,rfl,hb,ha⟩
 have ahead:∀ (v:Int) (b:Nat) (i:Int),UsedAt s v b i → aheadM (idomF s.f (s.f.blocks.length * s.f.blocks.length + 1)) s.f.blocks.length (spotOf (spU s.f.blocks s.f.blocks.length) v.toNat) ((b:Int),i) = true:=fun v b i hu => by
  obtain ⟨b',i',h1,h2⟩:=h.fl.uses v b i hu
  have v0:=(isValue_bd (marks_val _ _ _ S.mks v h1.val)).1
  rw [spot_is hnod v0 h1.sp]
  unfold aheadM
  simp only
  rcases h2 with ⟨rfl,hlt⟩ | ⟨hne,hD⟩
  ·rw [if_pos rfl]
   simpa using hlt
  ·rw [if_neg (by omega)]
   exact hup b' b hu.in hD
 unfold flowE
 rw [hs,if_neg (by simp),if_neg (by omega),h.gi.fewL,if_neg (by simp),if_pos]
 unfold madeL
 rw [List.all_eq_true]
 intro b hb
 unfold blkOk
 have eb:s.f.blocks.getD b ⟨[],[],[]⟩ = blkAt s b:=rfl
 rw [eb]
 simp only [Bool.and_eq_true,List.all_eq_true,List.mem_range]
 refine ⟨fun i hi => ?_,fun e he => ?_⟩
 ·unfold insOk
  rw [List.all_eq_true]
  intro o ho
  rw [List.getD_eq_getElem?_getD,List.getElem?_eq_getElem hi] at ho
  unfold useOk
  by_cases hk:o.kind = 1
  ·simp only [hk,BEq.rfl,Bool.not_true,Bool.false_or]
   exact ahead o.value b i (Or.inl ⟨i,_,rfl,List.getElem?_eq_getElem hi,o,ho,hk,rfl⟩)
  ·simp [hk]
 ·unfold edgOk
  rw [List.all_eq_true]
  intro v hv
  exact ahead v b _ (Or.inr ⟨rfl,e,he,hv⟩)
theorem mason_flow (m0 m1:Int) (h0:2 ≤ m0∧m0 ≤ 10) (h1:2 ≤ m1∧m1 ≤ 10) (l:List Pc):flowE (masonM m0 m1 l) m0 m1 ((masonM m0 m1 l).blocks.length * (masonM m0 m1 l).blocks.length + 1) = 0:=by
 obtain ⟨D,h⟩:=end_hang m0 m1 h0 h1 l
 have hs:=mason_shape m0 m1 h0 h1 l
 rw [masonM_eq] at hs ⊢
 have hm:=end_m m0 m1 l
 have:=hang_flow h (by rw [hm.1,hm.2]; exact hs)
 rw [hm.1,hm.2] at this
 exact this
end Go.Proofs.Ytglfpnnfcpnmoaa
