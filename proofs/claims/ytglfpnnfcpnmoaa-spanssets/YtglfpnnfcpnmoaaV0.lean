/-
  Where values are needed, in plain terms (P3): tables of marks, and what the rounds end in. No Go in here.
-/
import Derived.Test.YtglfpnnfcpnmoaaF1
namespace Go.Proofs.Ytglfpnnfcpnmoaa
open Go.RowKit
set_option linter.unusedVariables false
def oprU (l:List Opr):List Int:=(l.filter fun o => decide (o.kind = 1)).map (·.value)
def insU (l:List Ins):List Int:=l.flatMap fun x => oprU x.operands
def argsU (l:List Edg):List Int:=l.flatMap (·.args)
def blkA (bs:List Blk) (b:Nat):Blk:=bs.getD b ⟨[],[],[]⟩
theorem blkA_at {bs:List Blk} {b:Nat} (h:b < bs.length):blkA bs b = bs[b]:=by
 unfold blkA
 rw [List.getD_eq_getElem?_getD,List.getElem?_eq_getElem h]
 rfl
abbrev Tb:=Nat → Nat → Bool
def upT (T:Tb) (b v:Nat):Tb:=fun b' v' => if b' = b∧v' = v then true else T b' v'
def orL (T:Tb) (b:Nat) (l:List Int):Tb:=fun b' v => T b' v || (decide (b' = b) && decide ((v:Int) ∈ l))
def orN (M T:Tb) (b:Nat) (l:List Int):Tb:=fun b' v => T b' v || (decide (b' = b) && (!M b v && decide ((v:Int) ∈ l)))
def askT (M I:Tb) (b v:Nat):Tb:=if M b v = true then I else upT I b v
theorem orL_nil (T:Tb) (b:Nat):orL T b [] = T:=by funext b' v; simp [orL]
theorem orN_nil (M T:Tb) (b:Nat):orN M T b [] = T:=by funext b' v; simp [orN]
theorem orL_snoc (T:Tb) (b:Nat) (l:List Int) (v:Int) (hv:0 ≤ v):orL T b (l ++ [v]) = upT (orL T b l) b v.toNat:=by
 funext b' u
 unfold orL upT
 have e:((u:Int) ∈ l ++ [v]) ↔ ((u:Int) ∈ l ∨ u = v.toNat):=by
  rw [List.mem_append,List.mem_singleton]
  constructor
  ·rintro (h | h)
   ·exact Or.inl h
   ·right; omega
  ·rintro (h | h)
   ·exact Or.inl h
   ·right; omega
 by_cases hb:b' = b
 ·by_cases hu:u = v.toNat
  ·rw [if_pos ⟨hb,hu⟩]
   rw [decide_eq_true (e.2 (Or.inr hu)),decide_eq_true hb]
   simp
  ·rw [if_neg (fun h => hu h.2)]
   simp [hb,e,hu]
 ·rw [if_neg (fun h => hb h.1)]
  simp [hb]
theorem orN_snoc (M T:Tb) (b:Nat) (l:List Int) (v:Int) (hv:0 ≤ v):orN M T b (l ++ [v]) = askT M (orN M T b l) b v.toNat:=by
 funext b' u
 unfold askT
 have e:((u:Int) ∈ l ++ [v]) ↔ ((u:Int) ∈ l ∨ u = v.toNat):=by
  rw [List.mem_append,List.mem_singleton]
  constructor
  ·rintro (h | h)
   ·exact Or.inl h
   ·right; omega
  ·rintro (h | h)
   ·exact Or.inl h
   ·right; omega
 split
 ·rename_i hM
  unfold orN
  by_cases hu:u = v.toNat
  ·subst hu
   simp [hM]
  ·simp [e,hu]
 ·rename_i hM
  unfold upT orN
  by_cases hb:b' = b
  ·by_cases hu:u = v.toNat
   ·rw [if_pos ⟨hb,hu⟩]
    rw [decide_eq_true (e.2 (Or.inr hu)),decide_eq_true hb,hu]
    simp [hM]
   ·rw [if_neg (fun h => hu h.2)]
    simp [hb,e,hu]
  ·rw [if_neg (fun h => hb h.1)]
   simp [hb]
inductive NeedIn (bs:List Blk):Nat → Nat → Prop
 | use (b v:Nat) (hb:b < bs.length) (hm:¬ (v:Int) ∈ makersOf (blkA bs b)) (hu:(v:Int) ∈ insU (blkA bs b).instrs ∨ (v:Int) ∈ argsU (blkA bs b).edges):NeedIn bs b v
 | edge (b v t:Nat) (hb:b < bs.length) (hm:¬ (v:Int) ∈ makersOf (blkA bs b)) (ht:t ∈ succM bs b) (h:NeedIn bs t v):NeedIn bs b v
def NeedOut (bs:List Blk) (b v:Nat):Prop:=b < bs.length∧((v:Int) ∈ argsU (blkA bs b).edges ∨ ∃ t,t ∈ succM bs b∧NeedIn bs t v)
theorem NeedIn.iff {bs:List Blk} {b v:Nat}:NeedIn bs b v ↔ b < bs.length∧¬ (v:Int) ∈ makersOf (blkA bs b)∧((v:Int) ∈ insU (blkA bs b).instrs ∨ NeedOut bs b v):=by
 constructor
 ·intro h
  cases h with
  | use _ _ hb hm hu => exact ⟨hb,hm,hu.imp id fun h => ⟨hb,Or.inl h⟩⟩
  | edge _ _ t hb hm ht h => exact ⟨hb,hm,Or.inr ⟨hb,Or.inr ⟨t,ht,h⟩⟩⟩
 ·rintro ⟨hb,hm,h | ⟨_,h | ⟨t,ht,h⟩⟩⟩
  ·exact .use b v hb hm (Or.inl h)
  ·exact .use b v hb hm (Or.inr h)
  ·exact .edge b v t hb hm ht h
def M0 (bs:List Blk) (k:Nat):Tb:=fun b v => decide (b < k) && decide ((v:Int) ∈ makersOf (blkA bs b))
def O0 (bs:List Blk) (k:Nat):Tb:=fun b v => decide (b < k) && decide ((v:Int) ∈ argsU (blkA bs b).edges)
def I0 (bs:List Blk) (k:Nat):Tb:=fun b v => decide (b < k) && (!decide ((v:Int) ∈ makersOf (blkA bs b)) && decide ((v:Int) ∈ insU (blkA bs b).instrs ++ argsU (blkA bs b).edges))
theorem M0_succ (bs:List Blk) (k:Nat):M0 bs (k + 1) = orL (M0 bs k) k (makersOf (blkA bs k)):=by
 funext b v
 unfold M0 orL
 by_cases h:b = k
 ·subst h; simp
 ·by_cases h2:b < k
  ·have:b < k + 1:=by omega
   simp [h,h2,this]
  ·have:¬ b < k + 1:=by omega
   simp [h,h2,this]
theorem O0_succ (bs:List Blk) (k:Nat):O0 bs (k + 1) = orL (O0 bs k) k (argsU (blkA bs k).edges):=by
 funext b v
 unfold O0 orL
 by_cases h:b = k
 ·subst h; simp
 ·by_cases h2:b < k
  ·have:b < k + 1:=by omega
   simp [h,h2,this]
  ·have:¬ b < k + 1:=by omega
   simp [h,h2,this]
theorem I0_succ (bs:List Blk) (k:Nat):I0 bs (k + 1) = orN (M0 bs (k + 1)) (I0 bs k) k (insU (blkA bs k).instrs ++ argsU (blkA bs k).edges):=by
 funext b v
 unfold I0 orN
 by_cases h:b = k
 ·subst h; simp [M0]
 ·by_cases h2:b < k
  ·have:b < k + 1:=by omega
   simp [h,h2,this]
  ·have:¬ b < k + 1:=by omega
   simp [h,h2,this]
structure Mid (bs:List Blk) (I O:Tb):Prop where
 sndI:∀ b v,I b v = true → NeedIn bs b v
 sndO:∀ b v,O b v = true → NeedOut bs b v
 baseI:∀ b v:Nat,b < bs.length → ¬ (v:Int) ∈ makersOf (blkA bs b) → (v:Int) ∈ insU (blkA bs b).instrs ∨ (v:Int) ∈ argsU (blkA bs b).edges → I b v = true
 baseO:∀ b v:Nat,b < bs.length → (v:Int) ∈ argsU (blkA bs b).edges → O b v = true
 back:∀ b v:Nat,O b v = true → ¬ (v:Int) ∈ makersOf (blkA bs b) → I b v = true
theorem mid_start (bs:List Blk):Mid bs (I0 bs bs.length) (O0 bs bs.length):=by
 refine ⟨fun b v h => ?_,fun b v h => ?_,fun b v hb hm hu => ?_,fun b v hb hu => ?_,fun b v h hm => ?_⟩
 ·simp only [I0,Bool.and_eq_true,decide_eq_true_eq,Bool.not_eq_true',decide_eq_false_iff_not,List.mem_append] at h
  exact .use b v h.1 h.2.1 h.2.2
 ·simp only [O0,Bool.and_eq_true,decide_eq_true_eq] at h
  exact ⟨h.1,Or.inl h.2⟩
 ·simp only [I0,Bool.and_eq_true,decide_eq_true_eq,Bool.not_eq_true',decide_eq_false_iff_not,List.mem_append]
  exact ⟨hb,hm,hu⟩
 ·simp only [O0,Bool.and_eq_true,decide_eq_true_eq]
  exact ⟨hb,hu⟩
 ·simp only [O0,Bool.and_eq_true,decide_eq_true_eq] at h
  simp only [I0,Bool.and_eq_true,decide_eq_true_eq,Bool.not_eq_true',decide_eq_false_iff_not,List.mem_append]
  exact ⟨h.1,hm,Or.inr h.2⟩
theorem upT_true {T:Tb} {b v b' v':Nat} (h:T b' v' = true):upT T b v b' v' = true:=by
 unfold upT
 split
 ·rfl
 ·exact h
theorem upT_self (T:Tb) (b v:Nat):upT T b v b v = true:=by unfold upT; rw [if_pos ⟨rfl,rfl⟩]
theorem upT_or {T:Tb} {b v b' v':Nat} (h:upT T b v b' v' = true):(b' = b∧v' = v) ∨ T b' v' = true:=by
 unfold upT at h
 split at h
 ·exact Or.inl ‹_›
 ·exact Or.inr h
theorem Mid.hold {bs:List Blk} {I O:Tb} (h:Mid bs I O) {b v t:Nat} (hb:b < bs.length) (ht:t ∈ succM bs b) (hi:I t v = true):Mid bs (askT (M0 bs bs.length) I b v) (upT O b v):=by
 have hmade:M0 bs bs.length b v = true ↔ (v:Int) ∈ makersOf (blkA bs b):=by simp [M0,hb]
 have hge:∀ b' v',I b' v' = true → askT (M0 bs bs.length) I b v b' v' = true:=fun b' v' h1 => by
  unfold askT
  split
  ·exact h1
  ·exact upT_true h1
 refine ⟨fun b' v' h1 => ?_,fun b' v' h1 => ?_,fun b' v' hb' hm hu => hge _ _ (h.baseI b' v' hb' hm hu),fun b' v' hb' hu => upT_true (h.baseO b' v' hb' hu),fun b' v' h1 hm => ?_⟩
 ·unfold askT at h1
  split at h1
  ·exact h.sndI _ _ h1
  ·rename_i hM
   rcases upT_or h1 with ⟨rfl,rfl⟩ | h1
   ·exact .edge _ _ t hb (fun hc => hM (hmade.2 hc)) ht (h.sndI _ _ hi)
   ·exact h.sndI _ _ h1
 ·rcases upT_or h1 with ⟨rfl,rfl⟩ | h1
  ·exact ⟨hb,Or.inr ⟨t,ht,h.sndI _ _ hi⟩⟩
  ·exact h.sndO _ _ h1
 ·rcases upT_or h1 with ⟨rfl,rfl⟩ | h1
  ·unfold askT
   rw [if_neg (fun hc => hm (hmade.1 hc))]
   exact upT_self _ _ _
  ·exact hge _ _ (h.back _ _ h1 hm)
theorem Mid.ends {bs:List Blk} {I O:Tb} {nv:Nat} (h:Mid bs I O) (hc:∀ b t v,b < bs.length → t ∈ succM bs b → v < nv → I t v = true → O b v = true):(∀ b v,v < nv → (I b v = true ↔ NeedIn bs b v))∧∀ b v,v < nv → (O b v = true ↔ NeedOut bs b v):=by
 have key:∀ b v,NeedIn bs b v → v < nv → I b v = true:=fun b v hn => by
  induction hn with
  | use b v hb hm hu => intro _; exact h.baseI b v hb hm hu
  | edge b v t hb hm ht _ ih => intro hv; exact h.back b v (hc b t v hb ht hv (ih hv)) hm
 refine ⟨fun b v hv => ⟨h.sndI b v,fun hn => key b v hn hv⟩,fun b v hv => ⟨h.sndO b v,fun hn => ?_⟩⟩
 obtain ⟨hb,hn | ⟨t,ht,hn⟩⟩:=hn
 ·exact h.baseO b v hb hn
 ·exact hc b t v hb ht hv (key t v hn hv)
def cntT (n nv:Nat) (T:Tb):Nat:=((List.range n).map fun b => (List.range nv).countP (T b)).sum
theorem cntT_le (n nv:Nat) (T:Tb):cntT n nv T ≤ n * nv:=by
 unfold cntT
 induction n with
 | zero => simp
 | succ n ih =>
  rw [List.range_succ,List.map_append,List.sum_append]
  have:=List.countP_le_length (p:=T n) (l:=List.range nv)
  simp only [List.map_cons,List.map_nil,List.sum_cons,List.sum_nil,List.length_range] at this ⊢
  rw [Nat.succ_mul]
  omega
theorem countP_up (r r':Nat → Bool) (v:Nat) (h:r v = false) (he:∀ u,r' u = if u = v then true else r u):∀ m,(List.range m).countP r' = (List.range m).countP r + (if v < m then 1 else 0):=by
 intro m
 induction m with
 | zero => simp
 | succ m ih =>
  rw [List.range_succ,List.countP_append,List.countP_append,ih]
  simp only [List.countP_cons,List.countP_nil,he m]
  by_cases e:m = v
  ·subst e
   simp [h]
  ·rw [if_neg e]
   have e4:(if v < m + 1 then 1 else 0) = (if v < m then 1 else 0):=by
    by_cases e2:v < m
    ·rw [if_pos e2,if_pos (by omega)]
    ·rw [if_neg e2,if_neg (by omega)]
   rw [e4]
   omega
theorem cntT_up (n nv:Nat) (T:Tb) (b v:Nat) (hb:b < n) (hv:v < nv) (h:T b v = false):cntT n nv (upT T b v) = cntT n nv T + 1:=by
 unfold cntT
 have key:∀ m,((List.range m).map fun b' => (List.range nv).countP (upT T b v b')).sum = ((List.range m).map fun b' => (List.range nv).countP (T b')).sum + (if b < m then 1 else 0):=by
  intro m
  induction m with
  | zero => simp
  | succ m ih =>
   rw [List.range_succ,List.map_append,List.map_append,List.sum_append,List.sum_append,ih]
   simp only [List.map_cons,List.map_nil,List.sum_cons,List.sum_nil,Nat.add_zero]
   by_cases e:m = b
   ·subst e
    have:=countP_up (T m) (upT T m v m) v h (fun u => by unfold upT; simp) nv
    rw [this,if_pos hv,if_neg (by omega),if_pos (by omega)]
    omega
   ·have e2:(upT T b v m) = T m:=by
     funext u
     unfold upT
     rw [if_neg (fun hc => e hc.1)]
    rw [e2]
    by_cases e3:b < m
    ·rw [if_pos e3,if_pos (by omega)]; omega
    ·rw [if_neg e3,if_neg (by omega)]; omega
 have:=key n
 rw [if_pos hb] at this
 exact this
def rowL (nv:Nat) (r:Nat → Bool):List Int:=((List.range nv).filter r).map fun (v:Nat) => (v:Int)
theorem mem_rowL {nv:Nat} {r:Nat → Bool} {v:Nat}:(v:Int) ∈ rowL nv r ↔ v < nv∧r v = true:=by
 unfold rowL
 simp only [List.mem_map,List.mem_filter,List.mem_range]
 constructor
 ·rintro ⟨u,h,e⟩
  have:u = v:=by omega
  subst this
  exact h
 ·intro h
  exact ⟨v,h,rfl⟩
end Go.Proofs.Ytglfpnnfcpnmoaa
