import PyProof.Rows.All
import KE.RegKIsAll
import KE.RegKTryMore
import KE.KNestM
import KE.KSortKey
import KE.KLam
import PySem.Challenge.RW_paceplan_k39_bounds_of_prices
set_option Elab.async false
set_option linter.all false
set_option maxRecDepth 100000
theorem xg {α β γ:Type} {o:Option α} {f:α->β} {g:α->γ} {a:β} {b:γ} (h1:o.map f=some a) (h2:o.map g=some b):o.map (fun s=>(f s,g s))=some (a,b):=by
 cases o with
 | none=>cases h1
 | some x=>cases h1;cases h2;rfl
namespace HW
open PySem
def keep:List Nat:=[1,3,4,5,7,8,9,10,11,12,13,14,15,16,17,18,20,21,22,23,24,25,27,28,30,31,33,34,35,36,37,38,39,40,41,42,43,44,45,46,47,48,49,50,51]
def V:Program:=PySem.W.view PySem.Challenge.pw_paceplan_k39_bounds_of_prices keep
end HW
section HWs
open PySem PySem.W PyProof.Rows
set_option maxHeartbeats 0 in
theorem HWa:∀ w:World,(openEnds treeTable PySem.Challenge.rw_paceplan_k39_bounds_of_prices.row.prog w 4016).map (fun s=>openSeen HW.V [] (importedModules PySem.Challenge.rw_paceplan_k39_bounds_of_prices.row.prog.main.body) (fun s=>xlAt HW.V [] s && recOk PySem.Challenge.rw_paceplan_k39_bounds_of_prices.row.records s) true s)=some (openGood HW.V []):=by
 intro w
 delta openEnds fencedOpening topFrom
 rw [PySem.W.Fast.te14364793385576792824,PySem.W.Fast.te14082659384304107361,PySem.W.Fast.te10274390034422433532,PySem.W.Fast.te1435165496053646825,PySem.W.Fast.te14289696077712309145,PySem.W.Fast.te4187177175401517315]
 kernel_rfl
local macro_rules
 | `(tactic| o_head $H:term) => `(tactic| (
   refine holds_open (q:=HW.V) (loose:=[]) (N:=4016)
    (Xt:=fun s=>xlAt HW.V [] s && recOk (RowW.records (OpenRow.toRowW (OpenLaw.row PySem.Challenge.rw_paceplan_k39_bounds_of_prices))) s)
    (XP:=XL HW.V []) (Yf:=Hook.obs $H) (Ya:=Hook.val $H) (YP:=Hook.says $H)
    ?hl (Hook.of $H) (Hook.keeps $H)
    (fun s e=>xl_of s (Bool.and_eq_true_iff.mp e).1) XL.keeps
    (by rfl) (by rfl) (by rfl)
    (fun s e=>recFacts_of (Bool.and_eq_true_iff.mp e).2) (by rfl) (by assumption) (by decide +kernel)
    ⟨rfl,rfl,rfl,rfl,rfl,by decide +kernel⟩ ?hw ?hc
   (case hl=>
    intro w
    refine xg (HWa w) ?_
    delta openEnds fencedOpening topFrom
    rw [PySem.W.Fast.te14364793385576792824,PySem.W.Fast.te14082659384304107361,PySem.W.Fast.te10274390034422433532,PySem.W.Fast.te1435165496053646825,PySem.W.Fast.te14289696077712309145]
    kernel_rfl)))
set_option maxHeartbeats 0 in
open_top HWtop for PySem.Challenge.rw_paceplan_k39_bounds_of_prices
end HWs
theorem Bn:1≤PySem.sizeLine:=by decide
theorem cY:2≤PySem.sizeLine:=by decide
theorem xN:3≤PySem.sizeLine:=by decide
theorem Dl:4≤PySem.sizeLine:=by decide
theorem Eu:5≤PySem.sizeLine:=by decide
theorem Fp:6≤PySem.sizeLine:=by decide
theorem jb:1000≤PySem.sizeLine:=by decide
namespace L2
open PySem PySem.Spec PyProof.Rows
abbrev cV:=Sum Int Str
def jC:cV->Value->Bool
 | .inl k,v=>Value.isInt k v
 | .inr x,v=>Value.isStrOf x v
def DU (w:World):cV->Int
 | .inl k=>hashInt k
 | .inr x=>hashStr w x
theorem bR:∀ {k:cV} {v:Value},jC k v=true->(∃ i t,k=Sum.inl i/\v=Value.int i t)∨(∃ x t,k=Sum.inr x/\v=Value.str x t)
 | .inl i,v,h=>by
  obtain⟨t,e⟩:=Value.isInt_shape (k:=i) (v:=v) h
  exact .inl ⟨i,t,rfl,e⟩
 | .inr x,v,h=>by
  obtain⟨t,e⟩:=Value.isStrOf_shape (x:=x) (v:=v) h
  exact .inr ⟨x,t,rfl,e⟩
theorem qG (i:Int) (t:Tok):jC (.inl i) (.int i t)=true:=by simp [jC,Value.isInt]
theorem qF (x:Str) (t:Tok):jC (.inr x) (.str x t)=true:=by simp [jC,Value.isStrOf]
theorem AJ (a b:Int):decide ((Sum.inl a:cV)=Sum.inl b)=(a == b):=by
 by_cases e:a=b
 ·subst e;simp
 ·have h:¬ (Sum.inl a:cV)=Sum.inl b:=fun q=>e (Sum.inl.inj q)
  rw [decide_eq_false h]
  exact (beq_eq_false_iff_ne.mpr e).symm
theorem AG (a b:Str):decide ((Sum.inr a:cV)=Sum.inr b)=decide (a=b):=by
 by_cases e:a=b
 ·subst e;simp
 ·have h:¬ (Sum.inr a:cV)=Sum.inr b:=fun q=>e (Sum.inr.inj q)
  rw [decide_eq_false h,decide_eq_false e]
theorem AI (a:Int) (b:Str):decide ((Sum.inl a:cV)=Sum.inr b)=false:=decide_eq_false (fun q=>nomatch q)
theorem AH (a:Str) (b:Int):decide ((Sum.inr a:cV)=Sum.inl b)=false:=decide_eq_false (fun q=>nomatch q)
def bQ (prog:Program) (w:World):PySem.KeyKind prog w cV where
 is:=jC
 hash:=DU w
 inj:=fun v a b ha hb=>by
  rcases bR ha with ⟨i,t,rfl,rfl⟩ | ⟨x,t,rfl,rfl⟩
  ·rcases bR hb with ⟨j,u,rfl,e⟩ | ⟨y,u,rfl,e⟩
   ·injection e with e1 _;rw [e1]
   ·exact nomatch e
  ·rcases bR hb with ⟨j,u,rfl,e⟩ | ⟨y,u,rfl,e⟩
   ·exact nomatch e
   ·injection e with e1 _;rw [e1]
 byValue:=fun k v h=>by
  rcases bR h with ⟨i,t,rfl,rfl⟩ | ⟨x,t,rfl,rfl⟩ <;> rfl
 pyHash:=fun hv h=>by
  rcases bR hv with ⟨i,t,rfl,rfl⟩ | ⟨x,t,rfl,rfl⟩
  ·exact wpAny_pyHash_int h
  ·exact wpAny_pyHash_str h
 eqBool:=fun hu hv h=>by
  rcases bR hu with ⟨i,t,rfl,rfl⟩ | ⟨x,t,rfl,rfl⟩
  ·rcases bR hv with ⟨j,u,rfl,rfl⟩ | ⟨y,u,rfl,rfl⟩
   ·rw [AJ] at h;exact wpAny_eqBool_int h
   ·rw [AI] at h;exact SeqAt.EqAt.int_str i t y u _ _ _ _ h
  ·rcases bR hv with ⟨j,u,rfl,rfl⟩ | ⟨y,u,rfl,rfl⟩
   ·rw [AH] at h;exact SeqAt.EqAt.str_int x t j u _ _ _ _ h
   ·rw [AG] at h;exact wpAny_eqBool_str h
 «strs»:=fun k x t v h=>by
  rcases bR h with ⟨i,u,rfl,e⟩ | ⟨y,u,rfl,e⟩
  ·exact nomatch e
  ·injection e with e1 _
   subst e1
   cases v <;> rfl
theorem mH (prog:Program) (w:World) (i:Int) (t:Tok):(bQ prog w).is (.inl i) (.int i t)=true:=qG i t
theorem mG (prog:Program) (w:World) (x:Str) (t:Tok):(bQ prog w).is (.inr x) (.str x t)=true:=qF x t
end L2
namespace L2
open PySem PySem.Spec PyProof.Rows
inductive V where
 | non | bl (b:Bool) | int (i:Int) | str (x:Str) | byt (b:Array UInt8) | flt (b:UInt64) | ref (a:Addr) | ty (n:String)
 deriving DecidableEq
def aY:V->Value->Prop
 | .non,u=>u=Value.none
 | .bl b,u=>u=Value.bool b
 | .int i,u=>∃ t,u=Value.int i t
 | .str x,u=>∃ t,u=Value.str x t
 | .byt b,u=>∃ t,u=Value.bytes b t
 | .flt b,u=>∃ t,u=Value.float b t
 | .ref a,u=>u=Value.ref a
 | .ty n,u=>u=Value.type n
abbrev bg:List V->List Value->Prop:=Paired aY
theorem bg.length {xs:List V} {us:List Value} (r:bg xs us):xs.length=us.length:=Paired.length r
theorem bg.get:∀ {xs:List V} {us:List Value} {i:Nat} {x:V},bg xs us->xs[i]?=some x->∃ u,us[i]?=some u/\aY x u
 | _,_,_,_,.nil,e=>by simp at e
 | _,_,0,_,.cons r _,e=>by simp at e;subst e;exact⟨_,rfl,r⟩
 | _,_,i+1,x,.cons _ t,e=>by
  obtain⟨u,h1,h2⟩:=bg.get (i:=i) (x:=x) t (by simpa using e)
  exact⟨u,by simpa using h1,h2⟩
theorem bg.set {x:V} {u:Value} (r:aY x u):∀ {xs:List V} {us:List Value} (i:Nat),bg xs us->bg (xs.set i x) (us.set i u)
 | _,_,_,.nil=>.nil
 | _,_,0,.cons _ t=>.cons r t
 | _,_,i+1,.cons q t=>.cons q (bg.set r i t)
theorem bg.append:∀ {xs ys:List V} {us ws:List Value},bg xs us->bg ys ws->bg (xs++ys) (us++ws)
 | _,_,_,_,.nil,s=>s
 | _,_,_,_,.cons r t,s=>.cons r (bg.append t s)
theorem bg.take:∀ {xs:List V} {us:List Value} (n:Nat),bg xs us->bg (xs.take n) (us.take n)
 | _,_,0,_=>.nil
 | _,_,_+1,.nil=>.nil
 | _,_,n+1,.cons r t=>.cons r (bg.take n t)
theorem bg.drop:∀ {xs:List V} {us:List Value} (n:Nat),bg xs us->bg (xs.drop n) (us.drop n)
 | _,_,0,r=>r
 | _,_,_+1,.nil=>.nil
 | _,_,n+1,.cons _ t=>bg.drop n t
def jV:Option V->Option Value->Prop
 | some v,some u=>aY v u
 | none,none=>True
 | _,_=>False
def KV {κ:Type}:List (κ×V)->List (κ×Value)->Prop:=Paired fun (p:κ×V) (q:κ×Value)=>p.1=q.1/\aY p.2 q.2
def kV:cV->V
 | .inl i=>.int i
 | .inr x=>.str x
inductive HO where
 | lst (xs:List V)
 | tup (xs:List V)
 | dK (kvs:List (cV×V)) | dT (kvs:List (List cV×V))
 | set (S:Int->Bool) (n:Nat)
 | ins (C dx:Addr) (fs:List (Str×V))
 | own (x:Addr)
 | xd (fs:List (Str×V))
 | met (f x:Addr)
 | rng (lo hi:Int)
 | frz (o:Obj) (u:HO)
 | tbl (ps:Array Value)
 | ext (φ:Heap->Prop)
abbrev Hp:=Addr->Option HO
def ax (H:Hp) (a:Addr) (o:HO):Hp:=fun b=>if b=a then some o else H b
theorem ah {H:Hp} {a:Addr} {o:HO}:ax H a o a=some o:=by unfold ax;rw [if_pos rfl]
theorem aD {H:Hp} {a b:Addr} {o:HO} (h:b≠a):ax H a o b=H b:=by unfold ax;rw [if_neg h]
theorem iV {H:Hp} {a:Addr} {o u:HO}:ax (ax H a o) a u=ax H a u:=by
 funext b;unfold ax;split <;> rfl
theorem Cj {H:Hp} {a b:Addr} {o u:HO} (h:H a=some o) (h':H b=some u) (d:o≠u):a≠b:=by
 intro e;subst e;rw [h] at h';exact d (Option.some.inj h')
theorem aB {H:Hp} {a b:Addr} {o:HO} (h:H a=some o) (h':H b=none):a≠b:=by
 intro e;subst e;rw [h] at h';cases h'
section
variable (P:Program) (w:World)
def bJ (H:Hp) (h:Heap) (a:Addr):HO->Prop
 | .lst xs=>xs.length≤sizeLine/\∃ (its:List Value) (n:Nat),bg xs its/\h.get? a=some { cls:=.type "list", data:=.seq its.toArray n }
 | .tup xs=>xs.length≤sizeLine/\∃ its:List Value,bg xs its/\IsTup h a its.toArray
 | .dK kvs=>kvs.length≤sizeLine/\(a == sysModules)=false/\∃ vs,KV kvs vs/\h.DictOf (bQ P w) a vs
 | .dT kvs=>kvs.length≤sizeLine/\(a == sysModules)=false/\∃ xs:List (List cV×Addr×Value),
   Paired (fun (p:List cV×V) (q:List cV×Addr×Value)=>p.1=q.1/\H q.2.1=some (.tup (p.1.map kV))/\aY p.2 q.2.2) kvs xs∧
   ∃ o es ep,h.get? a=some o/\o.ExactDict/\o.data=.dict es ep/\es.toList=xs.map (entryOfKey (tupleKind (bQ P w)))/\(xs.map (·.1)).Nodup
 | .set S n=>h.SetOf (intKind P w) a S n
 | .ins C dx fs=>H dx=some (.own a)/\fs.length≤1000/\dx≠a/\h.get? a=some (PySem.W.instObj C dx)∧
   ∃ mA,h.Ns1 dx mA/\(∀ f,jV (fs.lookup f) (mA f))/\PySem.Within mA (fs.map (·.1))
 | .own _=>∃ o,h.get? a=some o
 | .xd fs=>∃ mA,h.Ns1 a mA/\∀ f,jV (fs.lookup f) (mA f)
 | .rng lo hi=>∃ t u v,h.get? a=some { cls:=.type "range", data:=.fields #[.int lo t,.int hi u,.int 1 v] }
 | .frz o u=>h.get? a=some o/\bJ H h a u
 | .tbl ps=>h.get? a=some { cls:=.none,data:=.fields ps }
 | .met f x=>h.get? a=some (PySem.W.methodObj (.ref f) (.ref x))
 | .ext φ=>φ h/\(∃ o,h.get? a=some o)/\∀ h1 h2:Heap,φ h1->(∀ o,h1.get? a=some o->h2.get? a=some o)->φ h2
def gD (H:Hp) (h:Heap):Prop:=∀ a o,H a=some o->bJ P w H h a o
end
section
variable {P:Program} {w:World} {H H':Hp} {h h':Heap} {a:Addr} {o:HO}
theorem bJ.lt (x:bJ P w H h a o):a < h.objs.size:=by
 cases o with
 | lst xs=>obtain⟨_,_,_,_,e⟩:=x;exact Heap.lt_size e
 | tup xs=>obtain⟨_,_,_,p⟩:=x;exact p.lt
 | dK kvs=>obtain⟨_,_,_,_,o,_,_,e,_⟩:=x;exact Heap.lt_size e
 | dT kvs=>obtain⟨_,_,_,_,o,_,_,e,_⟩:=x;exact Heap.lt_size e
 | set S n=>obtain⟨o,_,_,_,e,_⟩:=x;exact Heap.lt_size e
 | ins C dx fs=>obtain⟨_,_,_,e,_⟩:=x;exact Heap.lt_size e
 | own y=>obtain⟨_,e⟩:=x;exact Heap.lt_size e
 | xd fs=>obtain⟨_,⟨_,_,_,e,_⟩,_⟩:=x;exact Heap.lt_size e
 | rng lo hi=>obtain⟨_,_,_,e⟩:=x;exact Heap.lt_size e
 | frz ob u=>obtain⟨e,_⟩:=x;exact Heap.lt_size e
 | tbl ps=>exact Heap.lt_size (show h.get? a=some _ from x)
 | met f y=>exact Heap.lt_size (show h.get? a=some _ from x)
 | ext φ=>obtain⟨_,⟨_,e⟩,_⟩:=x;exact Heap.lt_size e
theorem Paired.mapP {α β:Type} {F G:α->β->Prop}:∀ {l₁:List α} {l₂:List β},Paired F l₁ l₂->(∀ a b,F a b->G a b)->Paired G l₁ l₂
 | _,_,.nil,_=>.nil
 | _,_,.cons r t,f=>.cons (f _ _ r) (Paired.mapP t f)
theorem bJ.stay (x:bJ P w H h a o) (k:∀ b u,(b=a∨H b=some (.own a))->h.get? b=some u->h'.get? b=some u)
  (ho:∀ b,H b=some (.own a)->H' b=some (.own a)) (ht:∀ b xs,H b=some (.tup xs)->H' b=some (.tup xs)):bJ P w H' h' a o:=by
 induction o with
 | lst xs=>obtain⟨z,its,n,r,e⟩:=x;exact⟨z,its,n,r,k _ _ (.inl rfl) e⟩
 | tup xs=>obtain⟨z,its,r,ob,e,c⟩:=x;exact⟨z,its,r,ob,k _ _ (.inl rfl) e,c⟩
 | dK kvs=>obtain⟨z,y,vs,r,ob,es,ep,e,c⟩:=x;exact⟨z,y,vs,r,ob,es,ep,k _ _ (.inl rfl) e,c⟩
 | dT kvs=>
  obtain⟨z,y,xs,r,ob,es,ep,e,c⟩:=x
  exact⟨z,y,xs,Paired.mapP r fun p q z=>⟨z.1,ht _ _ z.2.1,z.2.2⟩,ob,es,ep,k _ _ (.inl rfl) e,c⟩
 | set S n=>obtain⟨ob,es,ep,t,e,c⟩:=x;exact⟨ob,es,ep,t,k _ _ (.inl rfl) e,c⟩
 | ins C dx fs=>
  obtain⟨d,z,ne,e,mA,⟨od,es,ep,e2,c⟩,r⟩:=x
  exact⟨ho _ d,z,ne,k _ _ (.inl rfl) e,mA,⟨od,es,ep,k _ _ (.inr d) e2,c⟩,r⟩
 | own y=>obtain⟨ob,e⟩:=x;exact⟨ob,k _ _ (.inl rfl) e⟩
 | xd fs=>obtain⟨mA,⟨od,es,ep,e,c⟩,r⟩:=x;exact⟨mA,⟨od,es,ep,k _ _ (.inl rfl) e,c⟩,r⟩
 | rng lo hi=>obtain⟨t,u,v,e⟩:=x;exact⟨t,u,v,k _ _ (.inl rfl) e⟩
 | frz ob u ih=>obtain⟨e,q⟩:=x;exact⟨k _ _ (.inl rfl) e,ih q⟩
 | tbl ps=>
  have e:h.get? a=some { cls:=.none,data:=.fields ps }:=x
  show h'.get? a=some { cls:=.none,data:=.fields ps }
  exact k a _ (.inl rfl) e
 | met f y=>
  have e:h.get? a=some (PySem.W.methodObj (.ref f) (.ref y)):=x
  show h'.get? a=some (PySem.W.methodObj (.ref f) (.ref y))
  exact k a _ (.inl rfl) e
 | ext φ=>obtain⟨p,⟨o,e⟩,st⟩:=x;exact⟨st _ _ p fun o q=>k _ _ (.inl rfl) q,⟨o,k _ _ (.inl rfl) e⟩,st⟩
theorem gD.lt (x:gD P w H h) (e:H a=some o):a < h.objs.size:=(x a o e).lt
theorem gD.fresh (x:gD P w H h) (e:h.objs.size≤a):H a=none:=by
 cases q:H a with
 | none=>rfl
 | some u=>exact absurd (Nat.lt_of_lt_of_le (x.lt q) e) (Nat.lt_irrefl _)
theorem gD.kept (x:gD P w H h) (k:∀ b u,h.get? b=some u->h'.get? b=some u):gD P w H h':=fun a o e=>
 (x a o e).stay (fun b u _ q=>k b u q) (fun _ q=>q) fun _ _ q=>q
theorem gD.laid (x:gD P w H h) (k:∀ b u,h.get? b=some u->h'.get? b=some u) (hp:h.objs.size≤a) (new:bJ P w (ax H a o) h' a o):gD P w (ax H a o) h':=fun b u e=>by
 have hn:=x.fresh hp
 by_cases hb:b=a
 ·subst hb;rw [ah] at e;cases e;exact new
 ·rw [aD hb] at e
  exact (x b u e).stay (fun c v _ q=>k c v q) (fun c q=>by rw [aD (aB q hn)];exact q) fun c xs q=>by rw [aD (aB q hn)];exact q
end
def Rd (H:Hp) (a:Addr) (u:HO):Prop:=H a=some u∨∃ o,H a=some (.frz o u)
theorem Rd.ok {P:Program} {w:World} {H:Hp} {h:Heap} {a:Addr} {u:HO} (r:Rd H a u) (x:gD P w H h):bJ P w H h a u:=by
 rcases r with r | ⟨o,r⟩
 ·exact x a u r
 ·obtain⟨_,q⟩:=x a _ r
  exact q
def CM:Option HO->Prop
 | some (.lst _)=>True
 | some (.dK _)=>True
 | some (.dT _)=>True
 | some (.set _ _)=>True
 | some (.ins _ _ _)=>True
 | some (.ext _)=>True
 | _=>False
section
variable {P:Program} {w:World} {H:Hp} {h h':Heap} {x e:Addr} {o':HO}
theorem gD.write (ok:gD P w H h) (mu:CM (H x)) (he:e=x∨H e=some (.own x)) (k:∀ b u,b≠e->h.get? b=some u->h'.get? b=some u) (heo:∃ u,h'.get? e=some u)
  (new:bJ P w (ax H x o') h' x o'):gD P w (ax H x o') h':=fun b u q=>by
 have nown:∀ c y,H c=some (.own y)->c≠x:=fun c y r z=>by subst z;rw [r] at mu;exact mu
 have ntup:∀ c xs,H c=some (.tup xs)->c≠x:=fun c xs r z=>by subst z;rw [r] at mu;exact mu
 by_cases hb:b=x
 ·subst hb;rw [ah] at q;cases q;exact new
 ·rw [aD hb] at q
  by_cases hbe:b=e
  ·have q':H b=some (.own x):=by
    rcases he with z | z
    ·exact absurd (hbe.trans z) hb
    ·rw [hbe];exact z
   rw [q] at q';cases q'
   obtain⟨v,hv⟩:=heo
   exact⟨v,by rw [hbe];exact hv⟩
  ·refine (ok b u q).stay (fun c v hc r=>k c v ?_ r) (fun c r=>by rw [aD (nown c b r)];exact r) fun c xs r=>by rw [aD (ntup c xs r)];exact r
   rcases hc with rfl | hc
   ·exact hbe
   ·rintro rfl
    rcases he with z | z
    ·exact nown c b hc z
    ·rw [hc] at z;cases z;exact hb rfl
end
structure Un (fs ex:List Addr) (H H':Hp) (h h':Heap):Prop where
 keep:∀ b o,h.get? b=some o->H b=none->b∉fs->b∉ex->h'.get? b=some o
 slot:∀ b o,h.get? b=some o->H b=none->b∈fs->b∉ex->∃ sl,h'.get? b=some { o with slots:=sl }
 free:∀ b o,h.get? b=some o->H b=none->b∉ex->H' b=none
 there:∀ b o,h.get? b=some o->b∉ex->∃ o',h'.get? b=some o'
 tups:∀ b xs,H b=some (.tup xs)->H' b=some (.tup xs)
 frzs:∀ b o u,H b=some (.frz o u)->H' b=some (.frz o u)
 tbls:∀ b ps,H b=some (.tbl ps)->∃ more,H' b=some (.tbl (ps++more))
section
variable {fs fs' ex ex':List Addr} {H H1 H2:Hp} {h h1 h2 h':Heap} {a x e:Addr} {o:HO}
theorem Un.any (u:Un fs ex H H1 h h1) {b:Addr} {ob:Obj} (q:h.get? b=some ob) (n:H b=none) (hx:b∉ex):∃ sl,h1.get? b=some { ob with slots:=sl }:=by
 by_cases hb:b∈fs
 ·exact u.slot b ob q n hb hx
 ·exact⟨ob.slots,u.keep b ob q n hb hx⟩
theorem Un.kept (k:∀ b u,h.get? b=some u->h'.get? b=some u):Un fs ex H H h h':=
 ⟨fun b ob q _ _ _=>k b ob q,fun b ob q _ _ _=>⟨ob.slots,k b ob q⟩,fun _ _ _ n _=>n,fun b ob q _=>⟨ob,k b ob q⟩,fun _ _ q=>q,fun _ _ _ q=>q,fun _ ps q=>⟨#[],by rw [q];simp⟩⟩
theorem Un.refl:Un fs ex H H h h:=Un.kept fun _ _ q=>q
theorem Un.laid (k:∀ b u,h.get? b=some u->h'.get? b=some u) (hp:h.objs.size≤a) (hn:H a=none):Un fs ex H (ax H a o) h h' where
 keep:=fun b u q _ _ _=>k b u q
 slot:=fun b u q _ _ _=>⟨u.slots,k b u q⟩
 free:=fun b u q n _=>by rw [aD (Nat.ne_of_lt (Nat.lt_of_lt_of_le (Heap.lt_size q) hp))];exact n
 there:=fun b u q _=>⟨u,k b u q⟩
 tups:=fun b xs q=>by rw [aD (aB q hn)];exact q
 frzs:=fun b u xs q=>by rw [aD (aB q hn)];exact q
 tbls:=fun b ps q=>⟨#[],by rw [aD (aB q hn),q];simp⟩
theorem Un.write (mu:CM (H x)) (he:e=x∨H e=some (.own x)) (k:∀ b u,b≠e->h.get? b=some u->h'.get? b=some u) (heo:∃ u,h'.get? e=some u):Un fs ex H (ax H x o) h h':=by
 have hx:∀ b,H b=none->b≠x:=fun b n z=>by subst z;rw [n] at mu;exact mu
 have hb:∀ b,H b=none->b≠e:=fun b n z=>by
  subst z
  rcases he with r | r
  ·exact hx b n r
  ·rw [n] at r;cases r
 have hm:∀ b u,H b=some u->¬ CM (some u)->b≠x:=fun b u q nm z=>by subst z;rw [q] at mu;exact nm mu
 refine⟨fun b u q n _ _=>k b u (hb b n) q,fun b u q n _ _=>⟨u.slots,k b u (hb b n) q⟩,fun b u q n _=>by rw [aD (hx b n)];exact n,fun b u q _=>?_,
  fun b xs q=>by rw [aD (hm b _ q fun z=>z)];exact q,fun b u xs q=>by rw [aD (hm b _ q fun z=>z)];exact q,fun b ps q=>⟨#[],by rw [aD (hm b _ q fun z=>z),q];simp⟩⟩
 by_cases hbe:b=e
 ·subst hbe;exact heo
 ·exact⟨u,k b u hbe q⟩
end
def CU (h:Heap) (H:Hp):List Addr:=(List.range h.objs.size).filter fun a=>(H a).isSome
def jR (h:Heap) (H:Hp):Heap:=PySem.W.hideAll h (CU h H)
theorem qL (h:Heap) (H:Hp):(jR h H).objs.size=h.objs.size:=PySem.W.hideAll_size _ _
theorem u5 {h:Heap} {H:Hp} {b:Addr} {o:Obj} (e:h.get? b=some o) (n:H b=none):(jR h H).get? b=some o:=
 PySem.W.hideAll_get _ e fun hm=>by
  have q:(H b).isSome=true:=(List.mem_filter.mp hm).2
  rw [n] at q;simp at q
theorem xj {h:Heap} {H:Hp} {b:Addr} {o:Obj} (e:(jR h H).get? b=some o):h.get? b=some o/\H b=none:=by
 have e':h.get? b=some o:=PySem.W.of_hideAll (CU h H) e
 refine⟨e',?_⟩
 cases q:H b with
 | none=>rfl
 | some x=>
  have hm:b∈CU h H:=List.mem_filter.mpr ⟨List.mem_range.mpr (Heap.lt_size e'),by simp [q]⟩
  have z:(jR h H).get? b=none:=PySem.W.hideAll_none (CU h H) hm
  rw [z] at e;cases e
def im (g h:Heap) (L:Addr):List (Addr×Obj):=(List.range h.objs.size).filterMap fun a=>if a=L∨(g.get? a).isSome=true then none else (h.get? a).map fun o=>(a,o)
theorem mL {g h:Heap} {L a:Addr} {o:Obj} (h1:a≠L) (h2:g.get? a=none) (h3:h.get? a=some o):(a,o)∈im g h L:=
 List.mem_filterMap.mpr ⟨a,List.mem_range.mpr (Heap.lt_size h3),by simp [h1,h2,h3]⟩
theorem jx {g h:Heap} {L:Addr} {p:Addr×Obj} (hp:p∈im g h L):p.1≠L/\g.get? p.1=none/\h.get? p.1=some p.2:=by
 obtain⟨b,_,e⟩:=List.mem_filterMap.mp hp
 split at e
 ·cases e
 ·rename_i hn
  cases q:h.get? b with
  | none=>rw [q] at e;simp at e
  | some u=>
   rw [q] at e
   simp only [Option.map_some,Option.some.injEq] at e
   subst e
   refine⟨fun z=>hn (.inl z),?_,q⟩
   show g.get? b=none
   cases r:g.get? b with
   | none=>rfl
   | some v=>exact (hn (.inr (by simp [r]))).elim
def d7 (g h:Heap) (L d:Addr):List (Addr×Obj):=(im g h L).filter fun p=>decide (p.1≠d)
end L2
namespace L2
open PySem PySem.Spec PyProof.Rows
structure Mod (K:PySem.W.Frag) (mg:Str->Option Value) (base:Heap):Prop where
 kin:K.In base
 glob:base.Ns mainGlobals mg
 blt:∃ mb,base.Ns builtinsNs mb/\∀ x:Str,x ≠ "__name__" -> mb x=bootBuiltins x
 nolimit:base.NoLimit
structure Cx where
 prog:Program
 w:World
 K:PySem.W.Frag
 mg:Str->Option Value
 base:Heap
 A:Around
 N:List Str
 s₀:Shared
 H₀:Hp
 env:Env
 outer:List Env
 stack:List Env
 ex:List Addr
 fn:Str->Bool
 calm:Bool
 pn:List (Addr×Obj)
 xe:Value->Shared->Prop
def pC (l:List Env):List Addr:=l.filterMap (·.frame)
abbrev Cx.fs (X:Cx):List Addr:=pC X.outer
def CB (sc:Scope) (x:Str):Prop:=sc.names.lookup x=some .local∨sc.names.lookup x=some .cell∨sc.names.lookup x=some .free
def vG (sc:Scope) (x:Str):Prop:=sc.names.lookup x=some .local∨sc.names.lookup x=some .cell
def Eg (env:Env) (h:Heap) (m:Str->Option Value) (x:Str) (u:Value):Prop:=
 (env.kindOf x=some .local/\m x=some u)∨((env.kindOf x=some .cell∨env.kindOf x=some .free)/\∃ c,env.cells.lookup x=some c/\h.IsCell c (some u))
structure Cx.Ok (X:Cx):Prop where
 mod:Mod X.K X.mg X.base
 kind:X.env.scope.kind=.function
 glob:X.env.globals=mainGlobals
 blt:X.env.builtins=builtinsNs
 above:X.s₀.heap.objs.size≤X.env.locals
 inj:∀ x y c,X.env.cells.lookup x=some c->X.env.cells.lookup y=some c->x=y
 has:∀ x,(X.env.kindOf x=some .cell∨X.env.kindOf x=some .free)->∃ c,X.env.cells.lookup x=some c
 cab:∀ x c,X.fn x=true->X.env.cells.lookup x=some c->X.s₀.heap.objs.size≤c
 hd:X.calm=true->X.A.handled=none
 frames:X.A.frames=some X.stack
 stk:X.stack=X.outer∨(X.stack=X.env :: X.outer/\X.env.frame=some X.env.locals)
 exf:∀ b∈X.ex,b≠X.env.locals/\∀ x c,X.env.cells.lookup x=some c->c≠b
 bs:∀ b o,X.base.get? b=some o->X.s₀.heap.get? b=some o/\X.H₀ b=none
 bsz:X.base.objs.size≤X.s₀.heap.objs.size
 noex:∀ b o,X.base.get? b=some o->b∉X.ex
 exfs:∀ b∈X.ex,b∉X.fs
 funs:X.s₀.heap.FunFrames X.base X.outer
 frf:∀ b∈X.fs,X.H₀ b=none
structure Inv (X:Cx) (pins:List (Addr×Obj)) (σ:List (Option V)) (H:Hp) (s:Shared):Prop where
 ok:X.Ok
 os:s.os=X.s₀.os
 bare:AllBare s.gens
 base:Un X.fs X.ex X.H₀ H X.s₀.heap s.heap
 loc:∃ m,s.heap.Ns X.env.locals m/\∀ (i:Nat) (x:Str) (v:V),X.N[i]?=some x->σ[i]?=some (some v)->CB X.env.scope x->∃ u,aY v u/\Eg X.env s.heap m x u
 cell:∀ x c,X.env.cells.lookup x=some c->∃ v,s.heap.IsCell c v
 free:H X.env.locals=none
 freeC:∀ x c,X.env.cells.lookup x=some c->H c=none
 pin:∀ p∈X.pn++pins,s.heap.get? p.1=some p.2/\H p.1=none/\p.1≠X.env.locals/\p.1∉X.fs/\∀ v,p.2.data≠.cell v
 hok:gD X.prog X.w H s.heap
 len:σ.length=X.N.length
section
variable {X:Cx} {pins:List (Addr×Obj)} {σ:List (Option V)} {H H':Hp} {s:Shared} {h':Heap}
theorem Cx.Ok.nofr (ok:X.Ok) {b:Addr} {o:Obj} (e:X.base.get? b=some o):b∉X.fs:=fun hb=>by
 have:=(ok.funs.mem hb).1
 rw [e] at this;cases this
theorem Inv.bs (I:Inv X pins σ H s):∀ b o,X.base.get? b=some o->s.heap.get? b=some o/\H b=none:=fun b o e=>
 ⟨I.base.keep b o (I.ok.bs b o e).1 (I.ok.bs b o e).2 (I.ok.nofr e) (I.ok.noex b o e),I.base.free b o (I.ok.bs b o e).1 (I.ok.bs b o e).2 (I.ok.noex b o e)⟩
theorem Inv.bk (I:Inv X pins σ H s):∀ b o,X.base.get? b=some o->s.heap.get? b=some o:=fun b o e=>(I.bs b o e).1
theorem Inv.mod (I:Inv X pins σ H s):Mod X.K X.mg X.base:=I.ok.mod
theorem Inv.kIn (I:Inv X pins σ H s):X.K.In s.heap:=I.ok.mod.kin.keeps I.bk
theorem Inv.nolimit (I:Inv X pins σ H s):s.heap.NoLimit:=I.ok.mod.nolimit.keeps I.bk
theorem Inv.lt (I:Inv X pins σ H s):X.env.locals < s.heap.objs.size:=let ⟨_,hn,_⟩:=I.loc;hn.lt
theorem Inv.sz (I:Inv X pins σ H s):X.s₀.heap.objs.size≤s.heap.objs.size:=Nat.le_trans I.ok.above (Nat.le_of_lt I.lt)
theorem Inv.nofs (I:Inv X pins σ H s) {a:Addr} (h:s.heap.objs.size≤a):a∉X.fs:=fun hb=>by
 obtain⟨_,o,ho,_⟩:=I.ok.funs.mem hb
 exact absurd (Nat.lt_of_lt_of_le (Heap.lt_size ho) (Nat.le_trans I.sz h)) (Nat.lt_irrefl _)
theorem Inv.cne (I:Inv X pins σ H s):∀ x c,X.env.cells.lookup x=some c->c≠X.env.locals:=fun x c e z=>by
 obtain⟨v,o,ho,hd⟩:=I.cell x c e
 obtain⟨m,⟨o',es,ep,ho',hd',_⟩,_⟩:=I.loc
 rw [z,ho'] at ho;cases ho;rw [hd'] at hd;cases hd
theorem Inv.funs (I:Inv X pins σ H s):s.heap.FunFrames X.base X.outer:=by
 have all:∀ (l:List Env),(∀ b∈pC l,b∈X.fs)->X.s₀.heap.FunFrames X.base l->s.heap.FunFrames X.base l:=by
  intro l
  induction l with
  | nil=>intro _ _;trivial
  | cons env r ih=>
   intro hs hl
   obtain⟨hk,⟨L,o,hf,hn,ho,hd⟩,hr⟩:=hl
   have hL:L∈X.fs:=hs L (by unfold pC;rw [List.filterMap_cons,hf];exact List.mem_cons_self)
   obtain⟨sl,e⟩:=I.base.slot L o ho (I.ok.frf L hL) hL fun z=>I.ok.exfs L z hL
   exact⟨hk,⟨L,_,hf,hn,e,hd⟩,ih (fun b hb=>hs b (by unfold pC;rw [List.filterMap_cons,hf];exact List.mem_cons_of_mem _ hb)) hr⟩
 exact all X.outer (fun _ hb=>hb) I.ok.funs
theorem Inv.stack (I:Inv X pins σ H s):s.heap.FunFrames X.base X.stack:=by
 rcases I.ok.stk with e | ⟨e,hf⟩
 ·rw [e];exact I.funs
 ·rw [e]
  obtain⟨m,hn,_⟩:=I.loc
  refine .cons (by rw [I.ok.kind];decide) hf hn ?_ I.funs
  exact Heap.get?_none_of_le (Nat.le_trans I.ok.bsz I.ok.above)
theorem Inv.stkSub (I:Inv X pins σ H s):∀ b∈pC X.stack,b∈X.env.locals :: X.fs:=fun b hb=>by
 rcases I.ok.stk with e | ⟨e,hf⟩
 ·rw [e] at hb;exact List.mem_cons_of_mem _ hb
 ·rw [e] at hb
  unfold pC at hb
  rw [List.filterMap_cons,hf] at hb
  exact hb
theorem Inv.stkFree (I:Inv X pins σ H s):∀ b∈pC X.stack,H b=none:=fun b hb=>by
 rcases List.mem_cons.mp (I.stkSub b hb) with e | hb
 ·rw [e];exact I.free
 ·obtain⟨_,o,ho,_⟩:=I.ok.funs.mem hb
  exact I.base.free b o ho (I.ok.frf b hb) fun z=>I.ok.exfs b z hb
theorem Inv.step {g':Array GenState} {t':Nat} {d':Drawn} {ch:List Addr} (I:Inv X pins σ H s)
  (hch:∀ b∈ch,(b∈X.ex∨X.s₀.heap.get? b=none)/\b≠X.env.locals/\(∀ x c,X.env.cells.lookup x=some c->c≠b)/\∀ p∈X.pn++pins,p.1≠b)
  (keep:∀ b o,b≠X.env.locals->b∉X.fs->b∉ch->s.heap.get? b=some o->H b=none->h'.get? b=some o)
  (slot:∀ b o,b≠X.env.locals->b∈X.fs->b∉ch->s.heap.get? b=some o->H b=none->∃ sl,h'.get? b=some { o with slots:=sl }) (free:∀ b o,b∉ch->s.heap.get? b=some o->H b=none->H' b=none)
  (there:∀ b o,b∉ch->s.heap.get? b=some o->∃ o',h'.get? b=some o')
  (tups:∀ b xs,H b=some (.tup xs)->H' b=some (.tup xs)) (frzs:∀ b o u,H b=some (.frz o u)->H' b=some (.frz o u)) (tbls:∀ b ps,H b=some (.tbl ps)->∃ more,H' b=some (.tbl (ps++more)))
  (ns:∀ m,s.heap.Ns X.env.locals m->h'.Ns X.env.locals m) (hok:gD X.prog X.w H' h') (hg:AllBare g') :
  Inv X pins σ H' { s with heap:=h',gens:=g',drawn:=d',toks:=t' }:=by
 have neL:∀ b o,X.s₀.heap.get? b=some o->b≠X.env.locals:=fun b o e=>Nat.ne_of_lt (Nat.lt_of_lt_of_le (Heap.lt_size e) I.ok.above)
 have neC:∀ b o,X.s₀.heap.get? b=some o->b∉X.ex->b∉ch:=fun b o e hx hb=>by
  rcases (hch b hb).1 with z | z
  ·exact hx z
  ·rw [e] at z;cases z
 have cellK:∀ x c,X.env.cells.lookup x=some c->∀ v,s.heap.IsCell c v->h'.IsCell c v:=fun x c e v ⟨o,ho,hd⟩=>by
  have nch:c∉ch:=fun z=>(hch c z).2.2.1 x c e rfl
  by_cases hc:c∈X.fs
  ·obtain⟨sl,q⟩:=slot c o (I.cne x c e) hc nch ho (I.freeC x c e)
   exact⟨_,q,hd⟩
  ·exact⟨o,keep c o (I.cne x c e) hc nch ho (I.freeC x c e),hd⟩
 refine⟨I.ok,I.os,hg,⟨fun b o e n hb hx=>?_,fun b o e n hb hx=>?_,fun b o e n hx=>?_,fun b o e hx=>?_,fun b xs e=>tups b xs (I.base.tups b xs e),fun b o xs e=>frzs b o xs (I.base.frzs b o xs e),fun b ps e=>?_⟩,?_,fun x c e=>?_,?_,fun x c e=>?_,fun p hp=>?_,hok,I.len⟩
 ·exact keep b o (neL b o e) hb (neC b o e hx) (I.base.keep b o e n hb hx) (I.base.free b o e n hx)
 ·obtain⟨sl,e1⟩:=I.base.slot b o e n hb hx
  obtain⟨sl',e2⟩:=slot b _ (neL b o e) hb (neC b o e hx) e1 (I.base.free b o e n hx)
  exact⟨sl',e2⟩
 ·obtain⟨o',e1⟩:=I.base.there b o e hx
  exact free b o' (neC b o e hx) e1 (I.base.free b o e n hx)
 ·obtain⟨o',e1⟩:=I.base.there b o e hx
  exact there b o' (neC b o e hx) e1
 ·obtain⟨m1,e1⟩:=I.base.tbls b ps e
  obtain⟨m2,e2⟩:=tbls b _ e1
  exact⟨m1++m2,by rw [e2,Array.append_assoc]⟩
 ·obtain⟨m,hn,hl⟩:=I.loc
  refine⟨m,ns m hn,fun i x v e1 e2 e3=>?_⟩
  obtain⟨u,r,l⟩:=hl i x v e1 e2 e3
  refine⟨u,r,?_⟩
  rcases l with l | ⟨k,c,e,z⟩
  ·exact .inl l
  ·exact .inr ⟨k,c,e,cellK x c e _ z⟩
 ·obtain⟨v,z⟩:=I.cell x c e
  exact⟨v,cellK x c e v z⟩
 ·obtain⟨m,⟨o,_,_,ho,_⟩,_⟩:=I.loc
  exact free _ o (fun z=>(hch _ z).2.1 rfl) ho I.free
 ·obtain⟨v,o,ho,hd⟩:=I.cell x c e
  exact free c o (fun z=>(hch c z).2.2.1 x c e rfl) ho (I.freeC x c e)
 ·obtain⟨e,n,ne,nf,d⟩:=I.pin p hp
  have nch:p.1∉ch:=fun z=>(hch p.1 z).2.2.2 p hp rfl
  exact⟨keep p.1 p.2 ne nf nch e n,free p.1 p.2 nch e n,ne,nf,d⟩
theorem Inv.un {t':Nat} (I:Inv X pins σ H s) (u:Un X.fs [] H H' s.heap h') (hok:gD X.prog X.w H' h'):Inv X pins σ H' { s with heap:=h',toks:=t' }:=by
 obtain⟨m,⟨o,es,ep,ho,r⟩,_⟩:=id I.loc
 obtain⟨sl,hL⟩:=u.any ho I.free (by simp)
 exact I.step (g':=s.gens) (d':=s.drawn) (ch:=[]) (fun _ z=>nomatch z) (fun b o _ hb _ e n=>u.keep b o e n hb (by simp)) (fun b o _ hb _ e n=>u.slot b o e n hb (by simp)) (fun b o _ e n=>u.free b o e n (by simp)) (fun b o _ e=>u.there b o e (by simp)) u.tups u.frzs u.tbls (fun m' hm=>by
  obtain⟨o',es',ep',ho',r'⟩:=hm
  rw [ho] at ho';cases ho'
  exact⟨_,es',ep',hL,r'⟩) hok I.bare
theorem Inv.call {g':Array GenState} {t':Nat} {d':Drawn} {ch:List Addr} (I:Inv X pins σ H s) (u:Un (pC X.stack) ch H H' s.heap h') (hok:gD X.prog X.w H' h') (hg:AllBare g')
  (hch:∀ b∈ch,(b∈X.ex∨X.s₀.heap.get? b=none)/\b≠X.env.locals/\(∀ x c,X.env.cells.lookup x=some c->c≠b)/\∀ p∈X.pn++pins,p.1≠b) :
  Inv X pins σ H' { s with heap:=h',gens:=g',drawn:=d',toks:=t' }:=by
 obtain⟨m,⟨o,es,ep,ho,r⟩,_⟩:=id I.loc
 obtain⟨sl,hL⟩:=u.any ho I.free fun z=>(hch _ z).2.1 rfl
 exact I.step (ch:=ch) hch (fun b o hL hb hc e n=>u.keep b o e n (fun z=>(List.mem_cons.mp (I.stkSub b z)).elim hL hb) hc) (fun b o _ _ hc e n=>u.any e n hc) (fun b o hc e n=>u.free b o e n hc) (fun b o hc e=>u.there b o e hc) u.tups u.frzs u.tbls (fun m' hm=>by
  obtain⟨o',es',ep',ho',r'⟩:=hm
  rw [ho] at ho';cases ho'
  exact⟨_,es',ep',hL,r'⟩) hok hg
theorem Inv.turned {t':Nat} {it:Addr} (I:Inv X pins σ H s) (k:∀ b o,b≠it->s.heap.get? b=some o->h'.get? b=some o) (hn:H it=none) (hL:it≠X.env.locals)
  (h1:it∈X.ex∨X.s₀.heap.get? it=none) (h2:∀ x c,X.env.cells.lookup x=some c->c≠it) (h3:∀ p∈X.pn++pins,p.1≠it):Inv X pins σ H { s with heap:=h',toks:=t' }:=by
 have nit:∀ b u,H b=some u->b≠it:=fun b u e z=>by rw [z,hn] at e;cases e
 refine I.step (g':=s.gens) (d':=s.drawn) (ch:=[it]) (fun b hb=>?_) (fun b o _ _ hc e _=>k b o (fun z=>hc (by simp [z])) e) (fun b o _ _ hc e _=>⟨o.slots,k b o (fun z=>hc (by simp [z])) e⟩) (fun _ _ _ _ n=>n)
  (fun b o hc e=>⟨o,k b o (fun z=>hc (by simp [z])) e⟩) (fun _ _ e=>e) (fun _ _ _ e=>e) (fun b ps e=>⟨#[],by rw [e];simp⟩) (fun m hm=>?_) (fun b u e=>?_) I.bare
 ·have e:b=it:=by simpa using hb
  subst e
  exact⟨h1,hL,h2,h3⟩
 ·obtain⟨o,es,ep,ho,r⟩:=hm
  exact⟨o,es,ep,k _ o (Ne.symm hL) ho,r⟩
 ·refine (I.hok b u e).stay (fun c v hc q=>k c v ?_ q) (fun _ q=>q) fun _ _ q=>q
  rcases hc with z | z
  ·rw [z];exact nit b u e
  ·exact nit c _ z
theorem Inv.tok (I:Inv X pins σ H s) (t:Nat):Inv X pins σ H { s with toks:=t }:=I.un (h':=s.heap) (t':=t) Un.refl I.hok
theorem Inv.kept {t':Nat} (I:Inv X pins σ H s) (k:∀ b u,s.heap.get? b=some u->h'.get? b=some u):Inv X pins σ H { s with heap:=h',toks:=t' }:=I.un (Un.kept k) (I.hok.kept k)
theorem Inv.laid {a:Addr} {o:HO} {t':Nat} (I:Inv X pins σ H s) (k:∀ b u,s.heap.get? b=some u->h'.get? b=some u) (hp:s.heap.objs.size≤a) (new:bJ X.prog X.w (ax H a o) h' a o) :
  Inv X pins σ (ax H a o) { s with heap:=h',toks:=t' }:=I.un (Un.laid k hp (I.hok.fresh hp)) (I.hok.laid k hp new)
theorem Inv.write {x e:Addr} {o:HO} {t':Nat} (I:Inv X pins σ H s) (mu:CM (H x)) (he:e=x∨H e=some (.own x)) (k:∀ b u,b≠e->s.heap.get? b=some u->h'.get? b=some u) (heo:∃ u,h'.get? e=some u)
  (new:bJ X.prog X.w (ax H x o) h' x o):Inv X pins σ (ax H x o) { s with heap:=h',toks:=t' }:=I.un (Un.write mu he k heo) (I.hok.write mu he k heo new)
theorem Inv.weak {σ':List (Option V)} (I:Inv X pins σ H s) (hl:σ'.length=σ.length) (w:∀ (i:Nat) v,σ'[i]?=some (some v)->σ[i]?=some (some v)):Inv X pins σ' H s:=
 ⟨I.ok,I.os,I.bare,I.base,let ⟨m,hn,hl'⟩:=I.loc;⟨m,hn,fun i x v e1 e2 e3=>hl' i x v e1 (w i v e2) e3⟩,I.cell,I.free,I.freeC,I.pin,I.hok,hl.trans I.len⟩
theorem Inv.pins_of {pins':List (Addr×Obj)} (I:Inv X pins σ H s) (h:∀ p∈pins',s.heap.get? p.1=some p.2/\H p.1=none/\p.1≠X.env.locals/\p.1∉X.fs/\∀ v,p.2.data≠.cell v):Inv X pins' σ H s:=
 ⟨I.ok,I.os,I.bare,I.base,I.loc,I.cell,I.free,I.freeC,fun p hp=>(List.mem_append.mp hp).elim (fun z=>I.pin p (List.mem_append_left _ z)) (h p),I.hok,I.len⟩
theorem mD {N:List Str} (hN:N.Nodup) {i j:Nat} {x:Str} (a:N[i]?=some x) (b:N[j]?=some x):i=j:=by
 obtain⟨h1,e1⟩:=List.getElem?_eq_some_iff.mp a
 obtain⟨h2,e2⟩:=List.getElem?_eq_some_iff.mp b
 exact (List.getElem_inj hN).mp (e1.trans e2.symm)
theorem qc {M:Model} {A:Around} {E:Value->Shared->Prop} {i:Nat} {x:Str} {v:V} {u:Value} {Q:Unit->Shared->Prop} (I:Inv X pins σ H s) (hN:X.N.Nodup) (hi:X.N[i]?=some x) (hx:vG X.env.scope x) (r:aY v u)
  (h:∀ s',Inv X pins (σ.set i (some v)) H s'->(∃ a,Heap.SameBut a s.heap s'.heap/\(a=X.env.locals∨X.env.cells.lookup x=some a))->Q () s') (hf:X.fn x=true∨X.env.scope.names.lookup x=some .local:=by first | exact .inl rfl | exact .inr rfl | assumption):wpAny M A (storeName X.env x u) Q E s:=by
 obtain⟨m,hn,hl⟩:=id I.loc
 have hcls:(X.env.scope.kind == .class || (X.env.scope.kind == .module && X.env.locals != X.env.globals))=false:=by rw [I.ok.kind];rfl
 have hiσ:i < σ.length:=by rw [I.len];exact (List.getElem?_eq_some_iff.mp hi).1
 have cne:=I.cne
 have tracked:∀ {a:Addr} {h':Heap},(∃ o,s.heap.get? a=some o/\H a=none)->Heap.SameBut a s.heap h'->gD X.prog X.w H h':=fun {a h'} ha hs b ob e=>by
  obtain⟨_,_,hfree⟩:=ha
  refine (I.hok b ob e).stay (fun c w' hc q=>(hs.2 c ?_).trans q) (fun _ q=>q) fun _ _ q=>q
  rintro rfl
  rcases hc with rfl | hc
  ·rw [hfree] at e;cases e
  ·rw [hfree] at hc;cases hc
 rcases hx with hk | hk
 ·refine wpAny_storeName_local hk hn (fun h' hn' hs=>?_) hcls
  obtain⟨oL,_,_,hoL,_⟩:=id hn
  refine h _ ⟨I.ok,I.os,I.bare,⟨fun b o e n hb hx=>?_,fun b o e n hb hx=>?_,I.base.free,fun b o e hx=>?_,I.base.tups,I.base.frzs,I.base.tbls⟩,⟨_,hn',fun j y v' e1 e2 e3=>?_⟩,fun y c e=>?_,I.free,I.freeC,fun p hp=>?_,tracked ⟨oL,hoL,I.free⟩ hs,by simpa using I.len⟩ ⟨_,hs,.inl rfl⟩
  ·exact (hs.2 b (Nat.ne_of_lt (Nat.lt_of_lt_of_le (Heap.lt_size e) I.ok.above))).trans (I.base.keep b o e n hb hx)
  ·obtain⟨sl,e1⟩:=I.base.slot b o e n hb hx
   exact⟨sl,(hs.2 b (Nat.ne_of_lt (Nat.lt_of_lt_of_le (Heap.lt_size e) I.ok.above))).trans e1⟩
  ·obtain⟨o',e1⟩:=I.base.there b o e hx
   exact⟨o',(hs.2 b (Nat.ne_of_lt (Nat.lt_of_lt_of_le (Heap.lt_size e) I.ok.above))).trans e1⟩
  ·by_cases hj:j=i
   ·subst hj
    rw [hi] at e1;cases e1
    rw [List.getElem?_set_self hiσ] at e2
    cases e2
    exact⟨u,r,.inl ⟨hk,by simp⟩⟩
   ·rw [List.getElem?_set_ne (Ne.symm hj)] at e2
    obtain⟨u',r',q⟩:=hl j y v' e1 e2 e3
    refine⟨u',r',?_⟩
    rcases q with ⟨k,e⟩ | ⟨k,c,e,z⟩
    ·refine .inl ⟨k,?_⟩
     have:y≠x:=fun e=>hj (mD hN e1 (e ▸ hi))
     simp [this,e]
    ·exact .inr ⟨k,c,e,z.sameBut hs (cne y c e)⟩
  ·obtain⟨w',z⟩:=I.cell y c e
   exact⟨w',z.sameBut hs (cne y c e)⟩
  ·obtain⟨e,n,ne,nf,d⟩:=I.pin p hp
   exact⟨(hs.2 p.1 ne).trans e,n,ne,nf,d⟩
 ·have hfn:X.fn x=true:=by
   rcases hf with z | z
   ·exact z
   ·rw [z] at hk;cases hk
  obtain⟨c,hc⟩:=I.ok.has x (.inl hk)
  obtain⟨w',z⟩:=I.cell x c hc
  refine wpAny_storeName_cell I.ok.kind hk hc z (fun h' hc' hs=>?_)
  obtain⟨oc,hoc,hocd⟩:=id z
  refine h { s with heap:=h' } ⟨I.ok,I.os,I.bare,⟨fun b o e n hb hx=>?_,fun b o e n hb hx=>?_,I.base.free,fun b o e hx=>?_,I.base.tups,I.base.frzs,I.base.tbls⟩,⟨m,hn.sameBut hs (Ne.symm (cne x c hc)),fun j y v' e1 e2 e3=>?_⟩,fun y c' e=>?_,I.free,I.freeC,fun p hp=>?_,tracked ⟨oc,hoc,I.freeC x c hc⟩ hs,by simpa using I.len⟩ ⟨c,hs,.inr hc⟩
  ·exact (hs.2 b (Nat.ne_of_lt (Nat.lt_of_lt_of_le (Heap.lt_size e) (I.ok.cab x c hfn hc)))).trans (I.base.keep b o e n hb hx)
  ·obtain⟨sl,e1⟩:=I.base.slot b o e n hb hx
   exact⟨sl,(hs.2 b (Nat.ne_of_lt (Nat.lt_of_lt_of_le (Heap.lt_size e) (I.ok.cab x c hfn hc)))).trans e1⟩
  ·obtain⟨o',e1⟩:=I.base.there b o e hx
   exact⟨o',(hs.2 b (Nat.ne_of_lt (Nat.lt_of_lt_of_le (Heap.lt_size e) (I.ok.cab x c hfn hc)))).trans e1⟩
  ·by_cases hj:j=i
   ·subst hj
    rw [hi] at e1;cases e1
    rw [List.getElem?_set_self hiσ] at e2
    cases e2
    exact⟨u,r,.inr ⟨.inl hk,c,hc,hc'⟩⟩
   ·rw [List.getElem?_set_ne (Ne.symm hj)] at e2
    obtain⟨u',r',q⟩:=hl j y v' e1 e2 e3
    refine⟨u',r',?_⟩
    rcases q with q | ⟨k,c',e,z'⟩
    ·exact .inl q
    ·refine .inr ⟨k,c',e,z'.sameBut hs ?_⟩
     rintro rfl
     exact hj (mD hN e1 (I.ok.inj _ _ _ e hc ▸ hi))
  ·by_cases hcc:c'=c
   ·subst hcc;exact⟨_,hc'⟩
   ·obtain⟨w2,z2⟩:=I.cell y c' e
    exact⟨w2,z2.sameBut hs hcc⟩
  ·obtain⟨e,n,ne,nf,d⟩:=I.pin p hp
   refine⟨(hs.2 p.1 ?_).trans e,n,ne,nf,d⟩
   intro q
   rw [q,hoc] at e
   have q':oc=p.2:=Option.some.inj e
   exact d w' (by rw [← q'];exact hocd)
theorem fw {M:Model} {A:Around} {E:Value->Shared->Prop} {i:Nat} {x:Str} {v:V} {u:Value} {Q:Unit->Shared->Prop} (I:Inv X pins σ H s) (hN:X.N.Nodup) (hi:X.N[i]?=some x) (hx:vG X.env.scope x) (r:aY v u)
  (h:∀ s',Inv X pins (σ.set i (some v)) H s'->Q () s') (hf:X.fn x=true∨X.env.scope.names.lookup x=some .local:=by first | exact .inl rfl | exact .inr rfl | assumption):wpAny M A (storeName X.env x u) Q E s:=
 qc I hN hi hx r (fun s' I' _=>h s' I') hf
theorem Inv.call' {s':Shared} {ch:List Addr} (I:Inv X pins σ H s) (ho:s'.os=s.os) (u:Un (pC X.stack) ch H H' s.heap s'.heap) (hok:gD X.prog X.w H' s'.heap) (hg:AllBare s'.gens)
  (hch:∀ b∈ch,(b∈X.ex∨X.s₀.heap.get? b=none)/\b≠X.env.locals/\(∀ x c,X.env.cells.lookup x=some c->c≠b)/\∀ p∈X.pn++pins,p.1≠b):Inv X pins σ H' s':=by
 obtain⟨h',g',d',t',o'⟩:=s'
 have e:o'=s.os:=ho
 subst e
 exact I.call (g':=g') (t':=t') (d':=d') u hok hg hch
end
abbrev XK:=Value->Option Addr->Hp->Prop
abbrev St:=List (Option V)
abbrev VK:=V->Hp->Prop
abbrev TE:=St->Hp->VK->Prop
abbrev TT:=St->Hp->(Bool->Hp->Prop)->Prop
abbrev TA:=St->Hp->(List V->Hp->Prop)->Prop
structure iq where
 nx:St->Hp->Prop
 rt:VK
 bk:St->Hp->Prop:=fun _ _=>False
 ct:St->Hp->Prop:=fun _ _=>False
abbrev TS:=iq->St->Hp->Prop
def EP (X:Cx) (pins:List (Addr×Obj)) (σ:St) (Q:VK) (u:Value) (s':Shared):Prop:=∃ v H',Inv X pins σ H' s'/\aY v u/\Q v H'
def TP (X:Cx) (pins:List (Addr×Obj)) (σ:St) (Q:Bool->Hp->Prop) (b:Bool) (s':Shared):Prop:=∃ H',Inv X pins σ H' s'/\Q b H'
def AP (X:Cx) (pins:List (Addr×Obj)) (σ:St) (Q:List V->Hp->Prop) (us:List Value) (s':Shared):Prop:=∃ vs H',Inv X pins σ H' s'/\bg vs us/\Q vs H'
def SP (X:Cx) (pins:List (Addr×Obj)) (D:iq) (f:Flow) (s':Shared):Prop:=
 match f with
 | .next=>∃ σ' H',Inv X pins σ' H' s'/\D.nx σ' H'
 | .brk=>∃ σ' H',Inv X pins σ' H' s'/\D.bk σ' H'
 | .cont=>∃ σ' H',Inv X pins σ' H' s'/\D.ct σ' H'
 | .ret u=>∃ v σ' H',Inv X pins σ' H' s'/\aY v u/\D.rt v H'
def PE (X:Cx) (e:Expr) (t:TE):Prop:=
 ∀ (pins:List (Addr×Obj)) (s:Shared) (σ:St) (H:Hp) (Q:VK),Inv X pins σ H s->t σ H Q->wpAny (model X.prog X.w) X.A (eval e X.env) (EP X pins σ Q) X.xe s
def PT (X:Cx) (e:Expr) (t:TT):Prop:=
 ∀ (pins:List (Addr×Obj)) (s:Shared) (σ:St) (H:Hp) (Q:Bool->Hp->Prop),Inv X pins σ H s->t σ H Q->wpAny (model X.prog X.w) X.A (isTrue e X.env (eval e X.env)) (TP X pins σ Q) X.xe s
def PW (X:Cx) (e:Expr) (t:TT):Prop:=
 ∀ (whole:Sem Value) (pins:List (Addr×Obj)) (s:Shared) (σ:St) (H:Hp) (Q:Bool->Hp->Prop),Inv X pins σ H s->t σ H Q->wpAny (model X.prog X.w) X.A (isTrue e X.env whole) (TP X pins σ Q) X.xe s
theorem PW.pt {X:Cx} {e:Expr} {t:TT} (h:PW X e t):PT X e t:=h _
def PA (X:Cx) (es:List Expr) (t:TA):Prop:=
 ∀ (pos:Pos) (pins:List (Addr×Obj)) (s:Shared) (σ:St) (H:Hp) (Q:List V->Hp->Prop),Inv X pins σ H s->t σ H Q->wpAny (model X.prog X.w) X.A (spliced (backTo pos (starEach es X.env))) (AP X pins σ Q) X.xe s
def PS (X:Cx) (st:Stmt) (t:TS):Prop:=
 ∀ (pins:List (Addr×Obj)) (s:Shared) (σ:St) (H:Hp) (D:iq),Inv X pins σ H s->t D σ H->wpAny (model X.prog X.w) X.A (exec st X.env) (SP X pins D) X.xe s
def nh (X:Cx) (st:List Stmt) (t:TS):Prop:=
 ∀ (pins:List (Addr×Obj)) (s:Shared) (σ:St) (H:Hp) (D:iq),Inv X pins σ H s->t D σ H->wpAny (model X.prog X.w) X.A (execs st X.env) (SP X pins D) X.xe s
theorem cb {α:Type} {t:Sem α} {Q Q':α->Shared->Prop} {M:Model} {A:Around} {E:Value->Shared->Prop} {s:Shared} (h:wpAny M A t Q E s) (hQ:∀ a s,Q a s->Q' a s):wpAny M A t Q' E s:=wpAny_mono h hQ fun _ _ x=>x
end L2
namespace L2
open PySem PySem.Spec PyProof.Rows
section
variable {X:Cx}
def yN (i:Nat):TE:=fun σ H Q=>∃ v,σ[i]?=some (some v)/\Q v H
def tC (v:V):TE:=fun _ H Q=>Q v H
theorem Aa {i:Nat} {x:Str} {pos:Pos} (hN:X.N[i]?=some x) (hv:CB X.env.scope x) (hd:(x == ("__debug__" : Str))=false:=by decide) (hcd:(x == ("__classdict__" : Str))=false:=by decide):PE X (.Name x pos) (yN i):=by
 intro pins s σ H Q I h
 obtain⟨v,e,h⟩:=h
 obtain⟨m,hn,hl⟩:=I.loc
 obtain⟨u,r,l⟩:=hl i x v hN e hv
 have fin:EP X pins σ Q u s:=⟨v,H,I,r,h⟩
 rcases l with ⟨hk,hm⟩ | ⟨hk,c,hc,hcell⟩
 ·exact wpAny_Name (wpAny_loadName_local I.ok.kind hk hn hm fin) hd
 ·rcases hk with hk | hk
  ·exact wpAny_Name (wpAny_loadName_cell I.ok.kind hk hc hcell fin) hd
  ·exact wpAny_Name (wpAny_loadName_free I.ok.kind hk hc hcell fin hcd) hd
theorem Ai {i j pos}:PE X (.Constant (.int i) j pos) (tC (.int i)):=fun _ _ _ H _ I h=>wpAny_Constant_int ⟨.int i,H,I.tok _,⟨_,rfl⟩,h⟩
theorem B7 {b j pos}:PE X (.Constant (.bool b) j pos) (tC (.bl b)):=fun _ _ _ H _ I h=>Constant_bool ⟨.bl b,H,I,rfl,h⟩
theorem Ag {j pos}:PE X (.Constant .none j pos) (tC .non):=fun _ _ _ H _ I h=>Constant_none ⟨.non,H,I,rfl,h⟩
theorem Ac {x j pos}:PE X (.Constant (.str x) j pos) (tC (.str x)):=fun _ _ _ H _ I h=>Calls.Constant_str ⟨.str x,H,I.tok _,⟨_,rfl⟩,h⟩
def Gl (X:Cx) (x:Str):Prop:=X.env.kindOf x=some .globalImplicit
theorem o8 {E:Value->Shared->Prop} {pins:List (Addr×Obj)} {s:Shared} {σ:St} {H:Hp} {x:Str} {u:Value} {pos:Pos} {Q:Value->Shared->Prop} (I:Inv X pins σ H s) (hg:Gl X x) (hm:X.mg x=some u) (h:Q u s)
  (hd:(x == ("__debug__" : Str))=false:=by decide):wpAny (model X.prog X.w) X.A (eval (.Name x pos) X.env) Q E s:=
 Calls.Name_function_global I.ok.kind hg (Calls.loadGlobal_global (by rw [I.ok.glob];exact I.mod.glob.keeps I.bk) hm h) hd
theorem fZ {E:Value->Shared->Prop} {pins:List (Addr×Obj)} {s:Shared} {σ:St} {H:Hp} {x:Str} {u:Value} {pos:Pos} {Q:Value->Shared->Prop} (I:Inv X pins σ H s) (hg:Gl X x) (hm:X.mg x=none) (hv:bootBuiltins x=some u) (h:Q u s)
  (hn:x ≠ "__name__" := by decide) (hd:(x == ("__debug__" : Str))=false:=by decide):wpAny (model X.prog X.w) X.A (eval (.Name x pos) X.env) Q E s:=by
 obtain⟨mb,h1,h2⟩:=I.mod.blt
 exact Calls.Name_function_global I.ok.kind hg (Calls.loadGlobal_builtin (by rw [I.ok.glob];exact I.mod.glob.keeps I.bk) hm (by rw [I.ok.blt];exact h1.keeps I.bk) ((h2 x hn).trans hv) h) hd
theorem wY {x:Str} {v:V} {u:Value} {pos:Pos} (hg:Gl X x) (hm:X.mg x=some u) (r:aY v u) (hd:(x == ("__debug__" : Str))=false:=by decide):PE X (.Name x pos) (tC v):=
 fun _ _ _ H _ I h=>o8 I hg hm ⟨v,H,I,r,h⟩ hd
theorem w8 {x:Str} {v:V} {u:Value} {pos:Pos} (hg:Gl X x) (hm:X.mg x=none) (hv:bootBuiltins x=some u) (r:aY v u) (hn:x ≠ "__name__" := by decide) (hd:(x == ("__debug__" : Str))=false:=by decide):PE X (.Name x pos) (tC v):=
 fun _ _ _ H _ I h=>fZ I hg hm hv ⟨v,H,I,r,h⟩ hn hd
def C0 (ta tb:TE) (k:Int->Int->Hp->Prop):St->Hp->Prop:=fun σ H=>ta σ H fun x H1=>tb σ H1 fun y H2=>∃ i j,x=.int i/\y=.int j/\k i j H2
def FL (ta tb:TE):TE:=fun σ H Q=>C0 ta tb (fun i j H2=>Q (.int (i+j)) H2) σ H
def FA (ta tb:TE):TE:=fun σ H Q=>C0 ta tb (fun i j H2=>Q (.int (i - j)) H2) σ H
def FE (ta tb:TE):TE:=fun σ H Q=>C0 ta tb (fun i j H2=>(-(2 ^ 64) < i/\i < 2 ^ 64)/\Q (.int (i * j)) H2) σ H
variable {a b:Expr} {ta tb:TE} {pos:Pos}
def PC (X:Cx) (op:CmpOp) (a b:Expr) (t:TE):Prop:=
 ∀ (pins:List (Addr×Obj)) (s:Shared) (σ:St) (H:Hp) (Q:VK),Inv X pins σ H s->t σ H Q→
  wpAny (model X.prog X.w) X.A (eval a X.env) (fun v s₁=>wpAny (model X.prog X.w) X.A (eval b X.env) (fun u s₂=>wpAny (model X.prog X.w) X.A (compareOp op v u) (EP X pins σ Q) X.xe s₂) X.xe s₁) X.xe s
def qb (p:Int->Int->Bool) (ta tb:TE):TE:=fun σ H Q=>C0 ta tb (fun i j H2=>Q (.bl (p i j)) H2) σ H
abbrev Gx:TE->TE->TE:=qb fun i j=>decide (i < j)
abbrev Gy:TE->TE->TE:=qb fun i j=>decide (i≤j)
abbrev Gz:TE->TE->TE:=qb fun i j=>decide (j < i)
abbrev GA:TE->TE->TE:=qb fun i j=>decide (j≤i)
abbrev FH:TE->TE->TE:=qb fun i j=>decide (i=j)
abbrev FD:TE->TE->TE:=qb fun i j=>!decide (i=j)
def FF (ta:TE):TE:=fun σ H Q=>ta σ H fun x H1=>Q (.bl (decide (x=.non))) H1
def EB (ta:TE):TE:=fun σ H Q=>ta σ H fun x H1=>Q (.bl (!decide (x=.non))) H1
def tB (t:TE):TT:=fun σ H Q=>t σ H fun x H1=>∃ c,x=.bl c/\Q c H1
theorem zO {e:Expr} {t:TE} (h:PE X e t) (he:∀ whole,isTrue e X.env whole=(do let v ← whole;standAt e.pos;holding [v] (truthy v)):=by intro _;rfl):PT X e (tB t):=by
 intro pins s σ H Q I hw
 refine isTrue_plain (cb (h pins s σ H _ I hw) fun v s1 ⟨x,H1,I1,r1,q1⟩=>?_) (he _)
 obtain⟨d,rfl,q⟩:=q1
 cases r1
 exact wpAny_truthy_bool ⟨H1,I1,q⟩
variable {tA tB':TT} {d7:List Expr}
def BL (t u:TT):TT:=fun σ H Q=>t σ H fun c H1=>if c=true then u σ H1 Q else Q false H1
def EA (t u:TT):TT:=fun σ H Q=>t σ H fun c H1=>if c=true then Q true H1 else u σ H1 Q
def BF (t:TT):TT:=fun σ H Q=>t σ H fun c H1=>Q (!c) H1
theorem wG (ha:PT X a tA):PW X (.BoolOp .And [a] pos) tA:=by
 intro wh pins s σ H Q I h
 refine isTrue_and (cb (ha pins s σ H Q I h) fun c s1 e=>?_)
 cases c with
 | true=>exact isTrue_and_nil e
 | false=>exact e
theorem zK (ha:PT X a tA):PW X (.BoolOp .Or [a] pos) tA:=by
 intro wh pins s σ H Q I h
 refine isTrue_or (cb (ha pins s σ H Q I h) fun c s1 e=>?_)
 cases c with
 | false=>exact isTrue_or_nil e
 | true=>exact e
theorem zM (ha:PT X a tA) (hb:PW X (.BoolOp .And (b :: d7) pos) tB'):PW X (.BoolOp .And (a :: b :: d7) pos) (BL tA tB'):=by
 intro wh pins s σ H Q I h
 refine isTrue_and (cb (ha pins s σ H _ I h) fun c s1 ⟨H1,I1,q1⟩=>?_)
 cases c with
 | true=>exact hb wh pins s1 σ H1 Q I1 q1
 | false=>exact⟨H1,I1,q1⟩
theorem B0 (ha:PT X a tA) (hb:PW X (.BoolOp .Or (b :: d7) pos) tB'):PW X (.BoolOp .Or (a :: b :: d7) pos) (EA tA tB'):=by
 intro wh pins s σ H Q I h
 refine isTrue_or (cb (ha pins s σ H _ I h) fun c s1 ⟨H1,I1,q1⟩=>?_)
 cases c with
 | true=>exact⟨H1,I1,q1⟩
 | false=>exact hb wh pins s1 σ H1 Q I1 q1
theorem zP (ha:PT X a tA):PT X (.UnaryOp .Not a pos) (BF tA):=by
 intro pins s σ H Q I h
 exact isTrue_not (ha pins s σ H (fun c H1=>Q (!c) H1) I h)
def xZ (ta tb:TE):TE:=fun σ H Q=>ta σ H fun x H1=>∃ c,x=.bl c/\if c=true then tb σ H1 Q else Q (.bl false) H1
def FC (ta tb:TE):TE:=fun σ H Q=>ta σ H fun x H1=>∃ c,x=.bl c/\if c=true then Q (.bl true) H1 else tb σ H1 Q
def xU (ta:TE):TE:=fun σ H Q=>ta σ H fun x H1=>∃ c,x=.bl c/\Q (.bl (!c)) H1
theorem Ae {op} {t:TE} (h:PE X a t):PE X (.BoolOp op [a] pos) t:=fun pins s σ H Q I hw=>BoolOp_one (h pins s σ H Q I hw)
theorem Aj (ha:PE X a ta) (hb:PE X (.BoolOp .And (b :: d7) pos) tb):PE X (.BoolOp .And (a :: b :: d7) pos) (xZ ta tb):=by
 intro pins s σ H Q I h
 refine BoolOp_and (cb (ha pins s σ H _ I h) fun v s1 ⟨x,H1,I1,r1,q1⟩=>?_)
 obtain⟨c,rfl,q1⟩:=q1
 cases r1
 refine wpAny_truthy_bool ?_
 cases c with
 | true=>exact hb pins s1 σ H1 Q I1 q1
 | false=>exact⟨.bl false,H1,I1,rfl,q1⟩
theorem Af (ha:PE X a ta):PE X (.UnaryOp .Not a pos) (xU ta):=by
 intro pins s σ H Q I h
 refine UnaryOp_ (cb (ha pins s σ H _ I h) fun v s1 ⟨x,H1,I1,r1,q1⟩=>?_)
 obtain⟨c,rfl,q1⟩:=q1
 cases r1
 exact not_of (wpAny_truthy_bool ⟨.bl (!c),H1,I1,rfl,q1⟩)
def EE (t:TT) (ta tb:TE):TE:=fun σ H Q=>t σ H fun c H1=>if c=true then ta σ H1 Q else tb σ H1 Q
theorem uu {c:Expr} (hc:PT X c tA) (ha:PE X a ta) (hb:PE X b tb):PE X (.IfExp c a b pos) (EE tA ta tb):=by
 intro pins s σ H Q I h
 refine wpAny_IfExp (cb (hc pins s σ H _ I h) fun d s1 ⟨H1,I1,q1⟩=>?_)
 cases d with
 | true=>exact ha pins s1 σ H1 Q I1 q1
 | false=>exact hb pins s1 σ H1 Q I1 q1
end
end L2
namespace L2
open PySem PySem.Spec PyProof.Rows
def aW (K:PySem.W.Frag) (H:Hp) (a:Addr) (xs:List V):Prop:=
 Rd H a (.lst xs)∨
  ∃ (o:Obj) (its:Array Value) (n:Nat),K.lookup a=some o/\o.cls=.type "list" /\ o.dict=none/\o.data=.seq its n/\its.size≤sizeLine/\bg xs its.toList
def bh (K:PySem.W.Frag) (H:Hp) (a:Addr) (xs:List V):Prop:=
 Rd H a (.tup xs)∨
  ∃ (o:Obj) (its:Array Value) (n:Nat),K.lookup a=some o/\o.cls=.type "tuple" /\ o.data=.seq its n/\its.size≤sizeLine/\bg xs its.toList
def D7:Value->Option V
 | .none=>some .non
 | .bool b=>some (.bl b)
 | .int i _=>some (.int i)
 | .str x _=>some (.str x)
 | .bytes b _=>some (.byt b)
 | .float b _=>some (.flt b)
 | .ref a=>some (.ref a)
 | .type n=>some (.ty n)
 | _=>none
theorem aY.abs {x:V} {u:Value} (r:aY x u):D7 u=some x:=by
 cases x with
 | non=>cases r;rfl
 | bl _=>cases r;rfl
 | int _=>obtain⟨t,rfl⟩:=r;rfl
 | str _=>obtain⟨t,rfl⟩:=r;rfl
 | byt _=>obtain⟨t,rfl⟩:=r;rfl
 | flt _=>obtain⟨t,rfl⟩:=r;rfl
 | ref _=>cases r;rfl
 | ty _=>cases r;rfl
theorem aY.inj {x y:V} {u:Value} (r:aY x u) (q:aY y u):x=y:=Option.some.inj (r.abs.symm.trans q.abs)
theorem bg.inj:∀ {xs ys:List V} {us:List Value},bg xs us->bg ys us->xs=ys
 | _,_,_,.nil,.nil=>rfl
 | _,_,_,.cons r t,.cons r' t'=>by rw [r.inj r',bg.inj t t']
section
variable {X:Cx} {pins:List (Addr×Obj)} {σ:St} {H:Hp} {s:Shared} {a:Addr} {xs ys:List V}
theorem aW.of {K:PySem.W.Frag} (h:H a=some (.lst xs)):aW K H a xs:=.inl (.inl h)
theorem bh.of {K:PySem.W.Frag} (h:H a=some (.tup xs)):bh K H a xs:=.inl (.inl h)
theorem Inv.list (I:Inv X pins σ H s) (h:aW X.K H a xs):∃ its:List Value,bg xs its/\PlainL s.heap a its.toArray/\xs.length≤sizeLine:=by
 rcases h with h | ⟨o,its,n,hk,hc,hd,hs,hz,r⟩
 ·obtain⟨z,its,n,r,e⟩:=h.ok I.hok
  exact⟨its,r,⟨_,n,e,rfl,rfl,rfl⟩,z⟩
 ·refine⟨its.toList,r,⟨o,n,I.kIn a o hk,hc,hd,by simpa using hs⟩,?_⟩
  have e:=r.length
  simp only [Array.length_toList] at e
  omega
theorem Inv.tuple (I:Inv X pins σ H s) (h:bh X.K H a xs):∃ its:List Value,bg xs its/\IsTup s.heap a its.toArray/\xs.length≤sizeLine:=by
 rcases h with h | ⟨o,its,n,hk,hc,hs,hz,r⟩
 ·obtain⟨z,its,r,p⟩:=h.ok I.hok
  exact⟨its,r,p,z⟩
 ·refine⟨its.toList,r,⟨o,I.kIn a o hk,hc,n,by simpa using hs⟩,?_⟩
  have e:=r.length
  simp only [Array.length_toList] at e
  omega
theorem Inv.list_inj (I:Inv X pins σ H s) (h:aW X.K H a xs) (h':aW X.K H a ys):xs=ys:=by
 obtain⟨its,r,⟨o,n,e,_,_,d⟩,_⟩:=I.list h
 obtain⟨its',r',⟨o',n',e',_,_,d'⟩,_⟩:=I.list h'
 rw [e] at e';cases e'
 rw [d] at d'
 injection d' with d1 _
 have:its=its':=by simpa using congrArg Array.toList d1
 subst this
 exact r.inj r'
theorem Inv.tuple_inj (I:Inv X pins σ H s) (h:bh X.K H a xs) (h':bh X.K H a ys):xs=ys:=by
 obtain⟨its,r,⟨o,e,_,n,d⟩,_⟩:=I.tuple h
 obtain⟨its',r',⟨o',e',_,n',d'⟩,_⟩:=I.tuple h'
 rw [e] at e';cases e'
 rw [d] at d'
 injection d' with d1 _
 have:its=its':=by simpa using congrArg Array.toList d1
 subst this
 exact r.inj r'
end
abbrev Cx.wish (X:Cx) (E:Value->Shared->Prop):Cx:={ X with xe:=E }
abbrev Cx.nox (X:Cx):Cx:=X.wish fun _ _=>False
theorem Cx.Ok.wish {X:Cx} (ok:X.Ok) (E:Value->Shared->Prop):(X.wish E).Ok:=
 ⟨ok.mod,ok.kind,ok.glob,ok.blt,ok.above,ok.inj,ok.has,ok.cab,ok.hd,ok.frames,ok.stk,ok.exf,ok.bs,ok.bsz,ok.noex,ok.exfs,ok.funs,ok.frf⟩
theorem Cx.Ok.unwish {X:Cx} {E:Value->Shared->Prop} (ok:(X.wish E).Ok):X.Ok:=
 ⟨ok.mod,ok.kind,ok.glob,ok.blt,ok.above,ok.inj,ok.has,ok.cab,ok.hd,ok.frames,ok.stk,ok.exf,ok.bs,ok.bsz,ok.noex,ok.exfs,ok.funs,ok.frf⟩
section
variable {X:Cx} {pins:List (Addr×Obj)} {σ:St} {H:Hp} {s:Shared} {E:Value->Shared->Prop}
theorem Inv.wish (I:Inv X pins σ H s) (E:Value->Shared->Prop):Inv (X.wish E) pins σ H s:=⟨I.ok.wish E,I.os,I.bare,I.base,I.loc,I.cell,I.free,I.freeC,I.pin,I.hok,I.len⟩
theorem Inv.unwish (I:Inv (X.wish E) pins σ H s):Inv X pins σ H s:=⟨I.ok.unwish,I.os,I.bare,I.base,I.loc,I.cell,I.free,I.freeC,I.pin,I.hok,I.len⟩
theorem SP.unwish {D:iq} {f:Flow} {s':Shared} (h:SP (X.wish E) pins D f s'):SP X pins D f s':=by
 cases f with
 | next=>obtain⟨σ',H',I,q⟩:=h;exact⟨σ',H',I.unwish,q⟩
 | brk=>obtain⟨σ',H',I,q⟩:=h;exact⟨σ',H',I.unwish,q⟩
 | cont=>obtain⟨σ',H',I,q⟩:=h;exact⟨σ',H',I.unwish,q⟩
 | ret u=>obtain⟨v,σ',H',I,r,q⟩:=h;exact⟨v,σ',H',I.unwish,r,q⟩
theorem nh.nox {st:List Stmt} {t:TS} (h:nh X.nox st t):nh X st t:=fun pins s σ H D I hw=>
 wpAny_mono (h pins s σ H D (I.wish _) hw) (fun _ _ q=>q.unwish) fun _ _ z=>False.elim z
end
section
variable {X:Cx} {st:Stmt} {d7:List Stmt} {t u:TS} {e:Expr} {te:TE} {pos:Pos}
def xV:TS:=fun D σ H=>D.nx σ H
def yP (t u:TS):TS:=fun D σ H=>t { D with nx:=u D } σ H
theorem wL:nh X [] xV:=fun _ _ σ H _ I h=>wpAny_execs_nil ⟨σ,H,I,h⟩
theorem ue (h1:PS X st t) (h2:nh X d7 u):nh X (st :: d7) (yP t u):=by
 intro pins s σ H D I h
 refine wpAny_execs_cons (cb (h1 pins s σ H { D with nx:=u D } I h) fun f s1 q=>?_)
 cases f with
 | next=>
  obtain⟨σ',H',I',q⟩:=q
  exact h2 pins s1 σ' H' D I' q
 | ret v=>exact q
 | brk=>exact q
 | cont=>exact q
theorem wK (h1:PS X st t):nh X [st] t:=by
 intro pins s σ H D I h
 refine wpAny_execs_cons (cb (h1 pins s σ H D I h) fun f s1 q=>?_)
 cases f with
 | next=>exact wpAny_execs_nil q
 | ret v=>exact q
 | brk=>exact q
 | cont=>exact q
def DB:TS:=fun D σ H=>D.bk σ H
def EI:TS:=fun D σ H=>D.ct σ H
theorem Inv.quiet {pins:List (Addr×Obj)} {σ:St} {H:Hp} {s:Shared} (I:Inv X pins σ H s):interactive X.env=false:=by simp [interactive,I.ok.kind]
def xW (te:TE):TS:=fun D σ H=>te σ H fun _ H1=>D.nx σ H1
theorem wN (he:PE X e te) (hs:swapsWith e none pos.line X.env=pure false:=by rfl):PS X (.Expr e pos) (xW te):=by
 intro pins s σ H D I h
 exact wpAny_Expr_any (cb (he pins s σ H _ I h) fun v s1 ⟨x,H1,I1,r1,q1⟩=>⟨σ,H1,I1,q1⟩) I.quiet hs
def BD (te:TE):TS:=fun D σ H=>te σ H D.rt
theorem zR (he:PE X e te):PS X (.Return (some e) pos) (BD te):=by
 intro pins s σ H D I h
 exact wpAny_Return_some (cb (he pins s σ H _ I h) fun v s1 ⟨x,H1,I1,r1,q1⟩=>⟨x,σ,H1,I1,r1,q1⟩)
def Ez:TS:=fun D _ H=>D.rt .non H
def BI (c:TT) (t u:TS):TS:=fun D σ H=>c σ H fun b H1=>if b=true then t D σ H1 else u D σ H1
theorem B1 {c:Expr} {a b:List Stmt} {tc:TT} (hc:PT X c tc) (ha:nh X a t) (hb:nh X b u):PS X (.If c a b pos) (BI tc t u):=by
 intro pins s σ H D I h
 refine wpAny_If (cb (hc pins s σ H _ I h) fun d s1 ⟨H1,I1,q1⟩=>?_)
 cases d with
 | true=>exact ha pins s1 σ H1 D I1 q1
 | false=>exact hb pins s1 σ H1 D I1 q1
def rJ:TS:=fun _ _ _=>False
theorem uh:PS X st rJ:=fun _ _ _ _ _ _ h=>h.elim
end
abbrev TG:=V->St->Hp->(St->Hp->Prop)->Prop
abbrev vD:=List V->St->Hp->(St->Hp->Prop)->Prop
def PG (X:Cx) (target:Expr) (t:TG):Prop:=
 ∀ (pins:List (Addr×Obj)) (s:Shared) (σ:St) (H:Hp) (v:V) (u:Value) (Q:St->Hp->Prop),Inv X pins σ H s->aY v u->t v σ H Q→
  wpAny (model X.prog X.w) X.A (assign target X.env u) (fun _ s'=>∃ σ' H',Inv X pins σ' H' s'/\Q σ' H') X.xe s
def CK (X:Cx) (ts:List Expr) (t:vD):Prop:=
 ∀ (pins:List (Addr×Obj)) (s:Shared) (σ:St) (H:Hp) (vs:List V) (us:List Value) (Q:St->Hp->Prop),Inv X pins σ H s->bg vs us->t vs σ H Q→
  wpAny (model X.prog X.w) X.A (assignInOrder ((assignEach ts X.env).map (·.2)) us) (fun _ s'=>∃ σ' H',Inv X pins σ' H' s'/\Q σ' H') X.xe s
abbrev ou:=V->V->V->Hp->(Hp->Prop)->Prop
def vF (X:Cx) (t:ou):Prop:=
 ∀ (pins:List (Addr×Obj)) (s:Shared) (σ:St) (H:Hp) (o i v:V) (ov iv u:Value) (Q:Hp->Prop),Inv X pins σ H s->aY o ov->aY i iv->aY v u->t o i v H Q→
  wpAny (model X.prog X.w) X.A (setItem ov iv u) (fun _ s'=>∃ H',Inv X pins σ H' s'/\Q H') X.xe s
abbrev yJ:=V->V->Hp->VK->Prop
def CJ (X:Cx) (op:Operator) (t:yJ):Prop:=
 ∀ (pins:List (Addr×Obj)) (s:Shared) (σ:St) (H:Hp) (x y:V) (v u:Value) (Q:VK),Inv X pins σ H s->aY x v->aY y u->t x y H Q→
  wpAny (model X.prog X.w) X.A (inplaceOp op v u) (EP X pins σ Q) X.xe s
section
variable {X:Cx} {pos:Pos}
def jG (i:Nat):TG:=fun v σ H Q=>Q (σ.set i (some v)) H
theorem wW {i:Nat} {x:Str} (hN:X.N.Nodup) (hi:X.N[i]?=some x) (hx:vG X.env.scope x) (hf:X.fn x=true∨X.env.scope.names.lookup x=some .local:=by first | exact .inl rfl | exact .inr rfl | assumption):PG X (.Name x pos) (jG i):=by
 intro pins s σ H v u Q I r h
 exact wpAny_assign_Name (fw I hN hi hx r (fun s' I'=>⟨_,H,I',h⟩) hf)
def Cu:vD:=fun vs σ H Q=>vs=[]/\Q σ H
def yo (t:TG) (u:vD):vD:=fun vs σ H Q=>∃ v r,vs=v :: r/\t v σ H fun σ' H'=>u r σ' H' Q
theorem wV:CK X [] Cu:=by
 intro pins s σ H vs us Q I r h
 obtain⟨e,h⟩:=h
 subst e
 cases r
 exact assignInOrder_nil ⟨σ,H,I,h⟩
theorem uo {e:Expr} {es:List Expr} {t:TG} {u:vD} (h1:PG X e t) (h2:CK X es u)
  (hs:(assignEach (e :: es) X.env).map (·.2)=assign e X.env :: (assignEach es X.env).map (·.2):=by rfl):CK X (e :: es) (yo t u):=by
 intro pins s σ H vs us Q I r h
 obtain⟨v,vr,e1,h⟩:=h
 subst e1
 cases r with
 | cons r rr=>
  rw [hs]
  refine assignInOrder_cons (cb (h1 pins s σ H _ _ _ I r h) fun _ s1 ⟨σ1,H1,I1,q1⟩=>?_)
  exact h2 pins s1 σ1 H1 _ _ Q I1 rr q1
def Cs (K:PySem.W.Frag) (n:Nat) (t:vD):TG:=fun v σ H Q=>∃ a xs,v=.ref a/\bh K H a xs/\xs.length=n/\t xs σ H Q
theorem zZ {es:List Expr} {k:Nat} {t:vD} {n:Nat} (hc:X.calm=true) (h:CK X es t)
  (hn:(assignEach es X.env).length=n:=by rfl) (hst:(assignEach es X.env).findIdx? (·.1)=none:=by rfl):PG X (.Tuple es k pos) (Cs X.K n t):=by
 intro pins s σ H v u Q I r hw
 obtain⟨a,xs,e1,hq,hl,hw⟩:=hw
 subst e1
 cases r
 obtain⟨its,rv,ht,hz⟩:=I.tuple hq
 refine assign_Tuple_tuple (I.ok.hd hc) ht (by simp [hn,← hl,rv.length]) hst fun h' hx=>?_
 have I1:Inv X pins σ H { s with heap:=h' }:=I.kept (t':=s.toks) fun b o e=>hx b o (Nat.ne_of_lt (Heap.lt_size e)) e
 exact h pins _ σ H xs _ Q I1 (by simpa using rv) hw
def Ct (to ti:TE) (t:ou):TG:=fun v σ H Q=>to σ H fun o H1=>ti σ H1 fun i H2=>t o i v H2 fun H3=>Q σ H3
theorem z9 {o i:Expr} {to ti:TE} {t:ou} (ho:PE X o to) (hi:PE X i ti) (hs:vF X t)
  (ha:∀ v,assign (.Subscript o i pos) X.env v=(do
   let ov ← holding [v] (eval o X.env)
   let iv ← holding [v,ov] (eval i X.env)
   standAt pos
   holding [v,ov,iv] (setItem ov iv v)
   release [v,ov,iv] []):=by intro _;rfl):PG X (.Subscript o i pos) (Ct to ti t):=by
 intro pins s σ H v u Q I r h
 rw [ha]
 refine wpAny_bind (wpAny_holding (cb (ho pins s σ H _ I h) fun ov s1 ⟨x,H1,I1,r1,q1⟩=>?_))
 refine wpAny_bind (wpAny_holding (cb (hi pins s1 σ H1 _ I1 q1) fun iv s2 ⟨y,H2,I2,r2,q2⟩=>?_))
 refine wpAny_bind (wpAny_standAt (wpAny_bind (wpAny_holding (cb (hs pins s2 σ H2 x y v ov iv u _ I2 r1 r2 r q2) fun _ s3 ⟨H3,I3,q3⟩=>?_))))
 exact wpAny_release ⟨σ,H3,I3,q3⟩
def ny (te:TE) (g:TG):TS:=fun D σ H=>te σ H fun x H1=>g x σ H1 D.nx
theorem zV {tg e:Expr} {te:TE} {g:TG} (he:PE X e te) (hg:PG X tg g) (hs:swapsWithSole [tg] e pos.line X.env=pure false:=by rfl) (hw:swappedStores [tg] e X.env=pure none:=by rfl)
  (h1:(assignEach [tg] X.env).map (·.2)=[assign tg X.env]:=by rfl):PS X (.Assign [tg] e pos) (ny te g):=by
 intro pins s σ H D I h
 refine wpAny_Assign_stores (cb (he pins s σ H _ I h) fun v s1 ⟨x,H1,I1,r1,q1⟩=>?_) hs hw
 rw [h1]
 exact cb (hg pins s1 σ H1 x v _ I1 r1 q1) fun _ s2 q=>q
theorem zQ {i:Nat} {x:Str} {e:Expr} {te:TE} {pos':Pos} (hN:X.N.Nodup) (hi:X.N[i]?=some x) (hx:vG X.env.scope x) (he:PE X e te) (hs:swapsWith e (some (.Name x pos')) pos.line X.env=pure false:=by rfl) (hf:X.fn x=true∨X.env.scope.names.lookup x=some .local:=by first | exact .inl rfl | exact .inr rfl | assumption) :
  PS X (.Assign [.Name x pos'] e pos) (ny te (jG i)):=by
 intro pins s σ H D I h
 refine wpAny_Assign_Name (cb (he pins s σ H _ I h) fun v s1 ⟨y,H1,I1,r1,q1⟩=>?_) hs
 exact fw I1 hN hi hx r1 (fun s2 I2=>⟨_,H1,I2,q1⟩) hf
def BE (i j:Nat) (ta:TA):TS:=fun D σ H=>ta σ H fun vs H1=>∃ v w,vs=[v,w]/\D.nx ((σ.set i (some v)).set j (some w)) H1
theorem zS {i j:Nat} {x y:Str} {a b:Expr} {ta:TA} {px py pt:Pos} {kt k2 pt2} (hc:X.calm=true) (hN:X.N.Nodup) (hi:X.N[i]?=some x) (hj:X.N[j]?=some y) (hij:i≠j)
  (hx:X.env.scope.names.lookup x=some .local) (hy:X.env.scope.names.lookup y=some .local) (ha:PA X [a,b] ta)
  (hw:swappedStores [.Tuple [.Name x px,.Name y py] kt pt] (.Tuple [a,b] k2 pt2) X.env=pure (some [x,y]))
  (hs:swapsWithSole [.Tuple [.Name x px,.Name y py] kt pt] (.Tuple [a,b] k2 pt2) pos.line X.env=pure false:=by rfl) :
  PS X (.Assign [.Tuple [.Name x px,.Name y py] kt pt] (.Tuple [a,b] k2 pt2) pos) (BE i j ta):=by
 intro pins s σ H D I h
 rw [exec_Assign_arm]
 refine wpAny_bind (wpAny_standAt ?_)
 rw [hs]
 refine wpAny_bind (wpAny_pure ?_)
 rw [if_neg (by decide)]
 refine wpAny_bind (Tuple_ (cb (ha _ pins s σ H _ I h) fun us s1 ⟨vs,H1,I1,r1,q1⟩=>?_))
 obtain⟨v,w,e1,q1⟩:=q1
 subst e1
 obtain⟨u1,u2,rfl,rv,rw'⟩:∃ u1 u2,us=[u1,u2]/\aY v u1/\aY w u2:=by
  cases r1 with
  | cons p q=>
   cases q with
   | cons p' q'=>
    cases q'
    exact⟨_,_,rfl,p,p'⟩
 refine wpAny_newObj_type ?_ cY
 have I2:Inv X pins σ H1 { s1 with heap:=s1.heap.push { cls:=.type "tuple", data:=.seq [u1,u2].toArray } }:=I1.kept (t':=s1.toks) fun b o e=>Heap.get?_push_of_some _ e
 rw [hw]
 refine wpAny_bind (wpAny_pure ?_)
 show wpAny (model X.prog X.w) X.A (do rule "assign.swapped-stores";let items ← unpackItems (.ref s1.heap.objs.size) 2 none;assignInOrder [fun v=>bindName X.env y v,fun v=>bindName X.env x v] items.reverse;pure Flow.next) _ _ _
 refine wpAny_bind (wpAny_rule (wpAny_bind (unpackItems_tuple (items:=#[u1,u2]) (I.ok.hd hc) (IsTup.new s1.heap _) fun h' hx'=>?_)))
 have I3:=I2.kept (h':=h') (t':=s1.toks) fun b o e=>hx' b o (Nat.ne_of_lt (Heap.lt_size e)) e
 show wpAny _ _ (assignInOrder [fun v=>bindName X.env y v,fun v=>bindName X.env x v] [u2,u1] >>= fun _=>pure Flow.next) _ _ _
 refine wpAny_bind (assignInOrder_cons (wpAny_bindName (fw I3 hN hj (.inl hy) rw' (fun s2 I4=>?_) (.inr hy))))
 refine assignInOrder_cons (wpAny_bindName (fw I4 hN hi (.inl hx) rv (fun s3 I5=>assignInOrder_nil (wpAny_pure ?_)) (.inr hx)))
 rw [List.set_comm _ _ (Ne.symm hij)] at I5
 exact⟨_,H1,I5,q1⟩
def BK (i:Nat) (te:TE) (ti:yJ):TS:=fun D σ H=>∃ x,σ[i]?=some (some x)/\te σ H fun y H1=>ti x y H1 fun z H2=>D.nx (σ.set i (some z)) H2
theorem zU {i:Nat} {x:Str} {e:Expr} {te:TE} {op:Operator} {ti:yJ} {pos':Pos} (hN:X.N.Nodup) (hi:X.N[i]?=some x) (hx:vG X.env.scope x) (he:PE X e te) (ho:CJ X op ti) (hf:X.fn x=true∨X.env.scope.names.lookup x=some .local:=by first | exact .inl rfl | exact .inr rfl | assumption) :
  PS X (.AugAssign (.Name x pos') op e pos) (BK i te ti):=by
 intro pins s σ H D I h
 obtain⟨v,e1,h⟩:=h
 obtain⟨m,hn,hl⟩:=I.loc
 have vis:CB X.env.scope x:=by rcases hx with k | k;exact .inl k;exact .inr (.inl k)
 obtain⟨u,r,l⟩:=hl i x v hi e1 vis
 refine wpAny_AugAssign_Name ?_
 have go:wpAny (model X.prog X.w) X.A (eval e X.env) (fun w s₂=>wpAny (model X.prog X.w) X.A (inplaceOp op u w) (fun r s₃=>wpAny (model X.prog X.w) X.A (storeName X.env x r) (fun _=>SP X pins D .next) X.xe s₃) X.xe s₂) X.xe s:=by
  refine cb (he pins s σ H _ I h) fun w s1 ⟨y,H1,I1,r1,q1⟩=>?_
  refine cb (ho pins s1 σ H1 v y u w _ I1 r r1 q1) fun z s2 ⟨zv,H2,I2,r2,q2⟩=>?_
  exact fw I2 hN hi hx r2 (fun s3 I3=>⟨_,H2,I3,q2⟩) hf
 rcases l with ⟨hk,hm⟩ | ⟨hk,c,hc,hcell⟩
 ·exact wpAny_loadName_local I.ok.kind hk hn hm go
 ·rcases hk with hk | hk
  ·exact wpAny_loadName_cell I.ok.kind hk hc hcell go
  ·rcases hx with k | k
   ·have:X.env.scope.names.lookup x=some .free:=hk
    rw [k] at this;cases this
   ·have:X.env.scope.names.lookup x=some .free:=hk
    rw [k] at this;cases this
def xY (to ti te:TE) (tget:V->V->Hp->VK->Prop) (tip:yJ) (tset:ou):TS:=fun D σ H=>to σ H fun o H1=>ti σ H1 fun i H2=>tget o i H2 fun x H3=>te σ H3 fun y H4=>tip x y H4 fun z H5=>tset o i z H5 fun H6=>D.nx σ H6
def Ba (X:Cx) (t:V->V->Hp->VK->Prop):Prop:=
 ∀ (pins:List (Addr×Obj)) (s:Shared) (σ:St) (H:Hp) (o i:V) (ov iv:Value) (Q:VK),Inv X pins σ H s->aY o ov->aY i iv->t o i H Q→
  wpAny (model X.prog X.w) X.A (getItem ov iv) (EP X pins σ Q) X.xe s
theorem wP {o i e:Expr} {to ti te:TE} {tget:V->V->Hp->VK->Prop} {tip:yJ} {tset:ou} {op:Operator} {tpos:Pos} (ho:PE X o to) (hi:PE X i ti) (hg:Ba X tget) (he:PE X e te) (hp:CJ X op tip) (hs:vF X tset)
  (ha:∀ ov iv new,augStore i ov iv new=(do holding [new,ov,iv] (setItem ov iv new);release [new,ov,iv] [];pure .next):=by intros;rfl):PS X (.AugAssign (.Subscript o i tpos) op e pos) (xY to ti te tget tip tset):=by
 intro pins s σ H D I h
 refine wpAny_AugAssign_SubscriptAny (cb (ho pins s σ H _ I h) fun ov s1 ⟨x1,H1,I1,r1,q1⟩=>?_) ha
 refine cb (hi pins s1 σ H1 _ I1 q1) fun iv s2 ⟨x2,H2,I2,r2,q2⟩=>?_
 refine cb (hg pins s2 σ H2 x1 x2 ov iv _ I2 r1 r2 q2) fun old s3 ⟨x3,H3,I3,r3,q3⟩=>?_
 refine cb (he pins s3 σ H3 _ I3 q3) fun v s4 ⟨x4,H4,I4,r4,q4⟩=>?_
 refine cb (hp pins s4 σ H4 x3 x4 old v _ I4 r3 r4 q4) fun new s5 ⟨x5,H5,I5,r5,q5⟩=>?_
 exact cb (hs pins s5 σ H5 x1 x2 x5 ov iv new _ I5 r1 r2 r5 q5) fun _ s6 ⟨H6,I6,q6⟩=>⟨σ,H6,I6,q6⟩
def F7 (f:Int->Int->Int):yJ:=fun x y H Q=>∃ i j,x=.int i/\y=.int j/\Q (.int (f i j)) H
theorem uY:CJ X .Add (F7 fun i j=>i+j):=by
 intro pins s σ H x y v u Q I r1 r2 h
 obtain⟨i,j,e1,e2,q⟩:=h
 subst e1;subst e2
 obtain⟨t,rfl⟩:=r1
 obtain⟨t',rfl⟩:=r2
 exact iadd_int ⟨.int _,H,I.tok _,⟨_,rfl⟩,q⟩
end
section
variable {X:Cx} {pos:Pos}
def rG (c:TT) (tb:TS):TS:=fun D σ H=>∃ W:Nat->St->Hp->Prop,(∃ m,W m σ H)/\∀ m σ H,W m σ H→
 c σ H fun b H1=>if b=true then ∃ N:St->Hp->Prop,(∀ σ' H',N σ' H'->∃ m',m' < m/\W m' σ' H')/\tb { D with nx:=N,ct:=N,bk:=D.nx } σ H1 else D.nx σ H1
theorem ug {c:Expr} {body:List Stmt} {tc:TT} {tb:TS} (hp:PassesOwn (model X.prog X.w) X.A X.env X.xe) (hc:PT X c tc) (hb:nh X body tb):PS X (.While c body [] pos) (rG tc tb):=by
 intro pins s σ H D I h
 obtain⟨W,⟨m0,w0⟩,turn⟩:=h
 refine wpAny_While (codeAny_whileLoop (fun n s'=>∃ σ' H',Inv X pins σ' H' s'/\W n σ' H') ?_ m0 ⟨σ,H,I,w0⟩)
 rintro n s1 ⟨σ1,H1,I1,w1⟩
 refine wpAny_passesOwn hp (cb (hc pins s1 σ1 H1 _ I1 (turn n σ1 H1 w1)) fun b s2 ⟨H2,I2,q2⟩=>?_)
 cases b with
 | true=>
  obtain⟨N,hN,q2⟩:=q2
  rw [if_pos rfl]
  refine wpAny_passesOwn hp (cb (hb pins s2 σ1 H2 _ I2 q2) fun f s3 q3=>?_)
  cases f with
  | next=>
   obtain⟨σ3,H3,I3,n3⟩:=q3
   obtain⟨m',hm,w3⟩:=hN σ3 H3 n3
   exact⟨m',hm,σ3,H3,I3,w3⟩
  | cont=>
   obtain⟨σ3,H3,I3,n3⟩:=q3
   obtain⟨m',hm,w3⟩:=hN σ3 H3 n3
   exact⟨m',hm,σ3,H3,I3,w3⟩
  | brk=>exact q3
  | ret v=>exact q3
 | false=>
  rw [if_neg Bool.false_ne_true]
  exact wpAny_execs_nil ⟨σ1,H2,I2,q2⟩
end
structure It where
 go:Nat->Hp->Prop
 yld:Nat->Hp->V->Hp->Prop
 stop:Nat->Hp->Prop
def e7 (X:Cx) (pins:List (Addr×Obj)) (H:Hp) (b:Addr):Prop:=
 H b=none/\b≠X.env.locals/\b∉X.fs/\(b∈X.ex∨X.s₀.heap.get? b=none)/\(∀ x c,X.env.cells.lookup x=some c->c≠b)/\∀ p∈X.pn++pins,p.1≠b
theorem Inv.fpOk {X:Cx} {pins:List (Addr×Obj)} {σ:St} {H H':Hp} {s:Shared} {b:Addr} (I:Inv X pins σ H s) (hb:s.heap.objs.size≤b) (hn:H' b=none):e7 X pins H' b:=by
 refine⟨hn,Nat.ne_of_gt (Nat.lt_of_lt_of_le I.lt hb),I.nofs hb,.inr (Heap.get?_none_of_le (Nat.le_trans I.sz hb)),fun x c e z=>?_,fun p hp z=>?_⟩
 ·obtain⟨v,q⟩:=I.cell x c e
  exact absurd (Nat.lt_of_lt_of_le q.lt (by rw [z];exact hb)) (Nat.lt_irrefl _)
 ·exact absurd (Nat.lt_of_lt_of_le (Heap.lt_size (I.pin p hp).1) (by rw [z];exact hb)) (Nat.lt_irrefl _)
structure oq (P:Program) (w:World) (K:PySem.W.Frag) (tg:Expr) (J:It) (fp:List Addr) (it:Addr) (tn:Nat->Heap->Prop):Prop where
 mem:it∈fp
 obj:∀ i h,tn i h->∀ b∈fp,∃ o,h.get? b=some o/\∀ v,o.data≠.cell v
 keep:∀ i h h',tn i h->(∀ b∈fp,∀ o,h.get? b=some o->h'.get? b=some o)->tn i h'
 item:∀ (X:Cx),X.prog=P->X.w=w->X.K=K->X.calm=true->∀ (i:Nat) (pins:List (Addr×Obj)) (s:Shared) (σ:St) (H:Hp) (E:Value->Shared->Prop),Inv X pins σ H s->(∀ b∈fp,e7 X pins H b)->tn i s.heap->J.go i H→
  wpAny (model P w) X.A (pyNext (.ref it)) (fun r s1=>∃ u,r=some u∧
   wpAny (model P w) X.A (letOwnedTupleGo tg (.ref it) u) (fun _ s2=>∃ x H',Inv X pins σ H' s2/\aY x u/\J.yld i H x H'/\tn (i+1) s2.heap/\∀ b∈fp,H' b=none) E s1) E s
 done:∀ (X:Cx),X.prog=P->X.w=w->X.K=K->X.calm=true->∀ (i:Nat) (pins:List (Addr×Obj)) (s:Shared) (σ:St) (H:Hp) (E:Value->Shared->Prop),Inv X pins σ H s->(∀ b∈fp,e7 X pins H b)->tn i s.heap->J.stop i H→
  wpAny (model P w) X.A (pyNext (.ref it)) (fun r s1=>r=none/\Inv X pins σ H s1) E s
 self:∀ (A:Around) (i:Nat) (s:Shared) (Q:Value->Shared->Prop) (E:Value->Shared->Prop),tn i s.heap->Q (.ref it) s->wpAny (model P w) A (pyIter (.ref it)) Q E s
abbrev TI:=St->Hp->(It->Hp->Prop)->Prop
def Fk (X:Cx) (pins:List (Addr×Obj)) (σ:St) (tg:Expr) (R:It->Hp->Prop) (itv:Value) (s2:Shared):Prop:=
 ∃ (it:Addr) (fp:List Addr) (tn:Nat->Heap->Prop) (J:It) (H':Hp),itv=.ref it/\Inv X pins σ H' s2/\oq X.prog X.w X.K tg J fp it tn/\tn 0 s2.heap/\(∀ b∈fp,e7 X pins H' b)/\R J H'
def PI (X:Cx) (tg iter:Expr) (wi:TI):Prop:=
 ∀ (pins:List (Addr×Obj)) (s:Shared) (σ:St) (H:Hp) (R:It->Hp->Prop),Inv X pins σ H s->wi σ H R→
  wpAny (model X.prog X.w) X.A (eval iter X.env) (fun v s1=>wpAny (model X.prog X.w) X.A (pyIter v) (Fk X pins σ tg R) X.xe s1) X.xe s
theorem u7 {M:Model} {A:Around} {E:Value->Shared->Prop} {s:Shared} {tg:Expr} {it:Addr} {u:Value} {o:Obj} {n:String} {vs:Array Value} {Q:Unit->Shared->Prop} (ho:s.heap.get? it=some o) (hc:o.cls=.type n) (hd:o.data=.fields vs)
  (hn:["enumerate", "zip", "dict_itemiterator", "dict_reverseitemiterator", "odict_iterator", "itertools.zip_longest", "itertools.pairwise"].contains n=false) (hQ:Q () s):wpAny M A (letOwnedTupleGo tg (.ref it) u) Q E s:=by
 unfold letOwnedTupleGo
 cases tg <;> first
  | exact wpAny_pure hQ
  | (cases u <;> first
    | exact wpAny_pure hQ
    | (refine wpAny_bind (wpAny_load ho ?_)
       rw [hc,hd]
       show wpAny M A (if (["enumerate", "zip", "dict_itemiterator", "dict_reverseitemiterator", "odict_iterator", "itertools.zip_longest", "itertools.pairwise"].contains n && vs[0]? == some (rawInt _))=true then _ else _) Q E s
       rw [if_neg (by intro h;rw [hn,Bool.false_and] at h;cases h)]
       exact wpAny_pure hQ))
def rc (K:PySem.W.Frag) (a:Addr):It:=
 ⟨fun i H=>∃ xs x,aW K H a xs/\xs[i]?=some x,fun i H x H'=>H'=H/\∀ xs,aW K H a xs->xs[i]?=some x,fun i H=>∃ xs,aW K H a xs/\xs.length≤i⟩
def vI (K:PySem.W.Frag) (a:Addr):It:=
 ⟨fun i H=>∃ xs x,bh K H a xs/\xs[i]?=some x,fun i H x H'=>H'=H/\∀ xs,bh K H a xs->xs[i]?=some x,fun i H=>∃ xs,bh K H a xs/\xs.length≤i⟩
def vJ (lo:Int) (n:Nat):It:=⟨fun i _=>i < n,fun i H x H'=>H'=H/\x=.int (lo+i),fun i _=>n≤i⟩
theorem jZ {P:Program} {w:World} {K:PySem.W.Frag} {tg:Expr} (a it:Addr):oq P w K tg (rc K a) [it] it (fun i h=>h.IsListIter it a i) where
 mem:=by simp
 obj:=fun i h st b hb=>by
  have e:b=it:=by simpa using hb
  subst e
  obtain⟨o,e,c,d⟩:=st
  exact⟨o,e,fun v z=>by rw [d] at z;cases z⟩
 keep:=fun i h h' st k=>st.at fun o e=>k it (by simp) o e
 item:=by
  intro X hP hw hK hc i pins s σ H E I hf st hg
  subst hP hw hK
  obtain⟨xs,x,hq,hx⟩:=hg
  obtain⟨its,rv,p,hz⟩:=I.list hq
  obtain⟨u,hu,ru⟩:=rv.get hx
  obtain⟨f0,f1,f2,f3,f4,f5⟩:=hf it (by simp)
  refine wpAny_pyNext_list_item st p.isList (x:=u) (by simpa using hu) fun h' st' sb=>?_
  have I1:Inv X pins σ H { s with heap:=h' }:=I.turned (t':=s.toks) (fun b o hb e=>(sb.2 b hb).trans e) f0 f1 f3 f4 f5
  obtain⟨o,e,c,d⟩:=id st'
  exact⟨u,rfl,u7 (s:={ s with heap:=h' }) e c d (by decide) ⟨x,H,I1,ru,⟨rfl,fun ys hy=>by rw [I.list_inj hy hq];exact hx⟩,st',fun b hb=>(hf b hb).1⟩⟩
 done:=by
  intro X hP hw hK hc i pins s σ H E I hf st hg
  subst hP hw hK
  obtain⟨xs,hq,hx⟩:=hg
  obtain⟨its,rv,p,hz⟩:=I.list hq
  obtain⟨f0,f1,f2,f3,f4,f5⟩:=hf it (by simp)
  have hl:=rv.length
  exact wpAny_pyNext_list_end (I.ok.hd hc) st p.isList (by simp;omega) fun h' eb=>⟨rfl,I.turned (t':=s.toks) (fun b o hb e=>eb b o hb e) f0 f1 f3 f4 f5⟩
 self:=fun _ _ _ _ _ st h=>wpAny_pyIter_listiter st h
theorem jf {P:Program} {w:World} {K:PySem.W.Frag} {tg:Expr} (a it:Addr):oq P w K tg (vI K a) [it] it (fun i h=>h.IsTupleIter it a i) where
 mem:=by simp
 obj:=fun i h st b hb=>by
  have e:b=it:=by simpa using hb
  subst e
  obtain⟨o,e,c,d⟩:=st
  exact⟨o,e,fun v z=>by rw [d] at z;cases z⟩
 keep:=fun i h h' st k=>st.at fun o e=>k it (by simp) o e
 item:=by
  intro X hP hw hK hc i pins s σ H E I hf st hg
  subst hP hw hK
  obtain⟨xs,x,hq,hx⟩:=hg
  obtain⟨its,rv,p,hz⟩:=I.tuple hq
  obtain⟨u,hu,ru⟩:=rv.get hx
  obtain⟨f0,f1,f2,f3,f4,f5⟩:=hf it (by simp)
  refine wpAny_pyNext_tuple_item st (show s.heap.IsTuple a its.toArray from p) (x:=u) (by simpa using hu) fun h' st' sb=>?_
  have I1:Inv X pins σ H { s with heap:=h' }:=I.turned (t':=s.toks) (fun b o hb e=>(sb.2 b hb).trans e) f0 f1 f3 f4 f5
  obtain⟨o,e,c,d⟩:=id st'
  exact⟨u,rfl,u7 (s:={ s with heap:=h' }) e c d (by decide) ⟨x,H,I1,ru,⟨rfl,fun ys hy=>by rw [I.tuple_inj hy hq];exact hx⟩,st',fun b hb=>(hf b hb).1⟩⟩
 done:=by
  intro X hP hw hK hc i pins s σ H E I hf st hg
  subst hP hw hK
  obtain⟨xs,hq,hx⟩:=hg
  obtain⟨its,rv,p,hz⟩:=I.tuple hq
  obtain⟨f0,f1,f2,f3,f4,f5⟩:=hf it (by simp)
  have hl:=rv.length
  exact wpAny_pyNext_tuple_end (I.ok.hd hc) st (show s.heap.IsTuple a its.toArray from p) (by simp;omega) fun h' eb=>⟨rfl,I.turned (t':=s.toks) (fun b o hb e=>eb b o hb e) f0 f1 f3 f4 f5⟩
 self:=fun _ _ _ _ _ st h=>wpAny_pyIter_tupleiter st h
theorem nk {P:Program} {w:World} {K:PySem.W.Frag} {tg:Expr} (it:Addr) (lo:Int) (n:Nat):oq P w K tg (vJ lo n) [it] it (fun i h=>IsRangeIter h it (lo+(i:Nat) * 1) ((n:Int) - (i:Nat)) 1) where
 mem:=by simp
 obj:=fun i h st b hb=>by
  have e:b=it:=by simpa using hb
  subst e
  exact⟨_,st,fun v z=>by
   have z':Data.fields _=Data.cell v:=z
   cases z'⟩
 keep:=fun i h h' st k=>k it (by simp) _ st
 item:=by
  intro X hP hw hK hc i pins s σ H E I hf st hg
  subst hP hw hK
  obtain⟨f0,f1,f2,f3,f4,f5⟩:=hf it (by simp)
  have W:=Walks.range (prog:=X.prog) (w:=X.w) (I.ok.hd hc) it lo 1 n
  refine W.item i s _ _ hg st fun v h' tk hv st' kk=>?_
  obtain⟨t,rfl⟩:=hv
  have I1:Inv X pins σ H { s with heap:=h',toks:=tk }:=I.turned (fun b o hb e=>kk b o (by simpa using hb) e) f0 f1 f3 f4 f5
  refine⟨_,rfl,u7 (s:={ s with heap:=h',toks:=tk }) (n := "range_iterator") st' rfl rfl (by decide) ⟨.int (lo+i),H,I1,⟨t,?_⟩,⟨rfl,rfl⟩,st',fun b hb=>(hf b hb).1⟩⟩
  rw [Int.mul_one]
 done:=by
  intro X hP hw hK hc i pins s σ H E I hf st hg
  subst hP hw hK
  obtain⟨f0,f1,f2,f3,f4,f5⟩:=hf it (by simp)
  exact wpAny_pyNext_range_end (I.ok.hd hc) st (by have:n≤i:=hg;omega) fun h' eb=>⟨rfl,I.turned (t':=s.toks) (fun b o hb e=>eb b o hb e) f0 f1 f3 f4 f5⟩
 self:=fun _ _ _ _ _ st h=>wpAny_pyIter_rangeiter st h
end L2
namespace L2
open PySem PySem.Spec PyProof.Rows
section
variable {X:Cx} {tg:Expr}
def yk (K:PySem.W.Frag) (tl:TE):TI:=fun σ H R=>tl σ H fun x H1=>∃ a,x=.ref a/\(∃ xs,aW K H1 a xs)/\R (rc K a) H1
def Co (K:PySem.W.Frag) (tl:TE):TI:=fun σ H R=>tl σ H fun x H1=>∃ a,x=.ref a/\(∃ xs,bh K H1 a xs)/\R (vI K a) H1
theorem wU {l:Expr} {tl:TE} (hl:PE X l tl):PI X tg l (yk X.K tl):=by
 intro pins s σ H R I h
 refine cb (hl pins s σ H _ I h) fun v s1 ⟨x,H1,I1,r1,q1⟩=>?_
 obtain⟨a,e,⟨xs,hq⟩,q⟩:=q1
 subst e
 cases r1
 obtain⟨its,rv,p,hz⟩:=I1.list hq
 refine wpAny_pyIter_list p.isList ?_
 refine⟨s1.heap.objs.size,[s1.heap.objs.size],_,_,H1,rfl,I1.kept (t':=s1.toks) fun b o e=>Heap.get?_push_of_some _ e,jZ a _,⟨_,Heap.get?_push_size _ rfl,rfl,rfl⟩,fun b hb=>?_,q⟩
 have e:b=s1.heap.objs.size:=by simpa using hb
 subst e
 exact I1.fpOk (Nat.le_refl _) (I1.hok.fresh (Nat.le_refl _))
theorem zX {l:Expr} {tl:TE} (hl:PE X l tl):PI X tg l (Co X.K tl):=by
 intro pins s σ H R I h
 refine cb (hl pins s σ H _ I h) fun v s1 ⟨x,H1,I1,r1,q1⟩=>?_
 obtain⟨a,e,⟨xs,hq⟩,q⟩:=q1
 subst e
 cases r1
 obtain⟨its,rv,p,hz⟩:=I1.tuple hq
 refine wpAny_pyIter_tuple (show s1.heap.IsTuple a its.toArray from p) ?_
 refine⟨s1.heap.objs.size,[s1.heap.objs.size],_,_,H1,rfl,I1.kept (t':=s1.toks) fun b o e=>Heap.get?_push_of_some _ e,jf a _,⟨_,Heap.get?_push_size _ rfl,rfl,rfl⟩,fun b hb=>?_,q⟩
 have e:b=s1.heap.objs.size:=by simpa using hb
 subst e
 exact I1.fpOk (Nat.le_refl _) (I1.hok.fresh (Nat.le_refl _))
theorem tR {pins:List (Addr×Obj)} {σ:St} {H:Hp} {s:Shared} {R:It->Hp->Prop} {E:Value->Shared->Prop} {lo hi:Int} {t u v:Tok} {tk:Nat} (I:Inv X pins σ H s) (h1:-(2 ^ 62)≤lo) (h2:lo < 2 ^ 62) (h3:-(2 ^ 62)≤hi) (h4:hi < 2 ^ 62)
  (q:R (vJ lo (hi - lo).toNat) H):wpAny (model X.prog X.w) X.A (pyIter (.ref s.heap.objs.size)) (Fk X pins σ tg R) E { s with heap:=s.heap.push { cls:=.type "range", data:=.fields #[.int lo t,.int hi u,.int 1 v] },toks:=tk }:=by
 refine wpAny_pyIter_range (IsRange.new ..) (small_one h1 h2 h3 h4) ?_
 have I1:Inv X pins σ H { s with heap:=s.heap.push { cls:=.type "range", data:=.fields #[.int lo t,.int hi u,.int 1 v] },toks:=tk }:=I.kept fun b o e=>Heap.get?_push_of_some _ e
 refine⟨(s.heap.push { cls:=.type "range", data:=.fields #[.int lo t,.int hi u,.int 1 v] }).objs.size,[(s.heap.push { cls:=.type "range", data:=.fields #[.int lo t,.int hi u,.int 1 v] }).objs.size],_,_,H,rfl,
  I1.kept (t':=tk) fun b o e=>Heap.get?_push_of_some _ e,nk _ lo (hi - lo).toNat,?_,fun b hb=>?_,q⟩
 ·have e1:lo+((0:Nat):Int) * 1=lo:=by simp
  have e2:(((hi - lo).toNat:Nat):Int) - ((0:Nat):Int)=Builtin.Range.rangeSize lo hi 1:=by rw [rangeSize_one];split <;> omega
  show IsRangeIter _ _ (lo+((0:Nat):Int) * 1) ((((hi - lo).toNat:Nat):Int) - ((0:Nat):Int)) 1
  rw [e1,e2]
  exact Heap.get?_push_size _ rfl
 ·have e:b=(s.heap.push { cls:=.type "range", data:=.fields #[.int lo t,.int hi u,.int 1 v] }).objs.size:=by simpa using hb
  subst e
  exact I1.fpOk (Nat.le_refl _) (I1.hok.fresh (Nat.le_refl _))
def yj (ta:TA):TI:=fun σ H R=>ta σ H fun vs H1=>∃ j:Int,vs=[.int j]/\-(2 ^ 62)≤j/\j < 2 ^ 62/\R (vJ 0 j.toNat) H1
def Fa (ta:TA):TI:=fun σ H R=>ta σ H fun vs H1=>∃ i j:Int,vs=[.int i,.int j]/\(-(2 ^ 62)≤i/\i < 2 ^ 62/\-(2 ^ 62)≤j/\j < 2 ^ 62)/\R (vJ i (j - i).toNat) H1
theorem qu {a:Expr} {ta:TA} {p pos:Pos} (hg:Gl X "range") (hm:X.mg "range" = none) (ha:PA X [a] ta) (hs:starEach [a] X.env=[(false,eval a X.env)]:=by rfl):PI X tg (.Call (.Name "range" p) [a] [] pos) (yj ta):=by
 intro pins s σ H R I h
 refine Call_ (fZ I hg hm boot_range (PyProof.Rows.callWith_type1 (cb (ha pos pins s σ H _ I h) fun us s1 ⟨vs,H1,I1,r1,q1⟩=>?_) hs rfl))
 obtain⟨j,e,q1,q2,q⟩:=q1
 subst e
 cases r1 with
 | cons r rr=>
  cases rr
  obtain⟨t,rfl⟩:=r
  exact call_range_1 (tR I1 (by omega) (by omega) q1 q2 (by simpa using q))
def BJ (wi:TI) (g:TG) (tb:TS):TS:=fun D σ H=>wi σ H fun J H1=>∃ W:Nat->Nat->St->Hp->Prop,(∃ m,W 0 m σ H1)/\∀ i m σ H,W i m σ H→
 (J.stop i H/\D.nx σ H)∨(J.go i H/\∃ N:St->Hp->Prop,(∀ σ' H',N σ' H'->∃ m',m' < m/\W (i+1) m' σ' H')/\∀ x H',J.yld i H x H'->g x σ H' fun σ2 H2=>tb { D with nx:=N,ct:=N,bk:=D.nx } σ2 H2)
def js (fp:List Addr) (h:Heap):List (Addr×Obj):=fp.filterMap fun b=>(h.get? b).map fun o=>(b,o)
theorem fM {fp:List Addr} {h:Heap} {b:Addr} {o:Obj} (hb:b∈fp) (e:h.get? b=some o):(b,o)∈js fp h:=List.mem_filterMap.mpr ⟨b,hb,by rw [e];rfl⟩
theorem qz {fp:List Addr} {h:Heap} {p:Addr×Obj} (hp:p∈js fp h):p.1∈fp/\h.get? p.1=some p.2:=by
 obtain⟨b,hb,e⟩:=List.mem_filterMap.mp hp
 cases q:h.get? b with
 | none=>rw [q] at e;cases e
 | some o=>
  rw [q] at e
  have e':(b,o)=p:=Option.some.inj e
  subst e'
  exact⟨hb,q⟩
theorem Inv.pinned {pins:List (Addr×Obj)} {σ:St} {H:Hp} {s:Shared} {fp:List Addr} (I:Inv X pins σ H s) (hf:∀ b∈fp,e7 X pins H b) (ho:∀ b∈fp,∃ o,s.heap.get? b=some o/\∀ v,o.data≠.cell v):Inv X (pins++js fp s.heap) σ H s:=
 I.pins_of fun p hp=>(List.mem_append.mp hp).elim (fun z=>I.pin p (List.mem_append_right _ z)) fun z=>by
  obtain⟨hb,e⟩:=qz z
  obtain⟨f0,f1,f2,_⟩:=hf p.1 hb
  obtain⟨o,e',d⟩:=ho p.1 hb
  rw [e] at e';cases e'
  exact⟨e,f0,f1,f2,d⟩
theorem Inv.unpinned {pins pl:List (Addr×Obj)} {σ:St} {H:Hp} {s:Shared} (I:Inv X (pins++pl) σ H s):Inv X pins σ H s:=I.pins_of fun p hp=>I.pin p (List.mem_append_right _ (List.mem_append_left _ hp))
theorem zT {iter:Expr} {body:List Stmt} {wi:TI} {g:TG} {tb:TS} {pos:Pos} (hp:PassesOwn (model X.prog X.w) X.A X.env X.xe) (hc:X.calm=true) (hi:PI X tg iter wi) (hg:PG X tg g) (hb:nh X body tb)
  (hs:∀ x,foldedSetIterable iter X.env x=pure x:=by intro _;rfl):PS X (.For tg iter body [] pos) (BJ wi g tb):=by
 intro pins s σ H D I h
 refine wpAny_For (cb (hi pins s σ H _ I h) fun v s1 h1=>cb h1 fun itv s2 h2=>?_) hs
 obtain⟨it,fp,tn,J,H2,e,I2,T,st2,f2,W,⟨m0,w0⟩,turn⟩:=h2
 subst e
 have stat:∀ {H':Hp},(∀ b∈fp,H' b=none)->∀ b∈fp,e7 X pins H' b:=fun hn b hb=>⟨hn b hb,(f2 b hb).2⟩
 refine codeAny_forLoop_any (fun n s'=>∃ i σ' H',Inv X pins σ' H' s'/\tn i s'.heap/\(∀ b∈fp,H' b=none)/\W i n σ' H') ?_ m0 ⟨0,σ,H2,I2,st2,fun b hb=>(f2 b hb).1,w0⟩
 rintro n s3 ⟨i,σ3,H3,I3,st3,fr3,w3⟩
 rcases turn i n σ3 H3 w3 with ⟨stop,qn⟩ | ⟨go,N,hN,step⟩
 ·refine wpAny_passesOwn hp (cb (T.done X rfl rfl rfl hc i pins s3 σ3 H3 X.xe I3 (stat fr3) st3 stop) fun r s4 ⟨hr,I4⟩=>?_)
  subst hr
  exact wpAny_execs_nil ⟨σ3,H3,I4,qn⟩
 ·refine wpAny_passesOwn hp (cb (T.item X rfl rfl rfl hc i pins s3 σ3 H3 X.xe I3 (stat fr3) st3 go) fun r s4 ⟨u,hr,h4⟩=>?_)
  subst hr
  refine wpAny_passesOwn hp (cb h4 fun _ s5 ⟨x,H5,I5,r5,y5,st5,fr5⟩=>?_)
  have I5':=I5.pinned (stat fr5) (T.obj _ _ st5)
  refine wpAny_passesOwn hp (cb (hg _ s5 σ3 H5 x u _ I5' r5 (step x H5 y5)) fun _ s6 ⟨σ6,H6,I6,q6⟩=>?_)
  refine wpAny_passesOwn hp (cb (hb _ s6 σ6 H6 _ I6 q6) fun f s7 q7=>?_)
  have again:∀ {σ7:St} {H7:Hp},Inv X (pins++js fp s5.heap) σ7 H7 s7->N σ7 H7->∃ m,m < n/\∃ i σ' H',Inv X pins σ' H' s7/\tn i s7.heap/\(∀ b∈fp,H' b=none)/\W i m σ' H':=fun {σ7 H7} I7 n7=>by
   obtain⟨m',hm,w7⟩:=hN σ7 H7 n7
   refine⟨m',hm,i+1,σ7,H7,I7.unpinned,T.keep _ _ _ st5 fun b hb o e=>(I7.pin (b,o) (List.mem_append_right _ (List.mem_append_right _ (fM hb e)))).1,fun b hb=>?_,w7⟩
   obtain⟨o,e,d⟩:=T.obj _ _ st5 b hb
   exact (I7.pin (b,o) (List.mem_append_right _ (List.mem_append_right _ (fM hb e)))).2.1
  cases f with
  | next=>obtain⟨σ7,H7,I7,n7⟩:=q7;exact again I7 n7
  | cont=>obtain⟨σ7,H7,I7,n7⟩:=q7;exact again I7 n7
  | brk=>obtain⟨σ7,H7,I7,q7⟩:=q7;exact⟨σ7,H7,I7.unpinned,q7⟩
  | ret v=>obtain⟨x7,σ7,H7,I7,r7,q7⟩:=q7;exact⟨x7,σ7,H7,I7.unpinned,r7,q7⟩
end
theorem eW {K:PySem.W.Frag} {a:Addr} {xs:List V} {g:TG} {tb:TS} {D:iq} {σ:St} {H:Hp} (Pv:Nat->St->Hp->Prop) (h0:Pv 0 σ H) (hl:∀ i σ H,i≤xs.length->Pv i σ H->aW K H a xs)
  (hs:∀ i x σ H,xs[i]?=some x->Pv i σ H->g x σ H fun σ2 H2=>tb { D with nx:=Pv (i+1),ct:=Pv (i+1),bk:=D.nx } σ2 H2) (hd:∀ σ H,Pv xs.length σ H->D.nx σ H) :
  ∃ W:Nat->Nat->St->Hp->Prop,(∃ m,W 0 m σ H)/\∀ i m σ H,W i m σ H→
   ((rc K a).stop i H/\D.nx σ H)∨((rc K a).go i H/\∃ N:St->Hp->Prop,(∀ σ' H',N σ' H'->∃ m',m' < m/\W (i+1) m' σ' H')/\∀ x H',(rc K a).yld i H x H'->g x σ H' fun σ2 H2=>tb { D with nx:=N,ct:=N,bk:=D.nx } σ2 H2):=by
 refine⟨fun i m σ H=>m=xs.length - i/\i≤xs.length/\Pv i σ H,⟨xs.length,by simp,Nat.zero_le _,h0⟩,?_⟩
 rintro i m σ H ⟨rfl,hi,p⟩
 have q:=hl i σ H hi p
 by_cases hlt:i < xs.length
 ·refine .inr ⟨⟨xs,xs[i],q,by simp [hlt]⟩,Pv (i+1),fun σ' H' p'=>⟨xs.length - (i+1),by omega,rfl,hlt,p'⟩,fun x H' y=>?_⟩
  obtain⟨e,y⟩:=y
  subst e
  exact hs i x σ _ (y xs q) p
 ·have e:i=xs.length:=by omega
  subst e
  exact .inl ⟨⟨xs,q,Nat.le_refl _⟩,hd σ H p⟩
theorem pD {K:PySem.W.Frag} {a:Addr} {xs:List V} {g:TG} {tb:TS} {D:iq} {σ:St} {H:Hp} (Pv:Nat->St->Hp->Prop) (h0:Pv 0 σ H) (hl:∀ i σ H,i≤xs.length->Pv i σ H->bh K H a xs)
  (hs:∀ i x σ H,xs[i]?=some x->Pv i σ H->g x σ H fun σ2 H2=>tb { D with nx:=Pv (i+1),ct:=Pv (i+1),bk:=D.nx } σ2 H2) (hd:∀ σ H,Pv xs.length σ H->D.nx σ H) :
  ∃ W:Nat->Nat->St->Hp->Prop,(∃ m,W 0 m σ H)/\∀ i m σ H,W i m σ H→
   ((vI K a).stop i H/\D.nx σ H)∨((vI K a).go i H/\∃ N:St->Hp->Prop,(∀ σ' H',N σ' H'->∃ m',m' < m/\W (i+1) m' σ' H')/\∀ x H',(vI K a).yld i H x H'->g x σ H' fun σ2 H2=>tb { D with nx:=N,ct:=N,bk:=D.nx } σ2 H2):=by
 refine⟨fun i m σ H=>m=xs.length - i/\i≤xs.length/\Pv i σ H,⟨xs.length,by simp,Nat.zero_le _,h0⟩,?_⟩
 rintro i m σ H ⟨rfl,hi,p⟩
 have q:=hl i σ H hi p
 by_cases hlt:i < xs.length
 ·refine .inr ⟨⟨xs,xs[i],q,by simp [hlt]⟩,Pv (i+1),fun σ' H' p'=>⟨xs.length - (i+1),by omega,rfl,hlt,p'⟩,fun x H' y=>?_⟩
  obtain⟨e,y⟩:=y
  subst e
  exact hs i x σ _ (y xs q) p
 ·have e:i=xs.length:=by omega
  subst e
  exact .inl ⟨⟨xs,q,Nat.le_refl _⟩,hd σ H p⟩
theorem dM {lo:Int} {n:Nat} {g:TG} {tb:TS} {D:iq} {σ:St} {H:Hp} (Pv:Nat->St->Hp->Prop) (h0:Pv 0 σ H)
  (hs:∀ i σ H,i < n->Pv i σ H->g (.int (lo+i)) σ H fun σ2 H2=>tb { D with nx:=Pv (i+1),ct:=Pv (i+1),bk:=D.nx } σ2 H2) (hd:∀ σ H,Pv n σ H->D.nx σ H) :
  ∃ W:Nat->Nat->St->Hp->Prop,(∃ m,W 0 m σ H)/\∀ i m σ H,W i m σ H→
   ((vJ lo n).stop i H/\D.nx σ H)∨((vJ lo n).go i H/\∃ N:St->Hp->Prop,(∀ σ' H',N σ' H'->∃ m',m' < m/\W (i+1) m' σ' H')/\∀ x H',(vJ lo n).yld i H x H'->g x σ H' fun σ2 H2=>tb { D with nx:=N,ct:=N,bk:=D.nx } σ2 H2):=by
 refine⟨fun i m σ H=>m=n - i/\i≤n/\Pv i σ H,⟨n,by simp,Nat.zero_le _,h0⟩,?_⟩
 rintro i m σ H ⟨rfl,hi,p⟩
 by_cases hlt:i < n
 ·refine .inr ⟨hlt,Pv (i+1),fun σ' H' p'=>⟨n - (i+1),by omega,rfl,hlt,p'⟩,fun x H' y=>?_⟩
  obtain⟨e,y⟩:=y
  subst e y
  exact hs i σ _ hlt p
 ·have e:i=n:=by omega
  subst e
  exact .inl ⟨Nat.le_refl _,hd σ H p⟩
end L2
namespace L2
open PySem PySem.Spec PyProof.Rows
abbrev R2:=V->V->Hp->VK->Prop
def fP (X:Cx) (f:Value->Value->Sem Value) (r:R2):Prop:=
 ∀ (pins:List (Addr×Obj)) (s:Shared) (σ:St) (H:Hp) (x y:V) (v u:Value) (Q:VK),Inv X pins σ H s->aY x v->aY y u->r x y H Q→
  wpAny (model X.prog X.w) X.A (f v u) (EP X pins σ Q) X.xe s
def Df (X:Cx) (f:Value->Sem Value) (r:V->Hp->VK->Prop):Prop:=
 ∀ (pins:List (Addr×Obj)) (s:Shared) (σ:St) (H:Hp) (x:V) (v:Value) (Q:VK),Inv X pins σ H s->aY x v->r x H Q→
  wpAny (model X.prog X.w) X.A (f v) (EP X pins σ Q) X.xe s
def fj (X:Cx) (f:Value) (r:List V->Hp->VK->Prop):Prop:=
 ∀ (pins:List (Addr×Obj)) (s:Shared) (σ:St) (H:Hp) (xs:List V) (us:List Value) (Q:VK),Inv X pins σ H s->bg xs us->r xs H Q→
  wpAny (model X.prog X.w) X.A (call f us) (EP X pins σ Q) X.xe s
def Gf (X:Cx) (r:V->Hp->(Bool->Hp->Prop)->Prop):Prop:=
 ∀ (pins:List (Addr×Obj)) (s:Shared) (σ:St) (H:Hp) (x:V) (v:Value) (Q:Bool->Hp->Prop),Inv X pins σ H s->aY x v->r x H Q→
  wpAny (model X.prog X.w) X.A (truthy v) (TP X pins σ Q) X.xe s
def vW (r:R2) (ta tb:TE):TE:=fun σ H Q=>ta σ H fun x H1=>tb σ H1 fun y H2=>r x y H2 Q
def Ev (r:V->Hp->VK->Prop) (ta:TE):TE:=fun σ H Q=>ta σ H fun x H1=>r x H1 Q
def rI (C:Int->Int->Prop) (g:Int->Int->V):R2:=fun x y H Q=>∃ i j,x=.int i/\y=.int j/\C i j/\Q (g i j) H
def yh (g:Int->Int->V):R2:=fun x y H Q=>∃ i j,x=.int i/\y=.int j/\Q (g i j) H
def rU (g:Int->V):V->Hp->VK->Prop:=fun x H Q=>∃ i,x=.int i/\Q (g i) H
section
variable {X:Cx} {a b c:Expr} {ta tb tc:TE} {pos:Pos}
theorem A0 (ha:PE X a ta) (hb:PE X b tb) {pins:List (Addr×Obj)} {s:Shared} {σ:St} {H:Hp} {R:V->V->Hp->Prop} (I:Inv X pins σ H s)
  (h:ta σ H fun x H1=>tb σ H1 fun y H2=>R x y H2) {Q:Value->Shared->Prop} {f:Value->Value->Sem Value}
  (hf:∀ v u s2 x y H2,Inv X pins σ H2 s2->aY x v->aY y u->R x y H2->wpAny (model X.prog X.w) X.A (f v u) Q X.xe s2) :
  wpAny (model X.prog X.w) X.A (eval a X.env) (fun v s₁=>wpAny (model X.prog X.w) X.A (eval b X.env) (fun u s₂=>wpAny (model X.prog X.w) X.A (f v u) Q X.xe s₂) X.xe s₁) X.xe s:=by
 refine cb (ha pins s σ H _ I h) fun v s1 ⟨x,H1,I1,r1,q1⟩=>?_
 refine cb (hb pins s1 σ H1 _ I1 q1) fun u s2 ⟨y,H2,I2,r2,q2⟩=>?_
 exact hf v u s2 x y H2 I2 r1 r2 q2
theorem B4 {op:Operator} {r:R2} (ho:fP X (binaryOp op) r) (ha:PE X a ta) (hb:PE X b tb):PE X (.BinOp a op b pos) (vW r ta tb):=by
 intro pins s σ H Q I h
 exact wpAny_BinOp (A0 ha hb I h fun v u s2 x y H2 I2 rx ry q=>ho pins s2 σ H2 x y v u Q I2 rx ry q)
theorem B3 {op:UnaryOp} {r:V->Hp->VK->Prop} (ho:Df X (unaryOp op) r) (ha:PE X a ta):PE X (.UnaryOp op a pos) (Ev r ta):=by
 intro pins s σ H Q I h
 exact UnaryOp_ (cb (ha pins s σ H _ I h) fun v s1 ⟨x,H1,I1,r1,q1⟩=>ho pins s1 σ H1 x v Q I1 r1 q1)
theorem Am {f:Value->Value->Sem Value} {C:Int->Int->Prop} {g:Int->Int->Int}
  (rule:∀ (i j:Int) (t u:Tok) (s:Shared) (Q:Value->Shared->Prop) (E:Value->Shared->Prop),C i j->Q (.int (g i j) s.toks) { s with toks:=s.toks+1 }->wpAny (model X.prog X.w) X.A (f (.int i t) (.int j u)) Q E s) :
  fP X f (rI C fun i j=>.int (g i j)):=by
 intro pins s σ H x y v u Q I rx ry h
 obtain⟨i,j,rfl,rfl,hc,q⟩:=h
 obtain⟨t,rfl⟩:=rx
 obtain⟨t',rfl⟩:=ry
 exact rule i j t t' s _ _ hc ⟨.int (g i j),H,I.tok _,⟨_,rfl⟩,q⟩
theorem B9 {f:Value->Value->Sem Value} {g:Int->Int->Int}
  (rule:∀ (i j:Int) (t u:Tok) (s:Shared) (Q:Value->Shared->Prop) (E:Value->Shared->Prop),Q (.int (g i j) s.toks) { s with toks:=s.toks+1 }->wpAny (model X.prog X.w) X.A (f (.int i t) (.int j u)) Q E s) :
  fP X f (yh fun i j=>.int (g i j)):=by
 intro pins s σ H x y v u Q I rx ry h
 obtain⟨i,j,rfl,rfl,q⟩:=h
 obtain⟨t,rfl⟩:=rx
 obtain⟨t',rfl⟩:=ry
 exact rule i j t t' s _ _ ⟨.int (g i j),H,I.tok _,⟨_,rfl⟩,q⟩
theorem xi {f:Value->Value->Sem Value} {g:Int->Int->Bool}
  (rule:∀ (i j:Int) (t u:Tok) (s:Shared) (Q:Value->Shared->Prop) (E:Value->Shared->Prop),Q (.bool (g i j)) s->wpAny (model X.prog X.w) X.A (f (.int i t) (.int j u)) Q E s) :
  fP X f (yh fun i j=>.bl (g i j)):=by
 intro pins s σ H x y v u Q I rx ry h
 obtain⟨i,j,rfl,rfl,q⟩:=h
 obtain⟨t,rfl⟩:=rx
 obtain⟨t',rfl⟩:=ry
 exact rule i j t t' s _ _ ⟨.bl (g i j),H,I,rfl,q⟩
def Es (i j:Int):Prop:=0 < j/\j < 1073741824
def Fo (i j:Int):Prop:=j≠0/\j.natAbs < 1073741824
def Er (i j:Int):Prop:=0≤j/\j≤1000000/\i.natAbs < 2 ^ 64
def Bg (i j:Int):Prop:=(-(2 ^ 64) < i/\i < 2 ^ 64)∨(-(2 ^ 64) < j/\j < 2 ^ 64)
theorem Bg.ok {i j:Int} (h:Bg i j):IntMulOk i j:=by
 rcases h with ⟨h1,h2⟩ | ⟨h1,h2⟩
 ·exact .of_left (intBits_le_64 h1 h2)
 ·exact .of_right (intBits_le_64 h1 h2)
theorem dk:fP X (binaryOp .Add) (yh fun i j=>.int (i+j)):=B9 fun _ _ _ _ _ _ _ q=>add_int q
theorem iF:fP X (binaryOp .Sub) (yh fun i j=>.int (i - j)):=B9 fun _ _ _ _ _ _ _ q=>sub_int q
theorem gM:fP X (binaryOp .Mult) (rI Bg fun i j=>.int (i * j)):=Am fun _ _ _ _ _ _ _ hc q=>mul_int q hc.ok
theorem i4:fP X (binaryOp .FloorDiv) (rI Es fun i j=>.int (i / j)):=Am fun i j _ _ _ _ _ hc q=>by
 have h1:(0:Int) < j:=hc.1
 have h2:j < 1073741824:=hc.2
 exact floordiv_int (by omega) (by rw [Int.fdiv_eq_ediv_of_nonneg i (by omega)];exact q) (.inl (PyProof.noPylong_small (by omega)))
theorem fJ:fP X (binaryOp .Mod) (rI (fun _ j=>0 < j) fun i j=>.int (i % j)):=Am fun i j _ _ _ _ _ hc q=>by
 have h1:(0:Int) < j:=hc
 exact mod_int' (by omega) (by rw [Int.fmod_eq_emod_of_nonneg i (by omega)];exact q)
theorem Al:fP X (binaryOp .Pow) (rI Er fun i j=>.int (i ^ j.toNat)):=Am fun _ _ _ _ _ _ _ hc q=>pow_int_small hc.1 hc.2.1 hc.2.2 q
theorem Fu {f:Value->Sem Value} {g:Int->Int}
  (rule:∀ (i:Int) (t:Tok) (s:Shared) (Q:Value->Shared->Prop) (E:Value->Shared->Prop),Q (.int (g i) s.toks) { s with toks:=s.toks+1 }->wpAny (model X.prog X.w) X.A (f (.int i t)) Q E s) :
  Df X f (rU fun i=>.int (g i)):=by
 intro pins s σ H x v Q I rx h
 obtain⟨i,rfl,q⟩:=h
 obtain⟨t,rfl⟩:=rx
 exact rule i t s _ _ ⟨.int (g i),H,I.tok _,⟨_,rfl⟩,q⟩
theorem cP:Df X (unaryOp .USub) (rU fun i=>.int (-i)):=Fu fun _ _ _ _ _ q=>neg_int q
end
def BP:V->V->Bool
 | .non,.non=>true | .non,.int _=>true | .int _,.non=>true | .non,.bl _=>true | .bl _,.non=>true | .non,.str _=>true | .str _,.non=>true
 | .int _,.int _=>true | .bl _,.bl _=>true | .str _,.str _=>true | .byt _,.byt _=>true
 | .int _,.str _=>true | .str _,.int _=>true | .bl _,.str _=>true | .str _,.bl _=>true
 | _,_=>false
def F1:R2:=fun x y H Q=>BP x y=true/\Q (.bl (decide (x=y))) H
def FU:R2:=fun x y H Q=>BP x y=true/\Q (.bl (!decide (x=y))) H
theorem pG {i j:Int}:decide (V.int i=V.int j)=(i == j):=by
 rw [Bool.eq_iff_iff]
 simp
theorem vg {i j:Bool}:decide (V.bl i=V.bl j)=(i == j):=by
 rw [Bool.eq_iff_iff]
 simp
theorem pF {i j:Str}:decide (V.str i=V.str j)=(i == j):=by
 rw [Bool.eq_iff_iff]
 simp
theorem pH {i j:Array UInt8}:decide (V.byt i=V.byt j)=(i.toList == j.toList):=by
 rw [Bool.eq_iff_iff]
 cases i
 cases j
 simp
section
variable {X:Cx} {a b c:Expr} {ta tb tc:TE} {pos:Pos}
theorem bu {pins:List (Addr×Obj)} {σ:St} {H:Hp} {s:Shared} {Q:VK} {k k':Bool} (I:Inv X pins σ H s) (q:Q (.bl k) H) (e:k=k'):EP X pins σ Q (.bool k') s:=by
 subst e
 exact⟨.bl k,H,I,rfl,q⟩
theorem dW:fP X (compareOp .Eq) F1:=by
 intro pins s σ H x y v u Q I rx ry h
 obtain⟨hs,q⟩:=h
 cases x with
 | non=>
  cases rx
  cases y with
  | non=>cases ry;exact PySem.EqNone.eq_none_none (bu I q (by simp))
  | bl j=>cases ry;exact PySem.EqNone.eq_none_bool (bu I q (by simp))
  | int j=>obtain⟨t',rfl⟩:=ry;exact PySem.EqNone.eq_none_int (bu I q (by simp))
  | str j=>obtain⟨t',rfl⟩:=ry;exact PySem.EqNone.eq_none_str (bu I q (by simp))
  | _=>exact absurd (show false=true from hs) Bool.false_ne_true
 | bl i=>
  cases rx
  cases y with
  | non=>cases ry;exact PySem.EqNone.eq_bool_none (bu I q (by simp))
  | bl j=>cases ry;exact eq_bool (bu I q vg)
  | str j=>obtain⟨t',rfl⟩:=ry;exact PySem.EqMixed.eq_bool_str (bu I q (by simp))
  | _=>exact absurd (show false=true from hs) Bool.false_ne_true
 | int i=>
  obtain⟨t,rfl⟩:=rx
  cases y with
  | non=>cases ry;exact PySem.EqNone.eq_int_none (bu I q (by simp))
  | int j=>obtain⟨t',rfl⟩:=ry;exact eq_int (bu I q pG)
  | str j=>obtain⟨t',rfl⟩:=ry;exact PySem.EqMixed.eq_int_str (bu I q (by simp))
  | _=>exact absurd (show false=true from hs) Bool.false_ne_true
 | str i=>
  obtain⟨t,rfl⟩:=rx
  cases y with
  | non=>cases ry;exact PySem.EqNone.eq_str_none (bu I q (by simp))
  | bl j=>cases ry;exact PySem.EqMixed.eq_str_bool (bu I q (by simp))
  | int j=>obtain⟨t',rfl⟩:=ry;exact PySem.EqMixed.eq_str_int (bu I q (by simp))
  | str j=>obtain⟨t',rfl⟩:=ry;exact eq_str (bu I q pF)
  | _=>exact absurd (show false=true from hs) Bool.false_ne_true
 | byt i=>
  obtain⟨t,rfl⟩:=rx
  cases y with
  | byt j=>obtain⟨t',rfl⟩:=ry;exact PySem.W.eq_bytes (bu I q pH)
  | _=>exact absurd (show false=true from hs) Bool.false_ne_true
 | _=>cases y <;> exact absurd (show false=true from hs) Bool.false_ne_true
theorem ia:fP X (compareOp .NotEq) FU:=by
 intro pins s σ H x y v u Q I rx ry h
 obtain⟨hs,q⟩:=h
 cases x with
 | non=>
  cases rx
  cases y with
  | non=>cases ry;exact PySem.EqNone.ne_none_none (bu I q (by simp))
  | bl j=>cases ry;exact PySem.EqNone.ne_none_bool (bu I q (by simp))
  | int j=>obtain⟨t',rfl⟩:=ry;exact PySem.EqNone.ne_none_int (bu I q (by simp))
  | str j=>obtain⟨t',rfl⟩:=ry;exact PySem.EqNone.ne_none_str (bu I q (by simp))
  | _=>exact absurd (show false=true from hs) Bool.false_ne_true
 | bl i=>
  cases rx
  cases y with
  | non=>cases ry;exact PySem.EqNone.ne_bool_none (bu I q (by simp))
  | bl j=>cases ry;exact ne_bool (bu I q (congrArg not vg))
  | str j=>obtain⟨t',rfl⟩:=ry;exact PySem.EqMixed.ne_bool_str (bu I q (by simp))
  | _=>exact absurd (show false=true from hs) Bool.false_ne_true
 | int i=>
  obtain⟨t,rfl⟩:=rx
  cases y with
  | non=>cases ry;exact PySem.EqNone.ne_int_none (bu I q (by simp))
  | int j=>obtain⟨t',rfl⟩:=ry;exact ne_int (bu I q (congrArg not pG))
  | str j=>obtain⟨t',rfl⟩:=ry;exact PySem.EqMixed.ne_int_str (bu I q (by simp))
  | _=>exact absurd (show false=true from hs) Bool.false_ne_true
 | str i=>
  obtain⟨t,rfl⟩:=rx
  cases y with
  | non=>cases ry;exact PySem.EqNone.ne_str_none (bu I q (by simp))
  | bl j=>cases ry;exact PySem.EqMixed.ne_str_bool (bu I q (by simp))
  | int j=>obtain⟨t',rfl⟩:=ry;exact PySem.EqMixed.ne_str_int (bu I q (by simp))
  | str j=>obtain⟨t',rfl⟩:=ry;exact ne_str (bu I q (congrArg not pF))
  | _=>exact absurd (show false=true from hs) Bool.false_ne_true
 | byt i=>
  obtain⟨t,rfl⟩:=rx
  cases y with
  | byt j=>obtain⟨t',rfl⟩:=ry;exact PySem.W.ne_bytes (bu I q (congrArg not pH))
  | _=>exact absurd (show false=true from hs) Bool.false_ne_true
 | _=>cases y <;> exact absurd (show false=true from hs) Bool.false_ne_true
theorem mC:fP X (compareOp .Lt) (yh fun i j=>.bl (decide (i < j))):=xi fun _ _ _ _ _ _ _ q=>lt_int q
theorem oW:fP X (compareOp .LtE) (yh fun i j=>.bl (decide (i≤j))):=xi fun _ _ _ _ _ _ _ q=>le_int q
theorem oX:fP X (compareOp .Gt) (yh fun i j=>.bl (decide (j < i))):=xi fun _ _ _ _ _ _ _ q=>gt_int q
theorem B8:fP X (compareOp .GtE) (yh fun i j=>.bl (decide (j≤i))):=xi fun _ _ _ _ _ _ _ q=>ge_int q
theorem jt:fP X (compareOp .Is) (fun x y H Q=>y=.non/\Q (.bl (decide (x=.non))) H):=by
 intro pins s σ H x y v u Q I rx ry h
 obtain⟨rfl,q⟩:=h
 cases ry
 refine is_none_gen (bu I q ?_)
 cases x <;> first
  | (cases rx;rfl)
  | (obtain⟨t,rfl⟩:=rx;rfl)
theorem xh:fP X (compareOp .IsNot) (fun x y H Q=>y=.non/\Q (.bl (!decide (x=.non))) H):=by
 intro pins s σ H x y v u Q I rx ry h
 obtain⟨rfl,q⟩:=h
 cases ry
 refine isnot_none_gen (bu I q ?_)
 cases x <;> first
  | (cases rx;rfl)
  | (obtain⟨t,rfl⟩:=rx;rfl)
def E4:HO->Bool
 | .lst _=>true
 | .ins _ _ _=>true
 | _=>false
theorem aQ (b:Expr) {op:CmpOp} (h:op≠.In:=by decide) (h2:op≠.NotIn:=by decide):behindInMarks op b=false:=by
 have e1:(op == CmpOp.In)=false:=by cases op <;> first | rfl | exact absurd rfl h
 have e2:(op == CmpOp.NotIn)=false:=by cases op <;> first | rfl | exact absurd rfl h2
 cases b <;> simp [behindInMarks,e1,e2]
theorem wZ {op:CmpOp} {r:R2} (ho:fP X (compareOp op) r) (ha:PE X a ta) (hb:PE X b tb) (hm:behindInMarks op b=false):PE X (.Compare a [op] [b] pos) (vW r ta tb):=by
 intro pins s σ H Q I h
 exact wpAny_Compare1 (A0 ha hb I h fun v u s2 x y H2 I2 rx ry q=>ho pins s2 σ H2 x y v u Q I2 rx ry q) hm
def oD (t:TE):TT:=fun σ H Q=>t σ H fun x H'=>∃ k,x=.bl k/\Q k H'
theorem wJ {op:CmpOp} {r:R2} (ho:fP X (compareOp op) r) (ha:PE X a ta) (hb:PE X b tb) (hm:behindInMarks op b=false):PT X (.Compare a [op] [b] pos) (oD (vW r ta tb)):=by
 intro pins s σ H Q I h
 refine wpAny_isTrue_Compare1 (cb (ha pins s σ H _ I h) fun v s1 ⟨x,H1,I1,r1,q1⟩=>cb (hb pins s1 σ H1 _ I1 q1) fun u s2 ⟨y,H2,I2,r2,q2⟩=>
  cb (ho pins s2 σ H2 x y v u _ I2 r1 r2 q2) fun c s3 ⟨z,H3,I3,r3,k,e,q3⟩=>?_) hm
 subst e
 cases r3
 exact wpAny_truthy_bool ⟨H3,I3,q3⟩
def kF (r r':R2) (ta tb tc:TE):TE:=fun σ H Q=>ta σ H fun x H1=>tb σ H1 fun y H2=>r x y H2 fun z H3=>∃ k,z=.bl k∧
 (if k=true then tc σ H3 fun w' H4=>r' y w' H4 Q else Q (.bl false) H3)
theorem ux {op op':CmpOp} {r r':R2} (ho:fP X (compareOp op) r) (ho':fP X (compareOp op') r') (ha:PE X a ta) (hb:PE X b tb) (hc:PE X c tc)
  (hm:lastMarks [op,op'] [b,c]=false:=by with_unfolding_all rfl):PE X (.Compare a [op,op'] [b,c] pos) (kF r r' ta tb tc):=by
 intro pins s σ H Q I h
 refine Compare_chain (cb (ha pins s σ H _ I h) fun v s1 ⟨x,H1,I1,r1,q1⟩=>chain_link (cb (hb pins s1 σ H1 _ I1 q1) fun u s2 ⟨y,H2,I2,r2,q2⟩=>
  cb (ho pins s2 σ H2 x y v u _ I2 r1 r2 q2) fun d s3 ⟨z,H3,I3,r3,k,e,q3⟩=>?_)) hm
 subst e
 cases r3
 refine wpAny_truthy_bool ?_
 cases k with
 | false=>exact ite_ff ⟨.bl false,H3,I3,rfl,q3⟩
 | true=>exact ite_tt (chain_last (cb (hc pins s3 σ H3 _ I3 q3) fun w' s4 ⟨z',H4,I4,r4,q4⟩=>ho' pins s4 σ H4 y z' u w' Q I4 r2 r4 q4))
theorem ud {op op':CmpOp} {r r':R2} (ho:fP X (compareOp op) r) (ho':fP X (compareOp op') r') (ha:PE X a ta) (hb:PE X b tb) (hc:PE X c tc)
  (hm:lastMarks [op,op'] [b,c]=false:=by with_unfolding_all rfl):PT X (.Compare a [op,op'] [b,c] pos) (oD (kF r r' ta tb tc)):=by
 intro pins s σ H Q I h
 refine isTrue_chain (cb (ha pins s σ H _ I h) fun v s1 ⟨x,H1,I1,r1,q1⟩=>test_link (cb (hb pins s1 σ H1 _ I1 q1) fun u s2 ⟨y,H2,I2,r2,q2⟩=>
  cb (ho pins s2 σ H2 x y v u _ I2 r1 r2 q2) fun d s3 ⟨z,H3,I3,r3,k,e,q3⟩=>?_)) hm
 subst e
 cases r3
 refine wpAny_truthy_bool ?_
 cases k with
 | false=>
  obtain⟨k',e',q'⟩:=q3
  cases e'
  exact ite_ff ⟨H3,I3,q'⟩
 | true=>
  refine ite_tt (test_last (cb (hc pins s3 σ H3 _ I3 q3) fun w' s4 ⟨z',H4,I4,r4,q4⟩=>cb (ho' pins s4 σ H4 y z' u w' _ I4 r2 r4 q4) fun d' s5 ⟨z2,H5,I5,r5,k2,e2,q5⟩=>?_))
  subst e2
  cases r5
  exact wpAny_truthy_bool ⟨H5,I5,q5⟩
def Ge (K:PySem.W.Frag) (x:V) (H:Hp) (k:Bool):Prop:=
 match x with
 | .non=>k=false
 | .bl b=>k=b
 | .int i=>k=(i != 0)
 | .str y=>y.length≤sizeLine/\k=((y.length:Int) != 0)
 | .byt y=>y.size≤sizeLine/\k=((y.size:Int) != 0)
 | .ref p=>(∃ xs,aW K H p xs/\k=!xs.isEmpty)∨(∃ xs,bh K H p xs/\k=!xs.isEmpty)∨∃ kvs,H p=some (.dK kvs)/\k=!kvs.isEmpty
 | _=>False
theorem jA:(sizeLine:Nat) < 2 ^ 63:=by rw [sizeLine_eq];decide
def CI (b:Expr):Prop:=∀ o i,subscripted b false o i=operate [o,i] (getItem o i)
theorem gQ {x:V} {us:List Value} (r:bg [x] us):∃ u,us=[u]/\aY x u:=by
 cases r with
 | cons r1 r2=>cases r2;exact⟨_,rfl,r1⟩
theorem lN {x y:V} {us:List Value} (r:bg [x,y] us):∃ u w',us=[u,w']/\aY x u/\aY y w':=by
 cases r with
 | cons r1 r2=>
  cases r2 with
  | cons r3 r4=>cases r4;exact⟨_,_,rfl,r1,r3⟩
theorem jI:fj X (.builtin "abs") (fun xs H Q=>∃ i,xs=[.int i]/\Q (.int (if i < 0 then -i else i)) H):=by
 intro pins s σ H xs us Q I r h
 obtain⟨i,rfl,q⟩:=h
 obtain⟨u,rfl,t,rfl⟩:=gQ r
 exact call_abs_int fun u tk=>⟨.int (if i < 0 then -i else i),H,I.tok _,⟨_,rfl⟩,q⟩
def Gk (K:PySem.W.Frag) (x:V) (H:Hp) (n:Nat):Prop:=
 match x with
 | .str y=>y.length≤sizeLine/\n=y.length
 | .byt y=>y.size≤sizeLine/\n=y.size
 | .ref p=>(∃ xs,aW K H p xs/\n=xs.length)∨∃ xs,bh K H p xs/\n=xs.length
 | _=>False
end
end L2
namespace L2
open PySem PySem.Spec PyProof.Rows
structure Bb (h:Heap) (x dx C:Addr) (mA:Str->Option Value):Prop where
 obj:h.get? x=some (PySem.W.instObj C dx)
 ns:h.Ns1 dx mA
 ne:dx≠x
theorem qB {h:Heap} {dx:Addr} {mA:Str->Option Value} (n:h.Ns1 dx mA):∃ od,h.get? dx=some od/\∀ name,PySem.W.lookIn name od=some (mA name):=by
 obtain⟨o,es,ep,ho,hd,hk,_,hm⟩:=n
 refine⟨o,ho,fun name=>?_⟩
 have e:=hm name
 unfold nsFind findBy at e
 rw [← Array.find?_toList] at e
 unfold PySem.W.lookIn
 rw [hd]
 dsimp only
 split
 ·rename_i y q
  rw [q] at e
  exact congrArg some e
 ·rename_i q
  rw [q] at e
  have a:es.toList.any (·.refKey)=false:=by
   rw [List.any_eq_false]
   intro y hy
   obtain⟨z,t,hkey⟩:=hk y (Array.mem_toList_iff.mp hy)
   simp [DictEntry.refKey,hkey]
  have a':¬ es.toList.any (·.refKey)=true:=by rw [a];exact Bool.false_ne_true
  rw [if_neg a']
  exact congrArg some e
theorem Bb.look {h:Heap} {x dx C:Addr} {mA:Str->Option Value} (I:Bb h x dx C mA):∃ od,PySem.W.InstAt h x (PySem.W.instObj C dx) C (some od)/\∀ name,PySem.W.lookIn name od=some (mA name):=
 let ⟨od,ho,hl⟩:=qB I.ns
 ⟨od,⟨I.obj,rfl,rfl,ho⟩,hl⟩
section
variable {prog:Program} {w:World} {A:Around} {E:Value->Shared->Prop} {s:Shared} {K:PySem.W.Frag} {x dx C f:Addr} {mA:Str->Option Value} {name:Str} {v:Value}
end
def zN (f:Str) (v:V):List (Str×V)->List (Str×V)
 | []=>[(f,v)]
 | (g,x) :: r=>if g=f then (g,v) :: r else (g,x) :: zN f v r
section
variable {P:Program} {w:World} {H H':Hp} {h h':Heap} {a C dx:Addr} {fs fs':List (Str×V)}
theorem xz (hok:gD P w H h) (e:H a=some (.ins C dx fs)):∃ mA,Bb h a dx C mA/\(∀ f,jV (fs.lookup f) (mA f))/\PySem.Within mA (fs.map (·.1))/\fs.length≤1000/\H dx=some (.own a):=by
 obtain⟨d,z,ne,ob,mA,n,r,q⟩:=(show bJ P w H h a (.ins C dx fs) from hok a _ e)
 exact⟨mA,⟨ob,n,ne⟩,r,q,z,d⟩
end
structure Bf (K:PySem.W.Frag) (C:Addr):Prop where
 pg:PySem.W.plainGet K C Str.empty=true
 hd:PySem.W.hasDictIn K C=true
 po:PySem.W.plainOver K C=true
 sa:PySem.W.findIn K (.ref C) "__setattr__" = some (some (.builtin "object.__setattr__"))
theorem Bf.get {K:PySem.W.Frag} {C:Addr} (c:Bf K C) (f:Str):PySem.W.plainGet K C f=true:=c.pg
def iJ (K:PySem.W.Frag) (C:Addr) (f:Str):Prop:=PySem.W.findIn K (.ref C) f=some none
structure Gv (K:PySem.W.Frag) (C:Addr) (f:Str) (v:V) (u:Value):Prop where
 at_:PySem.W.findIn K (.ref C) f=some (some u)
 rel:aY v u
 get:PySem.W.specialIn K u "__get__" = some none
 cp:PySem.W.copiedNames.contains f=false
structure Gj (K:PySem.W.Frag) (C:Addr) (m:Str) (f:Addr):Prop where
 at_:PySem.W.findIn K (.ref C) m=some (some (.ref f))
 fn:PySem.W.isFn K (.ref f)=true
 kp:PySem.W.keepIn K (.ref f)=true
section
variable {X:Cx} {pins:List (Addr×Obj)} {σ:St} {H:Hp} {s:Shared} {a C dx:Addr} {fs:List (Str×V)} {f:Str} {v:V} {A:Around} {E:Value->Shared->Prop}
end
def FG (K:PySem.W.Frag) (ta:TE) (f:Str):TE:=fun σ H Q=>ta σ H fun x H1=>∃ a C dx fs v,x=.ref a/\H1 a=some (.ins C dx fs)/\Bf K C/\iJ K C f/\fs.lookup f=some v/\Q v H1
def FJ (K:PySem.W.Frag) (ta:TE) (f:Str):TE:=fun σ H Q=>ta σ H fun x H1=>∃ a C dx fs v u,x=.ref a/\H1 a=some (.ins C dx fs)/\Bf K C/\Gv K C f v u/\fs.lookup f=none/\Q v H1
def FN (K:PySem.W.Frag) (ta tv:TE) (f:Str):TS:=fun D σ H=>tv σ H fun y H1=>ta σ H1 fun x H2=>∃ a C dx fs,x=.ref a/\H2 a=some (.ins C dx fs)/\Bf K C/\iJ K C f/\fs.length < 1000∧
 D.nx σ (ax H2 a (.ins C dx (zN f y fs)))
def Go (X:Cx) (op:Operator) (rd:V->V->Hp->VK->Prop):Prop:=
 ∀ (pins:List (Addr×Obj)) (s:Shared) (σ:St) (H:Hp) (x y:V) (u v:Value) (Q:VK),Inv X pins σ H s->aY x u->aY y v->rd x y H Q->wpAny (model X.prog X.w) X.A (inplaceOp op u v) (EP X pins σ Q) X.xe s
def C4 (K:PySem.W.Frag) (ta tv:TE) (rd:V->V->Hp->VK->Prop) (f:Str):TS:=fun D σ H=>ta σ H fun x H1=>∃ a C dx fs v,x=.ref a/\H1 a=some (.ins C dx fs)/\Bf K C/\iJ K C f/\fs.lookup f=some v∧
 tv σ H1 fun y H2=>rd v y H2 fun z H3=>∃ dx' fs',H3 a=some (.ins C dx' fs')/\fs'.length < 1000/\D.nx σ (ax H3 a (.ins C dx' (zN f z fs')))
section
variable {X:Cx} {o e value:Expr} {f:Str} {pos pos' tpos:Pos} {ta tv:TE}
def F4:V->V->Hp->VK->Prop:=fun x y H Q=>∃ i j,x=.int i/\y=.int j/\Q (.int (i+j)) H
def FP:V->V->Hp->VK->Prop:=fun x y H Q=>∃ i j,x=.int i/\y=.int j/\Q (.int (i - j)) H
end
section
variable {X:Cx} {pins:List (Addr×Obj)} {σ:St} {H:Hp} {s:Shared} {A:Around} {E:Value->Shared->Prop} {Q:Value->Shared->Prop} {c:Value} {b:Bool}
inductive iI (K:PySem.W.Frag) (H:Hp):V->Value->Prop where
 | non:iI K H .non (.type "NoneType")
 | bl (x:Bool):iI K H (.bl x) (.type "bool")
 | int (i:Int):iI K H (.int i) (.type "int")
 | str (x:Str):iI K H (.str x) (.type "str")
 | flt (x:UInt64):iI K H (.flt x) (.type "float")
 | lst {a:Addr} {xs:List V} (e:H a=some (.lst xs)):iI K H (.ref a) (.type "list")
 | frz {a:Addr} {o:Obj} {xs:List V} (e:H a=some (.frz o (.lst xs))):iI K H (.ref a) (.type "list")
 | tup {a:Addr} {xs:List V} (e:H a=some (.tup xs)):iI K H (.ref a) (.type "tuple")
 | dK {a:Addr} {kvs:List (cV×V)} (e:H a=some (.dK kvs)):iI K H (.ref a) (.type "dict")
 | dT {a:Addr} {kvs:List (List cV×V)} (e:H a=some (.dT kvs)):iI K H (.ref a) (.type "dict")
 | ins {a C dx:Addr} {fs:List (Str×V)} (e:H a=some (.ins C dx fs)) (cl:Bf K C) (ha:PySem.W.findIn K (.ref C) "__class__" = some (some (.builtin "object.__class__")))
   (hn:PySem.W.specialIn K (.builtin "object.__class__") "__get__" = some (some (.builtin "getset_descriptor.__get__"))) (htk:PySem.W.takesIn K (.builtin "object.__class__")=some true)
   (hm:PySem.W.mroIn K C (.type "object")=some true):iI K H (.ref a) (.ref C)
theorem qI {x:V} {u t:Value} (I:Inv X pins σ H s) (rx:aY x u) (ty:iI X.K H x t) (e:PySem.W.kitOne X.K t c=some b) (h:∀ tk,Q (.bool b) { s with toks:=tk }) :
  wpAny (model X.prog X.w) A (call (.builtin "isinstance") [u,c]) Q E s:=by
 cases ty with
 | non=>cases (show u=Value.none from rx);exact PySem.W.kia_one PySem.W.kitx_none I.kIn True.intro e (fun z=>nomatch z) h
 | bl y=>cases (show u=Value.bool y from rx);exact PySem.W.kia_one PySem.W.kitx_bool I.kIn True.intro e (fun z=>nomatch z) h
 | int i=>obtain⟨t,q⟩:=(show ∃ t,u=Value.int i t from rx);cases q;exact PySem.W.kia_one PySem.W.kitx_int I.kIn True.intro e (fun z=>nomatch z) h
 | str y=>obtain⟨t,q⟩:=(show ∃ t,u=Value.str y t from rx);cases q;exact PySem.W.kia_one PySem.W.kitx_str I.kIn True.intro e (fun z=>nomatch z) h
 | flt y=>obtain⟨t,q⟩:=(show ∃ t,u=Value.float y t from rx);cases q;exact PySem.W.kia_one PySem.W.kitx_float I.kIn True.intro e (fun z=>nomatch z) h
 | @lst a xs ea=>
  cases (show u=Value.ref a from rx)
  obtain⟨_,_,n,_,h1⟩:=(show bJ X.prog X.w H s.heap a (.lst xs) from I.hok a _ ea)
  exact PySem.W.kia_one PySem.W.kitx_list I.kIn ⟨_,h1,rfl⟩ e (fun z=>nomatch z) h
 | @frz a ob xs ea=>
  cases (show u=Value.ref a from rx)
  obtain⟨_,_,_,n,_,h1⟩:=(show bJ X.prog X.w H s.heap a (.frz ob (.lst xs)) from I.hok a _ ea)
  exact PySem.W.kia_one PySem.W.kitx_list I.kIn ⟨_,h1,rfl⟩ e (fun z=>nomatch z) h
 | @tup a xs ea=>
  cases (show u=Value.ref a from rx)
  obtain⟨_,_,_,p⟩:=(show bJ X.prog X.w H s.heap a (.tup xs) from I.hok a _ ea)
  obtain⟨o,h1,h2,_⟩:=p
  exact PySem.W.kia_one PySem.W.kitx_tuple I.kIn ⟨o,h1,h2⟩ e (fun z=>nomatch z) h
 | @dK a kvs ea=>
  cases (show u=Value.ref a from rx)
  obtain⟨_,_,vs,_,p⟩:=(show bJ X.prog X.w H s.heap a (.dK kvs) from I.hok a _ ea)
  obtain⟨o,es,ep,h1,h2,_⟩:=p
  exact PySem.W.kia_one PySem.W.kitx_dict I.kIn ⟨o,h1,h2.1⟩ e (fun z=>nomatch z) h
 | @dT a kvs ea=>
  cases (show u=Value.ref a from rx)
  obtain⟨_,_,xs,_,o,es,ep,h1,h2,_⟩:=(show bJ X.prog X.w H s.heap a (.dT kvs) from I.hok a _ ea)
  exact PySem.W.kia_one PySem.W.kitx_dict I.kIn ⟨o,h1,h2.1⟩ e (fun z=>nomatch z) h
 | @ins a C dx fs ea cl ha hn htk hm=>
  cases (show u=Value.ref a from rx)
  obtain⟨mA,O,_⟩:=xz I.hok ea
  obtain⟨od,J,_⟩:=O.look
  exact PySem.W.kia_one (PySem.W.kitx_own (cl.get _) cl.hd ha hn htk hm) I.kIn J e (fun z=>nomatch z) h
end
end L2
namespace L2
open PySem PySem.Spec PyProof.Rows
structure dF (k:Nat) (A:Around):Prop where
 hd:A.handled=none
 dp:A.depth+3 * k+5 < recursionLimit
 un:A.units+16 * k+200 < cLine
 gd:A.guards=some []
theorem dF.mono {j k:Nat} {A:Around} (r:dF k A) (h:j≤k):dF j A:=⟨r.hd,by have:=r.dp;omega,by have:=r.un;omega,r.gd⟩
theorem dF.deeper {k:Nat} {A:Around} (r:dF (k+1) A) (env:Env):dF k (A.deeper env):=
 ⟨r.hd,by have:=r.dp;show A.depth+1+3 * k+5 < _;omega,by have:=r.un;show A.units+3+16 * k+200 < _;omega,r.gd⟩
theorem dF.in1 {k:Nat} {A:Around} (r:dF (k+1) A):dF k A.in1:=
 ⟨r.hd,by have:=r.dp;show A.depth+3 * k+5 < _;omega,by have:=r.un;show A.units+1+16 * k+200 < _;omega,r.gd⟩
theorem dF.depth {k:Nat} {A:Around} (r:dF k A):A.depth < recursionLimit:=by have:=r.dp;omega
theorem dF.units {k:Nat} {A:Around} (r:dF k A):A.units+64 < cLine:=by have:=r.un;omega
def BG:TA:=fun _ H Q=>Q [] H
def xX (ta:TE) (tr:TA):TA:=fun σ H Q=>ta σ H fun x H1=>tr σ H1 fun xs H2=>Q (x :: xs) H2
section
variable {X:Cx} {e:Expr} {es:List Expr} {te:TE} {t:TA} {pos:Pos}
theorem Ak:PA X [] BG:=fun _ _ _ _ H Q I h=>Calls.spliced_nil ⟨[],H,I,.nil,h⟩
theorem w9 (ha:PE X e te) (hr:PA X es t) (hs:starEach (e :: es) X.env=(false,eval e X.env) :: starEach es X.env:=by rfl):PA X (e :: es) (xX te t):=by
 intro pos pins s σ H Q I h
 rw [hs]
 show wpAny _ _ (spliced ((false,eval e X.env) :: backTo pos (starEach es X.env))) _ _ s
 refine Calls.spliced_cons (cb (ha pins s σ H _ I h) fun u s1 ⟨x,H1,I1,r1,q1⟩=>?_)
 exact cb (hr pos pins s1 σ H1 _ I1 q1) fun us s2 ⟨xs,H2,I2,r2,q2⟩=>⟨x :: xs,H2,I2,.cons r1 r2,q2⟩
def BC (t:TA):TE:=fun σ H Q=>t σ H fun xs H1=>xs.length≤sizeLine/\∀ p,H1 p=none->Q (.ref p) (ax H1 p (.tup xs))
def BH (t:TA):TE:=fun σ H Q=>t σ H fun xs H1=>xs.length≤sizeLine/\∀ p,H1 p=none->Q (.ref p) (ax H1 p (.lst xs))
theorem Ab {x1} (h:PA X es t):PE X (.Tuple es x1 pos) (BC t):=by
 intro pins s σ H Q I hq
 refine wpAny_Tuple_spliced (cb (h pos pins s σ H _ I hq) fun us s1 ⟨xs,H1,I1,r,z,q⟩=>⟨by rw [← r.length];exact z,?_⟩)
 have hf:H1 s1.heap.objs.size=none:=I1.hok.fresh (Nat.le_refl _)
 refine⟨.ref s1.heap.objs.size,ax H1 s1.heap.objs.size (.tup xs),I1.laid (t':=s1.toks) (fun b u e=>Heap.get?_push_of_some _ e) (Nat.le_refl _) ?_,rfl,q _ hf⟩
 exact⟨z,us,r,⟨_,Heap.get?_push_size _ rfl,rfl,_,rfl⟩⟩
theorem Ah (h:PA X es t):PE X (.List es pos) (BH t):=by
 intro pins s σ H Q I hq
 refine wpAny_List_spliced (cb (h pos pins s σ H _ I hq) fun us s1 ⟨xs,H1,I1,r,z,q⟩=>⟨by rw [← r.length];exact z,?_⟩)
 have hf:H1 s1.heap.objs.size=none:=I1.hok.fresh (Nat.le_refl _)
 refine⟨.ref s1.heap.objs.size,ax H1 s1.heap.objs.size (.lst xs),I1.laid (t':=s1.toks) (fun b u e=>Heap.get?_push_of_some _ e) (Nat.le_refl _) ?_,rfl,q _ hf⟩
 exact⟨z,us,0,r,Heap.get?_push_size _ rfl⟩
end
abbrev Sp:=List V->Hp->VK->XK->Prop
abbrev ni:=List Env->Hp->Shared->XK->Value->Shared->Prop
structure vK (P:Program) (w:World) (K:PySem.W.Frag) (mg:Str->Option Value) (base:Heap) (A:Around) (outer:List Env) (s:Shared) (H:Hp):Prop where
 frames:A.frames=some outer
 mod:Mod K mg base
 bs:∀ b o,base.get? b=some o->s.heap.get? b=some o/\H b=none
 bsz:base.objs.size≤s.heap.objs.size
 funs:s.heap.FunFrames base outer
 frf:∀ b∈pC outer,H b=none
 hok:gD P w H s.heap
 bare:AllBare s.gens
def CE (outer:List Env) (P:Program) (w:World) (H:Hp) (s:Shared) (Q:VK) (u:Value) (s':Shared):Prop:=
 ∃ v H',s'.os=s.os/\AllBare s'.gens/\Un (pC outer) [] H H' s.heap s'.heap/\gD P w H' s'.heap/\aY v u/\Q v H'
def CR (CX:ni) (outer:List Env) (P:Program) (w:World) (H:Hp) (s:Shared) (Q:VK) (E:XK) (r:Result) (s':Shared):Prop:=
 match r with
 | .ok (.ret u)=>CE outer P w H s Q u s'
 | .ok _=>False
 | .error e=>CX outer H s E e s'
structure bO (P:Program) (w:World) (K:PySem.W.Frag) (mg:Str->Option Value) (base:Heap) (CX:ni) (k:Nat) (f:Addr) (fd:FuncData) (ps:List Str) (sp:Sp):Prop where
 len:∀ vs H Q E,sp vs H Q E->vs.length=ps.length
 run:∀ (A:Around) (outer:List Env) (s:Shared) (H:Hp) (args:Args) (us:List Value) (vs:List V) (Q:VK) (E:XK),dF k A->vK P w K mg base A outer s H->BindsTo s fd args (ps.zip us)->bg vs us->sp vs H Q E→
  codeAny (model P w) A (.call (.ref f) args) (CR CX outer P w H s Q E) s
section
variable {X:Cx} {pins:List (Addr×Obj)} {σ:St} {H:Hp} {s s':Shared}
theorem Inv.env0 (I:Inv X pins σ H s):vK X.prog X.w X.K X.mg X.base X.A X.stack s H:=
 ⟨I.ok.frames,I.ok.mod,I.bs,Nat.le_trans I.ok.bsz I.sz,I.stack,I.stkFree,I.hok,I.bare⟩
theorem Inv.after {Q:VK} {u:Value} (I:Inv X pins σ H s) (h:CE X.stack X.prog X.w H s Q u s'):EP X pins σ Q u s':=by
 obtain⟨v,H',os,bare,un,hok,r,q⟩:=h
 obtain⟨hh,g,d,t,os'⟩:=s'
 obtain rfl:os'=s.os:=os
 exact⟨v,H',I.call (h':=hh) (g':=g) (d':=d) (t':=t) (ch:=[]) un hok bare (fun b z=>absurd z (by simp)),r,q⟩
end
def rM (sp:Sp) (dvs:List V) (E:XK) (t:TA):TE:=fun σ H Q=>t σ H fun vs H1=>sp (vs++dvs) H1 Q E
def EC (C:Addr) (m:Str) (sp:Sp) (dvs:List V) (E:XK) (ta:TE) (t:TA):TE:=fun σ H Q=>ta σ H fun x H1=>∃ a dx fs,x=.ref a/\H1 a=some (.ins C dx fs)/\fs.lookup m=none∧
 t σ H1 fun vs H2=>sp (x :: (vs++dvs)) H2 Q E
def ED (C:Addr) (sp:Sp) (dvs:List V) (E:XK) (t:TA):TE:=fun σ H Q=>t σ H fun vs H1=>∀ x dx,H1 x=none->H1 dx=none->dx≠x→
 sp (.ref x :: (vs++dvs)) (ax (ax H1 dx (.own x)) x (.ins C dx [])) (fun v H2=>v=.non/\Q (.ref x) H2) E
def ba (K:PySem.W.Frag) (fd:FuncData) (ps:List Str) (ds:List Value):Prop:=
 ∀ (s:Shared) (us:List Value),K.In s.heap->(us++ds).length=ps.length->BindsTo s fd ⟨us,[]⟩ (ps.zip (us++ds))
theorem ba.all {K:PySem.W.Frag} {fd:FuncData} {ps:List Str} (h:∀ us:List Value,us.length=ps.length->bindArgs fd ⟨us,[]⟩=pure (ps.zip us)):ba K fd ps []:=fun s us _ hl=>by
 rw [List.append_nil] at hl ⊢
 exact .of_eq (h us hl)
def lJ (CX:ni) (X:Cx) (E:XK):Prop:=∀ (pins:List (Addr×Obj)) (σ:St) (H:Hp) (s:Shared) (e:Value) (s':Shared),Inv X pins σ H s->CX X.stack H s E e s'->X.xe e s'
section
variable {X:Cx} {CX:ni} {k:Nat} {f C:Addr} {fd:FuncData} {ps:List Str} {sp:Sp} {dvs:List V} {ds:List Value} {E:XK} {x m:Str} {p pos apos:Pos} {e o:Expr} {es:List Expr} {ta:TE} {t:TA}
theorem zr {pins:List (Addr×Obj)} {σ:St} {H:Hp} {s:Shared} {Q:VK} {us:List Value} {vs:List V} (F:bO X.prog X.w X.K X.mg X.base CX k f fd ps sp) (hr:dF k X.A) (hb:ba X.K fd ps ds) (hd:bg dvs ds) (hx:lJ CX X E)
  (I:Inv X pins σ H s) (r:bg vs us) (h:sp (vs++dvs) H Q E):wpAny (model X.prog X.w) X.A (call (.ref f) us) (EP X pins σ Q) X.xe s:=by
 have r2:bg (vs++dvs) (us++ds):=r.append hd
 have hl:(us++ds).length=ps.length:=by rw [← r2.length];exact F.len _ _ _ _ h
 refine wpAny_call (codeAny_mono (F.run X.A X.stack s H ⟨us,[]⟩ (us++ds) (vs++dvs) Q E hr I.env0 (hb s us I.kIn hl) r2 h) fun r s' hq=>?_)
 cases r with
 | error e=>exact hx pins σ H s e s' I hq
 | ok fl=>
  cases fl with
  | ret u=>exact I.after hq
  | next=>exact False.elim hq
  | brk=>exact False.elim hq
  | cont=>exact False.elim hq
theorem w6 (F:bO X.prog X.w X.K X.mg X.base CX k f fd ps sp) (hr:dF k X.A) (hg:Gl X x) (hm:X.mg x=some (.ref f)) (hk:PySem.W.keepIn X.K (.ref f)=true) (hb:ba X.K fd ps ds) (hd:bg dvs ds) (hx:lJ CX X E)
  (ha:PA X (e :: es) t) (hdb:(x == ("__debug__" : Str))=false:=by decide) (he:starEach (e :: es) X.env=(false,eval e X.env) :: starEach es X.env:=by rfl) (hpl:(backTo pos (starEach es X.env)).any (·.1)=false:=by rfl) :
  PE X (.Call (.Name x p) (e :: es) [] pos) (rM sp dvs E t):=by
 intro pins s σ H Q I h
 refine wpAny_Call_Name_kw (o8 I hg hm ?_ hdb)
 refine PySem.W.callWith_K (h₀:=X.base) I.ok.mod.kin hk (cb (ha pos pins s σ H _ I h) fun us s1 ⟨vs,H1,I1,r,q⟩=>⟨I1.kIn,?_⟩) he hpl
 exact zr F hr hb hd hx I1 r q
structure Mk (K:PySem.W.Frag) (C f:Addr):Prop where
 makes:PySem.W.makesIn K C=true
 init:PySem.W.findIn K (.ref C) "__init__" = some (some (.ref f))
 fn:PySem.W.isFn K (.ref f)=true
 kp:PySem.W.keepIn K (.ref C)=true
end
def PK (X:Cx) (kws:List Keyword) (t:TA):Prop:=
 ∀ (pos:Pos) (pins:List (Addr×Obj)) (s:Shared) (σ:St) (H:Hp) (Q:List V->Hp->Prop),Inv X pins σ H s->t σ H Q->wpAny (model X.prog X.w) X.A (evalAll ((backToKw pos (keywordEach kws X.env)).map (·.2))) (AP X pins σ Q) X.xe s
section
variable {X:Cx} {CX:ni} {k:Nat} {f C:Addr} {fd:FuncData} {ps ks:List Str} {sp:Sp} {E:XK} {x m:Str} {p pos apos kpos:Pos} {e o:Expr} {es:List Expr} {kws:List Keyword} {te ta:TE} {t tk:TA} {nm:Option Str}
structure Eh (K:PySem.W.Frag) (fd:FuncData) (ps ks:List Str) (g:List Value->List Value->List Value) (gV:List V->List V->List V):Prop where
 to:∀ (s:Shared) (us ws:List Value),K.In s.heap->(g us ws).length=ps.length->BindsTo s fd ⟨us,ks.zip ws⟩ (ps.zip (g us ws))
 rel:∀ {vs:List V} {us:List Value} {zs:List V} {ws:List Value},bg vs us->bg zs ws->bg (gV vs zs) (g us ws)
def Dz (sp:Sp) (gV:List V->List V->List V) (E:XK) (t tk:TA):TE:=fun σ H Q=>t σ H fun vs H1=>tk σ H1 fun zs H2=>sp (gV vs zs) H2 Q E
variable {g:List Value->List Value->List Value} {gV:List V->List V->List V}
end
structure aL (N P:List Str) (sc:Scope):Prop where
 kind:sc.kind=.function
 co:sc.isCoroutine=false
 gen:sc.isGenerator=false
 nd:N.Nodup
 pre:N.take P.length=P
 par:∀ x∈P,sc.names.lookup x=some .local∨sc.names.lookup x=some .cell
 nofree:∀ y∈sc.names,y.2≠.free
theorem kh {kindOf:Str->Option NameKind} {x:Str}:∀ {binds:List (Str×Value)} {m:Str->Option Value},(∀ v,(x,v)∉binds)->bindL kindOf binds m x=m x
 | [],_,_=>rfl
 | (n,v) :: r,m,h=>by
  unfold bindL
  rw [kh fun w hw=>h w (List.mem_cons_of_mem _ hw)]
  split
  ·have:x≠n:=by rintro rfl;exact h v List.mem_cons_self
   simp [this]
  ·rfl
theorem kj {kindOf:Str->Option NameKind} {x:Str}:∀ {binds:List (Str×Value)} {m:Str->Option Value},(∀ v,(x,v)∉binds)->bindC kindOf binds m x=m x
 | [],_,_=>rfl
 | (n,v) :: r,m,h=>by
  unfold bindC
  rw [kj fun w hw=>h w (List.mem_cons_of_mem _ hw)]
  split
  ·rfl
  ·have:x≠n:=by rintro rfl;exact h v List.mem_cons_self
   simp [this]
theorem ki {kindOf:Str->Option NameKind} {x:Str} {v:Value}:∀ {P:List Str} {vs:List Value} {i:Nat} {m:Str->Option Value},P.Nodup->P[i]?=some x->vs[i]?=some v->kindOf x=some .local→
  bindL kindOf (P.zip vs) m x=some v
 | [],_,_,_,_,h,_,_=>by simp at h
 | _ :: _,[],_,_,_,_,h,_=>by simp at h
 | p :: P,w :: vs,0,m,nd,h1,h2,hk=>by
  simp at h1 h2;subst h1;subst h2
  show bindL kindOf ((p,w) :: P.zip vs) m p=_
  unfold bindL
  rw [kh fun v hv=>(List.nodup_cons.mp nd).1 (List.of_mem_zip hv).1,if_pos hk]
  simp
 | p :: P,w :: vs,i+1,m,nd,h1,h2,hk=>by
  show bindL kindOf ((p,w) :: P.zip vs) m x=_
  unfold bindL
  exact ki (i:=i) (List.nodup_cons.mp nd).2 (by simpa using h1) (by simpa using h2) hk
theorem km {kindOf:Str->Option NameKind} {x:Str} {v:Value}:∀ {P:List Str} {vs:List Value} {i:Nat} {m:Str->Option Value},P.Nodup->P[i]?=some x->vs[i]?=some v->kindOf x≠some .local→
  bindC kindOf (P.zip vs) m x=some v
 | [],_,_,_,_,h,_,_=>by simp at h
 | _ :: _,[],_,_,_,_,h,_=>by simp at h
 | p :: P,w :: vs,0,m,nd,h1,h2,hk=>by
  simp at h1 h2;subst h1;subst h2
  show bindC kindOf ((p,w) :: P.zip vs) m p=_
  unfold bindC
  rw [kj fun v hv=>(List.nodup_cons.mp nd).1 (List.of_mem_zip hv).1,if_neg hk]
  simp
 | p :: P,w :: vs,i+1,m,nd,h1,h2,hk=>by
  show bindC kindOf ((p,w) :: P.zip vs) m x=_
  unfold bindC
  exact km (i:=i) (List.nodup_cons.mp nd).2 (by simpa using h1) (by simpa using h2) hk
def gY (N:List Str) (vs:List V):St:=vs.map some++List.replicate (N.length - vs.length) none
def bX (CX:ni) (P:Program) (w:World) (K:PySem.W.Frag) (mg:Str->Option Value) (base:Heap) (N:List Str) (qual:Str) (scope:Scope) (f:Addr) (cd:Value) (A:Around) (outer:List Env) (s:Shared) (H:Hp) (E:XK):Cx where
 prog:=P
 w:=w
 K:=K
 mg:=mg
 base:=base
 A:=A.deeper (envOfC qual scope s.heap.objs.size f cd)
 N:=N
 s₀:=s
 H₀:=H
 env:=envOfC qual scope s.heap.objs.size f cd
 outer:=outer
 stack:=envOfC qual scope s.heap.objs.size f cd :: outer
 ex:=[]
 calm:=true
 fn:=fun _=>true
 pn:=[]
 xe:=fun e s'=>wpAny (model P w) (A.deeper (envOfC qual scope s.heap.objs.size f cd)) (leaving (envOfC qual scope s.heap.objs.size f cd) e) (fun _ s''=>CX outer H s E e s'') (fun e' s''=>CX outer H s E e' s'') s'
theorem mY {sc:Scope} {n:Nat} {x:Str} (h:sc.names.lookup x=some .cell):∃ c,(cellsFrom n sc.names []).lookup x=some c:=by
 have q:=PySem.W.cellsFrom_some sc.names n [] (.inl h)
 exact Option.isSome_iff_exists.mp q
theorem qJ {CX:ni} {P:Program} {w:World} {K:PySem.W.Frag} {mg:Str->Option Value} {base:Heap} {N ps:List Str} {qual:Str} {scope:Scope} {f:Addr} {cd:Value} {A:Around} {outer:List Env} {s s1:Shared} {H:Hp} {E:XK} {us:List Value} {vs:List V}
  (S:aL N ps scope) (hd:A.handled=none) (e0:vK P w K mg base A outer s H) (hl:vs.length=ps.length) (r:bg vs us)
  (x:InCallC s s.heap.objs.size (bindL (envOfC qual scope s.heap.objs.size f cd).kindOf (ps.zip us) fun _=>none) (cellsFrom (s.heap.objs.size+1) scope.names []) (bindC (envOfC qual scope s.heap.objs.size f cd).kindOf (ps.zip us) fun _=>none) s1) :
  Inv (bX CX P w K mg base N qual scope f cd A outer s H E) [] (gY N vs) H s1:=by
 have hpl:ps.length≤N.length:=by have:=congrArg List.length S.pre;rw [List.length_take] at this;omega
 obtain⟨h1,tk,rfl,hk⟩:=x.done
 have noA:∀ b:Addr,b∉(bX CX P w K mg base N qual scope f cd A outer s H E).ex:=fun b z=>absurd (show b∈([]:List Addr) from z) (by simp)
 refine⟨⟨e0.mod,S.kind,rfl,rfl,Nat.le_refl _,fun y z c h1 h2=>?_,fun y hy=>?_,fun y c _ h=>?_,fun _=>hd,Around.frames_deeper e0.frames,.inr ⟨rfl,rfl⟩,fun b z=>absurd z (noA b),e0.bs,e0.bsz,fun b _ _=>noA b,fun b z=>absurd z (noA b),e0.funs,e0.frf⟩,
  rfl,e0.bare,Un.kept hk,⟨_,x.toInCall.ns,fun i y v h1 h2 h3=>?_⟩,fun y c h=>⟨_,x.cell y c h⟩,e0.hok.fresh (Nat.le_refl _),fun y c h=>?_,fun p hp=>absurd (show p∈([]:List (Addr×Obj)) from hp) (by simp),e0.hok.kept hk,?_⟩
 ·exact name_of_addr x.apart (PySem.mem_of_lookup h1) (PySem.mem_of_lookup h2)
 ·have hy:scope.names.lookup y=some .cell∨scope.names.lookup y=some .free:=hy
  rcases hy with hy | hy
  ·exact mY hy
  ·exact absurd rfl (S.nofree _ (PySem.mem_of_lookup hy))
 ·exact Nat.le_of_lt (x.above y c (PySem.mem_of_lookup h))
 ·have hi:i < vs.length:=by
   unfold gY at h2
   by_cases hi:i < vs.length
   ·exact hi
   ·rw [List.getElem?_append_right (by simpa using hi)] at h2
    rw [List.getElem?_replicate] at h2
    split at h2 <;> cases h2
  have ha:vs[i]?=some v:=by
   unfold gY at h2
   rw [List.getElem?_append_left (by simpa using hi),List.getElem?_map] at h2
   cases e:vs[i]? with
   | none=>rw [e] at h2;cases h2
   | some a=>rw [e] at h2;cases h2;rfl
  obtain⟨u,hu,rv⟩:=r.get ha
  have hp:ps[i]?=some y:=by
   rw [← S.pre,List.getElem?_take_of_lt (by omega)];exact h1
  have ndP:ps.Nodup:=by rw [← S.pre];exact S.nd.sublist (List.take_sublist _ _)
  refine⟨u,rv,?_⟩
  rcases S.par y (List.mem_of_getElem? hp) with k | k
  ·exact .inl ⟨k,ki ndP hp hu k⟩
  ·obtain⟨c,e⟩:=mY (n:=s.heap.objs.size+1) k
   refine .inr ⟨.inl k,c,e,?_⟩
   have q:=x.cell y c e
   rw [km ndP hp hu (by show scope.names.lookup y≠_;rw [k];decide)] at q
   exact q
 ·exact e0.hok.fresh (Nat.le_of_lt (x.above y c (PySem.mem_of_lookup h)))
 ·unfold gY
  show _=N.length
  rw [List.length_append,List.length_map,List.length_replicate]
  omega
theorem yu {CX:ni} {P:Program} {w:World} {K:PySem.W.Frag} {mg:Str->Option Value} {base:Heap} {k:Nat} {f:Addr} {name qual:Str} {params:Arguments} {body:List Stmt} {scope:Scope} {dV kV doc pm cdv ct oc:Value} {an od:Option Addr}
  {osl:Array (Option Value)} {N ps:List Str} {sp:Sp} (lk:K.lookup f=some ⟨oc,od,.func (PySem.W.fnOf name qual params body scope dV kV doc pm an cdv ct),osl⟩) (hcd:PySem.W.codeIn K cdv qual=true) (S:aL N ps scope)
  (len:∀ vs H Q E,sp vs H Q E->vs.length=ps.length)
  (hbody:∀ (A:Around) (outer:List Env) (s:Shared) (H:Hp) (vs:List V) (Q:VK) (E:XK),dF k (A.deeper (envOfC qual scope s.heap.objs.size f cdv))->sp vs H Q E→
   ∃ t,nh (bX CX P w K mg base N qual scope f cdv A outer s H E) body t/\t { nx:=fun _ H'=>Q .non H',rt:=Q } (gY N vs) H) :
  bO P w K mg base CX (k+1) f (PySem.W.fnOf name qual params body scope dV kV doc pm an cdv ct) ps sp:=by
 refine⟨len,fun A outer s H args us vs Q E hr e0 hb r hsp=>?_⟩
 have hl:=len _ _ _ _ hsp
 have KX:K.In s.heap:=e0.mod.kin.keeps fun b o e=>(e0.bs b o e).1
 have lim:s.heap.NoLimit:=e0.mod.nolimit.keeps fun b o e=>(e0.bs b o e).1
 have hkind:∀ y∈ps.zip us,scope.names.lookup y.1=some .local∨(scope.names.lookup y.1=some .cell/\((cellsFrom (s.heap.objs.size+1) scope.names []).lookup y.1).isSome=true):=fun⟨n,v⟩ hy=>by
  rcases S.par n (List.of_mem_zip hy).1 with q | q
  ·exact .inl q
  ·exact .inr ⟨q,PySem.W.cellsFrom_some _ _ _ (.inl q)⟩
 refine codeAny_call_function hr.depth (KX _ _ lk) rfl S.co S.gen rfl (PySem.W.codeRec_of KX hcd) (hb _ _ _ _ ?_)
 refine wpAny_newFunctionEnv_cells S.kind hkind fun env he s1 x=>?_
 subst he
 refine⟨lim.keeps x.toInCall.keep,codeAny_func ?_⟩
 obtain⟨t,ht,hq⟩:=hbody A outer s H vs Q E (hr.deeper _) hsp
 have I:Inv (bX CX P w K mg base N qual scope f cdv A outer s H E) [] (gY N vs) H s1:=qJ S hr.hd e0 hl r x
 refine wpAny_mono (ht [] s1 (gY N vs) H _ I hq) (fun fl s' hs=>?_) fun e s' hs=>hs
 have fin:∀ {σ':St} {H':Hp} {v:V} {u:Value},Inv (bX CX P w K mg base N qual scope f cdv A outer s H E) [] σ' H' s'->aY v u->Q v H'->CE outer P w H s Q u s':=
  fun {σ' H' v u} J rv q=>⟨v,H',J.os,J.bare,J.base,J.hok,rv,q⟩
 cases fl with
 | ret u=>
  obtain⟨v,σ',H',J,rv,q⟩:=hs
  exact fin J rv q
 | next=>
  obtain⟨σ',H',J,q⟩:=hs
  exact fin (v:=V.non) (u:=Value.none) J rfl q
 | brk=>
  obtain⟨_,_,_,q⟩:=hs
  exact False.elim q
 | cont=>
  obtain⟨_,_,_,q⟩:=hs
  exact False.elim q
end L2
namespace L2
open PySem PySem.Spec PyProof.Rows
section
variable {X:Cx} {x:Str} {p pos:Pos} {e:Expr} {es:List Expr} {t:TA} {id T:String} {r:List V->Hp->VK->Prop}
def CZ (r:List V->Hp->VK->Prop) (t:TA):TE:=fun σ H Q=>t σ H fun vs H1=>r vs H1 Q
theorem uy (hc:fj X (.builtin id) r) (hg:Gl X x) (hm:X.mg x=none) (hv:bootBuiltins x=some (.builtin id)) (ha:PA X (e :: es) t) (hn:x ≠ "__name__" := by decide) (hdb:(x == ("__debug__" : Str))=false:=by decide)
  (he:starEach (e :: es) X.env=(false,eval e X.env) :: starEach es X.env:=by rfl) (hpl:(backTo pos (starEach es X.env)).any (·.1)=false:=by rfl):PE X (.Call (.Name x p) (e :: es) [] pos) (CZ r t):=by
 intro pins s σ H Q I h
 refine wpAny_Call_Name_kw (fZ I hg hm hv ?_ hn hdb)
 exact PyProof.Rows.callWith_builtin1 (cb (ha pos pins s σ H _ I h) fun us s1 ⟨vs,H1,I1,r1,q1⟩=>hc pins s1 σ H1 vs us Q I1 r1 q1) he hpl
theorem qw (hc:fj X (.type T) r) (hg:Gl X x) (hm:X.mg x=none) (hv:bootBuiltins x=some (.type T)) (ha:PA X (e :: es) t) (hn:x ≠ "__name__" := by decide) (hdb:(x == ("__debug__" : Str))=false:=by decide)
  (he:starEach (e :: es) X.env=(false,eval e X.env) :: starEach es X.env:=by rfl) (hpl:(backTo pos (starEach es X.env)).any (·.1)=false:=by rfl):PE X (.Call (.Name x p) (e :: es) [] pos) (CZ r t):=by
 intro pins s σ H Q I h
 refine wpAny_Call_Name_kw (fZ I hg hm hv ?_ hn hdb)
 exact PyProof.Rows.callWith_type1 (cb (ha pos pins s σ H _ I h) fun us s1 ⟨vs,H1,I1,r1,q1⟩=>hc pins s1 σ H1 vs us Q I1 r1 q1) he hpl
end
end L2
namespace HT
open PySem PyProof.Rows
def lexLt:List Int->List Int->Bool
 | [],[]=>false
 | [],_ :: _=>true
 | _ :: _,[]=>false
 | x :: xs,y :: ys=>if x=y then lexLt xs ys else decide (x < y)
section
open PySem.SeqAt
open PySem.AutoSeq1 (wpAny_loadPart')
open PySem.MeetsSeq PySem.MeetsSeq2 PySem.MeetsSeq3
end
section
variable {prog:Program} {w:World} {A:Around} {E:Value->Shared->Prop} {s:Shared}
def sIx (n d:Nat):Option Int->Nat
 | none=>d
 | some v=>if v < 0 then (v+(n:Int)).toNat else min v.toNat n
theorem sIx_none (n d:Nat):sIx n d none=d:=rfl
theorem sIx_nat (n d k:Nat):sIx n d (some (k:Int))=min k n:=by
 show (if (k:Int) < 0 then ((k:Int)+(n:Int)).toNat else min (k:Int).toNat n)=min k n
 rw [if_neg (by omega),Int.toNat_natCast]
theorem zo (n d:Nat) (hd:d≤n) (o:Option Int):sIx n d o≤n:=by
 cases o with
 | none=>exact hd
 | some v=>
  show (if v < 0 then (v+(n:Int)).toNat else min v.toNat n)≤n
  by_cases hv:v < 0
  ·rw [if_pos hv];omega
  ·rw [if_neg hv];exact Nat.min_le_right _ _
theorem pJ (v:Int) (n d:Nat):(if v < 0 then max (v+(n:Int)) 0 else min v (n:Int))=((sIx n d (some v):Nat):Int):=by
 show (if v < 0 then max (v+(n:Int)) 0 else min v (n:Int))=(((if v < 0 then (v+(n:Int)).toNat else min v.toNat n):Nat):Int)
 by_cases hv:v < 0
 ·simp only [if_pos hv];omega
 ·simp only [if_neg hv];omega
theorem om (lo hi:Option Int) (n:Nat):Builtin.Slice.sliceAdjust lo hi 1 (n:Int)=(((sIx n 0 lo:Nat):Int),((sIx n n hi:Nat):Int)):=by
 have h1:¬ ((1:Int) < 0):=by omega
 unfold Builtin.Slice.sliceAdjust
 simp only [h1,if_false]
 refine Prod.ext ?_ ?_
 ·cases lo with
  | none=>rfl
  | some v=>exact pJ v n 0
 ·cases hi with
  | none=>rfl
  | some v=>exact pJ v n n
theorem nQ (i j:Nat):Builtin.Slice.slicePlaces (i:Int) (j:Int) 1=j - i:=by
 unfold Builtin.Slice.slicePlaces
 have h1:(1:Int) > 0:=by omega
 simp only [h1,if_true,Int.ediv_one]
 split <;> omega
theorem jl {v:Value} {o:Option Int} {Q:Option Int->Shared->Prop} (p:IsPart v o) (h:Q o s):wpAny (model prog w) A (Builtin.Slice.slicePartIndex v) Q E s:=by
 cases p with
 | none=>exact slicePart_none h
 | int i t=>exact slicePart_int h
theorem fy {sl:Addr} {vl vu:Value} {lo hi:Option Int} {n:Nat} {Q:Int×Int×Nat->Shared->Prop} (hs:s.heap.IsSliceOf sl vl vu .none) (pl:IsPart vl lo) (pu:IsPart vu hi)
  (h:Q (((sIx n 0 lo:Nat):Int),1,sIx n n hi - sIx n 0 lo) s):wpAny (model prog w) A (Builtin.Slice.sliceApplied (.ref sl) (pure (n:Int))) Q E s:=by
 obtain⟨os,hos,hcs,hds⟩:=id hs
 unfold Builtin.Slice.sliceApplied Builtin.Slice.sliceFields
 refine wpAny_bind (wpAny_bind (wpAny_field hos hds (x:=vl) rfl (wpAny_bind (wpAny_field hos hds (x:=vu) rfl (wpAny_bind (wpAny_field hos hds (x:=.none) rfl (wpAny_pure ?_)))))))
 refine wpAny_bind (slicePart_none ?_)
 show wpAny _ _ (if ((1:Int) == 0)=true then _ else _) _ _ s
 rw [if_neg (by decide)]
 refine wpAny_bind (jl pl (wpAny_bind (jl pu (wpAny_bind (wpAny_pure ?_)))))
 show wpAny _ _ (match Builtin.Slice.sliceAdjust lo hi 1 (n:Int) with | (lo,hi)=>pure (lo,(1:Int),Builtin.Slice.slicePlaces lo hi 1)) _ _ s
 rw [om lo hi n]
 show wpAny _ _ (pure (((sIx n 0 lo:Nat):Int),(1:Int),Builtin.Slice.slicePlaces ((sIx n 0 lo:Nat):Int) ((sIx n n hi:Nat):Int) 1)) _ _ s
 rw [nQ]
 exact wpAny_pure h
theorem ul (xs:Array Value) (i k:Nat):((List.range k).filterMap fun (m:Nat)=>xs[((i:Int)+(m:Int) * 1).toNat]?).toArray=((xs.toList.drop i).take k).toArray:=by
 have e:(fun (m:Nat)=>xs[((i:Int)+(m:Int) * 1).toNat]?)=fun m=>xs[i+m]?:=by
  funext m
  have:((i:Int)+(m:Int) * 1).toNat=i+m:=by omega
  rw [this]
 rw [e]
 have:=pick_run xs i k
 rw [List.filterMap_map] at this
 have e2:((fun x=>xs[x]?) ∘ fun x=>i+x)=fun m=>xs[i+m]?:=rfl
 rw [e2] at this
 rw [this]
theorem getItem_tuple_cut {t sl:Addr} {items:Array Value} {vl vu:Value} {lo hi:Option Int} {Q:Value->Shared->Prop} (ht:IsTup s.heap t items) (hs:s.heap.IsSliceOf sl vl vu .none) (pl:IsPart vl lo) (pu:IsPart vu hi)
  (hw:¬ (sIx items.size 0 lo=0/\sIx items.size items.size hi=items.size))
  (h:Q (.ref s.heap.objs.size) { s with heap:=s.heap.push { cls:=.type "tuple", data:=.seq ((items.toList.drop (sIx items.size 0 lo)).take (sIx items.size items.size hi - sIx items.size 0 lo)).toArray } })
  (hsz:items.size≤sizeLine):wpAny (model prog w) A (getItem (.ref t) (.ref sl)) Q E s:=by
 have htake:sizeOk (.seq ((items.toList.drop (sIx items.size 0 lo)).take (sIx items.size items.size hi - sIx items.size 0 lo)).toArray):=by
  show ((items.toList.drop (sIx items.size 0 lo)).take (sIx items.size items.size hi - sIx items.size 0 lo)).toArray.size≤sizeLine
  rw [List.size_toArray,List.length_take,List.length_drop,Array.length_toList]
  omega
 have hj:sIx items.size items.size hi≤items.size:=zo _ _ (Nat.le_refl _) hi
 obtain⟨os,hos,hcs,hds⟩:=id hs
 have hTs:s.TypeIs (.ref sl) "slice" := ⟨os,hos,hcs⟩
 unfold getItem
 try with_reducible refine wpAny_holding ?_
 first | refine wpAny_bind (wpAny_pure ?_) | skip
 refine wpAny_bind (wpAny_sequenceKey ht.typeIs (by decide) ?_)
 refine wpAny_bind (wpAny_callSpecial?_slot (name:=Str.ofString "__getitem__") ht.typeIs PyProof.Rows.slot_tuple_getitem
  (wpAny_call_entry PyProof.Rows.slot_tuple_getitem ht.typeIs entry_tuple_getitem ?_ (args_tuple_getitem _ _)))
 show wpAny _ _ (Builtin.Tuple.tupleItemsOf (.ref t) >>= _) _ _ s
 refine wpAny_bind (tupleItemsOf_ ht ?_)
 refine wpAny_bind (wpAny_typeOf hTs ?_)
 rw [if_pos (by decide)]
 refine wpAny_bind (fy hs pl pu ?_)
 have hno:¬ ((((sIx items.size 0 lo:Nat):Int) == 0 && (1:Int) == 1 && (sIx items.size items.size hi - sIx items.size 0 lo) == items.size)=true):=by
  intro q
  rw [Bool.and_eq_true,Bool.and_eq_true] at q
  have q1:((sIx items.size 0 lo:Nat):Int)=0:=eq_of_beq q.1.1
  have q2:sIx items.size items.size hi - sIx items.size 0 lo=items.size:=eq_of_beq q.2
  exact hw ⟨by omega,by omega⟩
 show wpAny _ _ (if (((sIx items.size 0 lo:Nat):Int) == 0 && (1:Int) == 1 && (sIx items.size items.size hi - sIx items.size 0 lo) == items.size)=true then _ else _) _ _ s
 rw [if_neg hno,ul]
 first
  | exact wpAny_bind (m:=Builtin.Tuple.tupleExact _) (wpAny_newObj_type (wpAny_pure ⟨_,rfl,wpAny_pure h⟩) htake)
  | exact wpAny_bind (m:=Builtin.Tuple.tupleExact _) (wpAny_newObj_type (wpAny_bind (wpAny_pure (wpAny_pure ⟨_,rfl,wpAny_pure h⟩))) htake)
  | exact wpAny_bind (wpAny_bind (m:=Builtin.Tuple.tupleExact _) (wpAny_newObj_type (wpAny_pure (wpAny_pure ⟨_,rfl,wpAny_pure h⟩)) htake))
  | exact wpAny_bind (wpAny_bind (m:=Builtin.Tuple.tupleExact _) (wpAny_newObj_type (wpAny_pure ⟨_,rfl,wpAny_pure h⟩) htake))
end
end HT
namespace L2
open PySem PySem.Spec PyProof.Rows
abbrev TO:=St->Hp->(Option Int->Hp->Prop)->Prop
def PO (X:Cx) (e:Option Expr) (t:TO):Prop:=
 ∀ (pins:List (Addr×Obj)) (s:Shared) (σ:St) (H:Hp) (Q:Option Int->Hp->Prop),Inv X pins σ H s->t σ H Q→
  wpAny (model X.prog X.w) X.A (evalPart e X.env) (fun u s'=>∃ o H',Inv X pins σ H' s'/\IsPart u o/\Q o H') X.xe s
def oE:TO:=fun _ H Q=>Q none H
def xT (t:TE):TO:=fun σ H Q=>t σ H fun x H1=>∃ i,x=.int i/\Q (some i) H1
section
variable {X:Cx} {e:Expr} {te:TE} {lo hi:Option Expr} {tl th:TO} {pos p2:Pos}
theorem wR:PO X none oE:=by
 intro pins s σ H Q I h
 rw [evalPart_none]
 exact wpAny_pure ⟨none,H,I,.none,h⟩
theorem wQ (h:PE X e te):PO X (some e) (xT te):=by
 intro pins s σ H Q I hw
 rw [evalPart_some]
 refine cb (h pins s σ H _ I hw) fun u s1 ⟨x,H1,I1,r1,q1⟩=>?_
 obtain⟨i,rfl,q⟩:=q1
 obtain⟨t,rfl⟩:=r1
 exact⟨some i,H1,I1,.int i t,q⟩
def qZ (X:Cx) (r:V->Option Int->Option Int->Hp->VK->Prop):Prop:=
 ∀ (pins:List (Addr×Obj)) (s:Shared) (σ:St) (H:Hp) (x:V) (v vl vu:Value) (lo hi:Option Int) (sl:Addr) (Q:VK),Inv X pins σ H s->aY x v->s.heap.IsSliceOf sl vl vu .none->IsPart vl lo->IsPart vu hi->r x lo hi H Q→
  ∃ T id,typeLookup (.type T) "__getitem__" = pure (some (.builtin id))/\s.TypeIs v T/\wpAny (model X.prog X.w) X.A (getItem v (.ref sl)) (EP X pins σ Q) X.xe s
theorem qZ.or {r r':V->Option Int->Option Int->Hp->VK->Prop} (h:qZ X r) (h':qZ X r'):qZ X (fun x lo hi H Q=>r x lo hi H Q∨r' x lo hi H Q):=by
 intro pins s σ H x v vl vu lo hi sl Q I rx hs pl pu q
 rcases q with q | q
 ·exact h pins s σ H x v vl vu lo hi sl Q I rx hs pl pu q
 ·exact h' pins s σ H x v vl vu lo hi sl Q I rx hs pl pu q
def Ex (r:V->Option Int->Option Int->Hp->VK->Prop) (te:TE) (tl th:TO):TE:=fun σ H Q=>te σ H fun x H1=>tl σ H1 fun l H2=>th σ H2 fun u H3=>r x l u H3 Q
theorem ur {r:V->Option Int->Option Int->Hp->VK->Prop} (hr:qZ X r) (he:PE X e te) (hl:PO X lo tl) (hu:PO X hi th):PE X (.Subscript e (.Slice lo hi none p2) pos) (Ex r te tl th):=by
 intro pins s σ H Q I h
 refine Subscript_ (cb (he pins s σ H _ I h) fun v s1 ⟨x,H1,I1,r1,q1⟩=>?_)
 refine wpAny_Slice (cb (hl pins s1 σ H1 _ I1 q1) fun vl s2 ⟨l,H2,I2,pl,q2⟩=>cb (hu pins s2 σ H2 _ I2 q2) fun vu s3 ⟨u,H3,I3,pu,q3⟩=>?_)
 rw [evalPart_none]
 refine wpAny_pure ?_
 have I4:Inv X pins σ H3 { s3 with heap:=s3.heap.push { cls:=.type "slice", data:=.fields #[vl,vu,.none] } }:=I3.kept (t':=s3.toks) fun b ob q=>Heap.get?_push_of_some _ q
 obtain⟨T,id,hT,ht,hg⟩:=hr pins { s3 with heap:=s3.heap.push { cls:=.type "slice", data:=.fields #[vl,vu,.none] } } σ H3 x v vl vu l u s3.heap.objs.size Q I4 r1 (Heap.IsSliceOf.new ..) pl pu q3
 show wpAny (model X.prog X.w) X.A (subscriptTail e (.Slice lo hi none p2) v (.ref s3.heap.objs.size)) (EP X pins σ Q) X.xe { s3 with heap:=s3.heap.push { cls:=.type "slice", data:=.fields #[vl,vu,.none] } }
 exact tail_any (ops:=[.ref s3.heap.objs.size,v]) ht hT hg (by with_unfolding_all rfl)
def fQ (xs:List V) (lo hi:Option Int):List V:=(xs.drop (HT.sIx xs.length 0 lo)).take (HT.sIx xs.length xs.length hi - HT.sIx xs.length 0 lo)
theorem iP (xs:List V) (lo hi:Option Int):(fQ xs lo hi).length≤xs.length:=by
 unfold fQ
 rw [List.length_take,List.length_drop]
 omega
def BT (K:PySem.W.Frag):V->Option Int->Option Int->Hp->VK->Prop:=fun x lo hi H Q=>∃ a xs,x=.ref a/\bh K H a xs∧
 ¬ (HT.sIx xs.length 0 lo=0/\HT.sIx xs.length xs.length hi=xs.length)/\∀ p,H p=none->Q (.ref p) (ax H p (.tup (fQ xs lo hi)))
theorem rW:qZ X (BT X.K):=by
 intro pins s σ H x v vl vu lo hi sl Q I rx hs pl pu h
 obtain⟨a,xs,rfl,hx,hw,q⟩:=h
 cases rx
 obtain⟨its,r,ht,hz⟩:=I.tuple hx
 have hlen:its.toArray.size=xs.length:=by rw [List.size_toArray];exact r.length.symm
 refine⟨"tuple", _,PyProof.Rows.slot_tuple_getitem.lookup,ht.typeIs,?_⟩
 refine HT.getItem_tuple_cut ht hs pl pu (by rw [hlen];exact hw) ?_ (by rw [hlen];exact hz)
 rw [hlen]
 refine⟨.ref s.heap.objs.size,_,I.laid (t':=s.toks) (o:=.tup (fQ xs lo hi)) (fun b ob q=>Heap.get?_push_of_some _ q) (Nat.le_refl _) ?_,rfl,q _ (I.hok.fresh (Nat.le_refl _))⟩
 exact⟨Nat.le_trans (iP xs lo hi) hz,_,(r.drop (HT.sIx xs.length 0 lo)).take (HT.sIx xs.length xs.length hi - HT.sIx xs.length 0 lo),IsTup.new _ _⟩
def FV (K:PySem.W.Frag):R2:=fun x y H Q=>∃ a b ns ms,x=.ref a/\y=.ref b/\bh K H a (ns.map V.int)/\bh K H b (ms.map V.int)/\Q (.bl (HT.lexLt ns ms)) H
def EZ (K:PySem.W.Frag):R2:=fun x y H Q=>∃ a b xs ys,x=.ref a/\y=.ref b/\bh K H a xs/\bh K H b ys/\xs≠[]/\xs.length+ys.length≤sizeLine∧
 (ys=[]->Q (.ref a) H)/\(ys≠[]->∀ p,H p=none->Q (.ref p) (ax H p (.tup (xs++ys))))
end
end L2
namespace L2
open PySem PySem.Spec PyProof.Rows
def uV (n:Nat) (i:Int):Option Nat:=if 0≤i then (if i < n then some i.toNat else none) else if -(n:Int)≤i then some (i+n).toNat else none
def jS {α:Type} (xs:List α) (i:Int):Option α:=(uV xs.length i).bind fun j=>xs[j]?
theorem ph {n:Nat} {i:Int} {j:Nat} (h:uV n i=some j):seqIndex? i n=some j/\j < n/\-(n:Int)≤i/\i < n:=by
 unfold uV at h
 by_cases h0:0≤i
 ·rw [if_pos h0] at h
  by_cases h1:i < n
  ·rw [if_pos h1] at h
   have e:i.toNat=j:=Option.some.inj h
   exact⟨by rw [seqIndex_of h0 h1,e],by omega,by omega,h1⟩
  ·rw [if_neg h1] at h;cases h
 ·rw [if_neg h0] at h
  by_cases h1:-(n:Int)≤i
  ·rw [if_pos h1] at h
   have e:(i+n).toNat=j:=Option.some.inj h
   exact⟨by rw [seqIndex_neg (by omega) h1,e],by omega,h1,by omega⟩
  ·rw [if_neg h1] at h;cases h
theorem pM {α:Type} {xs:List α} {i:Int} {v:α} (h:jS xs i=some v):∃ j,seqIndex? i xs.length=some j/\xs[j]?=some v/\j < xs.length/\-(xs.length:Int)≤i/\i < xs.length:=by
 unfold jS at h
 cases e:uV xs.length i with
 | none=>rw [e] at h;cases h
 | some j=>
  rw [e] at h
  obtain⟨h1,h2,h3,h4⟩:=ph e
  exact⟨j,h1,h,h2,h3,h4⟩
theorem bM {α:Type} {xs:List α} {j:Nat} {v:α} (h:xs[j]?=some v):jS xs (j:Int)=some v:=by
 have hj:j < xs.length:=(List.getElem?_eq_some_iff.mp h).1
 have e:uV xs.length (j:Int)=some j:=by
  unfold uV
  rw [if_pos (by omega),if_pos (by omega)];simp
 unfold jS;rw [e];exact h
theorem vt {α:Type} (xs:List α) (v:α):jS (xs++[v]) (-1)=some v:=by
 have hl:(xs++[v]).length=xs.length+1:=by simp
 have e:uV (xs++[v]).length (-1)=some xs.length:=by
  unfold uV
  rw [hl,if_neg (by decide),if_pos (by omega)]
  congr 1
  omega
 unfold jS
 rw [e]
 show (xs++[v])[xs.length]?=some v
 simp
def lI (b:Expr):Prop:=∀ o i,subscripted b false o i=operate [o,i] (getItem o i)
def Bc (X:Cx) (r:R2):Prop:=
 ∀ (value slice:Expr) (pins:List (Addr×Obj)) (s:Shared) (σ:St) (H:Hp) (x y:V) (v u:Value) (Q:VK),Inv X pins σ H s->aY x v->aY y u->r x y H Q→
  subscripted slice false v u=operate [v,u] (getItem v u)->wpAny (model X.prog X.w) X.A (subscriptTail value slice v u) (EP X pins σ Q) X.xe s
def Fl (X:Cx) (id:String) (r:V->List V->Hp->VK->Prop):Prop:=
 ∀ (pins:List (Addr×Obj)) (s:Shared) (σ:St) (H:Hp) (x:V) (xs:List V) (v:Value) (us:List Value) (Q:VK),Inv X pins σ H s->aY x v->bg xs us->r x xs H Q→
  wpAny (model X.prog X.w) X.A (call (.builtin id) (v :: us)) (EP X pins σ Q) X.xe s
section
variable {X:Cx} {a b:Expr} {ta tb:TE} {pos:Pos}
theorem B5 {r:R2} (hr:Bc X r) (ha:PE X a ta) (hb:PE X b tb) (hs:lI b):PE X (.Subscript a b pos) (vW r ta tb):=by
 intro pins s σ H Q I h
 exact Subscript_ (A0 ha hb I h fun v u s2 x y H2 I2 rx ry q=>hr a b pins s2 σ H2 x y v u Q I2 rx ry q (hs _ _))
def zy (K:PySem.W.Frag):R2:=fun x y H Q=>∃ p xs i v,x=.ref p/\y=.int i/\aW K H p xs/\jS xs i=some v/\Q v H
def zx (K:PySem.W.Frag):R2:=fun x y H Q=>∃ p xs i v,x=.ref p/\y=.int i/\bh K H p xs/\jS xs i=some v/\Q v H
def DI:R2:=fun x y H Q=>∃ z i c,x=.str z/\y=.int i/\z.length≤sizeLine/\jS z.cps.toList i=some c/\Q (.str ⟨#[c]⟩) H
theorem bE:Bc X (zy X.K):=by
 intro value slice pins s σ H x y v u Q I rx ry h hs
 obtain⟨p,xs,i,z,rfl,rfl,hq,he,q⟩:=h
 cases rx
 obtain⟨t,rfl⟩:=ry
 obtain⟨its,r,pl,hz⟩:=I.list hq
 obtain⟨j,h1,h2,h3,h4,h5⟩:=pM he
 obtain⟨w,ew,rw'⟩:=r.get h2
 have hl:=r.length
 have hn:=jA
 have fin:EP X pins σ Q w s:=⟨z,H,I,rw',q⟩
 by_cases h0:0≤i
 ·have hj:i.toNat=j:=by
   rw [seqIndex_of h0 h5] at h1
   exact Option.some.inj h1
  exact item_listR pl.isList h0 (by omega) (by rw [hj];simpa using ew) fin hs
 ·have hj:(i+(its.toArray.size:Int)).toNat=j:=by
   rw [seqIndex_neg (by omega) h4] at h1
   rw [List.size_toArray,← hl]
   exact Option.some.inj h1
  exact subscriptTail_builtinR (x:=w) pl.isList.typeIs slot_list_getitem.lookup
   (wpAny_getItem_list_neg (Q:=fun r s'=>r=w/\EP X pins σ Q r s') pl.isList (by omega) (by rw [List.size_toArray] <;> omega) (by omega) (by rw [hj];simpa using ew) ⟨rfl,fin⟩) hs
theorem ap:Bc X (zx X.K):=by
 intro value slice pins s σ H x y v u Q I rx ry h hs
 obtain⟨p,xs,i,z,rfl,rfl,hq,he,q⟩:=h
 cases rx
 obtain⟨t,rfl⟩:=ry
 obtain⟨its,r,pl,hz⟩:=I.tuple hq
 obtain⟨j,h1,h2,h3,h4,h5⟩:=pM he
 obtain⟨w,ew,rw'⟩:=r.get h2
 have hl:=r.length
 have hn:=jA
 have fin:EP X pins σ Q w s:=⟨z,H,I,rw',q⟩
 exact subscriptTail_builtinR (x:=w) pl.typeIs slot_tuple_getitem.lookup
  (getItem_tuple (j:=j) (Q:=fun r s'=>r=w/\EP X pins σ Q r s') pl (by omega) (by omega) (by rw [List.size_toArray,← hl];exact h1) (by simpa using ew) ⟨rfl,fin⟩) hs
def GE (K:PySem.W.Frag):R2:=fun x y H Q=>zy K x y H Q∨zx K x y H Q∨DI x y H Q
theorem nV (its:List Value) (n j:Nat) (u:Value):Obj.mapSeq (·.setIfInBounds j u) { cls:=.type "list", data:=.seq its.toArray n }={ cls:=.type "list", data:=.seq (its.set j u).toArray n }:=by
 simp [Obj.mapSeq]
theorem Inv.lst {pins:List (Addr×Obj)} {σ:St} {H:Hp} {s:Shared} {p:Addr} {xs:List V} (I:Inv X pins σ H s) (h:H p=some (.lst xs)) :
  ∃ (its:List Value) (n:Nat),bg xs its/\s.heap.get? p=some { cls:=.type "list", data:=.seq its.toArray n }/\xs.length≤sizeLine:=by
 obtain⟨z,its,n,r,e⟩:=I.hok p _ h
 exact⟨its,n,r,e,z⟩
theorem Inv.lstUpd {pins:List (Addr×Obj)} {σ:St} {H:Hp} {s:Shared} {p:Addr} {xs ys:List V} {its its':List Value} {n n':Nat} {f:Obj->Obj} (I:Inv X pins σ H s) (h:H p=some (.lst xs))
  (ho:s.heap.get? p=some { cls:=.type "list", data:=.seq its.toArray n }) (hf:f { cls:=.type "list", data:=.seq its.toArray n }={ cls:=.type "list", data:=.seq its'.toArray n' }) (r:bg ys its') (hz:ys.length≤sizeLine) (t:Nat) :
  Inv X pins σ (ax H p (.lst ys)) { s with heap:=s.heap.update p f,toks:=t }:=by
 have e:(s.heap.update p f).get? p=some { cls:=.type "list", data:=.seq its'.toArray n' }:=by
  rw [Heap.get?_update_self f ho (by rw [hf] <;> rfl),hf]
 refine I.write (x:=p) (e:=p) (by rw [h];trivial) (.inl rfl) (fun b u hb q=>(Heap.get?_update_other _ _ (Ne.symm hb)).trans q) ⟨_,e⟩ ?_
 exact⟨hz,its',n',r,e⟩
def BU:V->V->V->Hp->(Hp->Prop)->Prop:=fun o i v H Q=>∃ p xs k j,o=.ref p/\i=.int k/\H p=some (.lst xs)/\uV xs.length k=some j/\Q (ax H p (.lst (xs.set j v)))
theorem hJ:vF X BU:=by
 intro pins s σ H o i v ov iv u Q I ro ri rv h
 obtain⟨p,xs,k,j,rfl,rfl,hp,hj,q⟩:=h
 cases ro
 obtain⟨t,rfl⟩:=ri
 obtain⟨its,n,r,ho,hz⟩:=I.lst hp
 obtain⟨h1,h2,h3,h4⟩:=ph hj
 have hl:=r.length
 have hn:=jA
 have I':Inv X pins σ (ax H p (.lst (xs.set j v))) { s with heap:=s.heap.update p (Obj.mapSeq (·.setIfInBounds j u)) }:=
  I.lstUpd hp ho (nV its n j u) (r.set rv j) (by rw [List.length_set];exact hz) s.toks
 by_cases h0:0≤k
 ·have hk:k.toNat=j:=by
   rw [seqIndex_of h0 h4] at h1
   exact Option.some.inj h1
  exact PySem.W.ki_setAt ho h0 (by omega) (by rw [List.size_toArray,← hl];exact h4) (by rw [hk];exact⟨_,I',q⟩)
 ·have hk:(k+(its.toArray.size:Int)).toNat=j:=by
   rw [seqIndex_neg (by omega) h3] at h1
   rw [List.size_toArray,← hl]
   exact Option.some.inj h1
  exact PySem.W.ki_setBack ho (by omega) (by rw [List.size_toArray,← hl];exact h3) (by omega) (by rw [hk];exact⟨_,I',q⟩)
theorem kP (lo hi:Option Int) (n:Nat):(sliceBounds lo hi none n).1=((HT.sIx n 0 lo:Nat):Int)/\(sliceBounds lo hi none n).2.1=((HT.sIx n n hi:Nat):Int)/\(sliceBounds lo hi none n).2.2=1:=by
 refine⟨?_,?_,rfl⟩
 ·cases lo with
  | none=>simp [sliceBounds,HT.sIx]
  | some i=>
   simp only [sliceBounds,HT.sIx,Option.getD_none,show (1:Int) > 0 by decide,if_true]
   by_cases h:i < 0
   ·simp only [h,if_true] <;> omega
   ·simp only [h,if_false] <;> omega
 ·cases hi with
  | none=>simp [sliceBounds,HT.sIx]
  | some i=>
   simp only [sliceBounds,HT.sIx,Option.getD_none,show (1:Int) > 0 by decide,if_true]
   by_cases h:i < 0
   ·simp only [h,if_true] <;> omega
   ·simp only [h,if_false] <;> omega
theorem jO (its:List Value) (lo hi:Option Int):slicePick its.toArray lo hi none=((its.drop (HT.sIx its.length 0 lo)).take (HT.sIx its.length its.length hi - HT.sIx its.length 0 lo)).toArray:=by
 obtain⟨h1,h2,h3⟩:=kP lo hi its.toArray.size
 unfold slicePick
 rw [h1,h2,h3]
 simp only [sliceRange_one,pick_run,List.size_toArray] <;> rfl
def DF (K:PySem.W.Frag):V->Option Int->Option Int->Hp->VK->Prop:=fun x lo hi H Q=>∃ a xs,x=.ref a/\aW K H a xs/\∀ p,H p=none->Q (.ref p) (ax H p (.lst (fQ xs lo hi)))
theorem iX:qZ X (DF X.K):=by
 intro pins s σ H x v vl vu lo hi sl Q I rx hs pl pu h
 obtain⟨a,xs,rfl,hx,q⟩:=h
 cases rx
 obtain⟨its,r,ht,hz⟩:=I.list hx
 have hlen:=r.length
 refine⟨"list", _,slot_list_getitem.lookup,ht.isList.typeIs,?_⟩
 refine wpAny_getItem_list_slice ht.isList hs pl pu .none (by simp) ?_ (by rw [List.size_toArray] <;> omega)
 rw [jO,← hlen]
 refine⟨.ref s.heap.objs.size,_,I.laid (t':=s.toks) (o:=.lst (fQ xs lo hi)) (fun b ob q=>Heap.get?_push_of_some _ q) (Nat.le_refl _) ?_,rfl,q _ (I.hok.fresh (Nat.le_refl _))⟩
 exact⟨Nat.le_trans (iP xs lo hi) hz,_,0,(r.drop (HT.sIx xs.length 0 lo)).take (HT.sIx xs.length xs.length hi - HT.sIx xs.length 0 lo),Heap.get?_push_size _ rfl⟩
def yw:V->Bool
 | .non=>true
 | .bl _=>true
 | .int _=>true
 | .str _=>true
 | _=>false
def Cy:V->V->Bool
 | .non,.non=>true
 | .bl a,.bl b=>a == b
 | .bl a,.int b=>(if a then 1 else 0) == b
 | .int a,.bl b=>a == (if b then 1 else 0)
 | .int a,.int b=>a == b
 | .str a,.str b=>a == b
 | _,_=>false
def GL (x:V) (u:Value):Bool:=match u with
 | .none=>Cy .non x
 | .bool b=>Cy (.bl b) x
 | .int i _=>Cy (.int i) x
 | .str z _=>Cy (.str z) x
 | _=>false
def E5 (x:V) (xs:List V):Bool:=xs.any fun y=>Cy y x
def GF (K:PySem.W.Frag) (neg:Bool):R2:=fun x y H Q=>∃ p xs,y=.ref p/\(aW K H p xs∨bh K H p xs)/\yw x=true/\xs.all yw=true/\Q (.bl (if neg then !E5 x xs else E5 x xs)) H
theorem aR:fj X (.builtin "len") (fun xs H Q=>∃ p ys,xs=[.ref p]/\(aW X.K H p ys∨bh X.K H p ys)/\Q (.int ys.length) H):=by
 intro pins s σ H xs us Q I r h
 obtain⟨p,ys,rfl,hq,q⟩:=h
 obtain⟨u,rfl,rx⟩:=gQ r
 cases rx
 have hn:=jA
 rcases hq with hq | hq
 ·obtain⟨its,r',pl,hz⟩:=I.list hq
  have hlen:=r'.length
  exact Calls.call_len_list pl.isList (by simp only [List.size_toArray] <;> omega) ⟨.int ys.length,H,I.tok _,⟨s.toks+1,by rw [List.size_toArray,hlen]⟩,q⟩
 ·obtain⟨its,r',pl,hz⟩:=I.tuple hq
  have hlen:=r'.length
  exact len_tuple pl (by simp only [List.size_toArray] <;> omega) ⟨.int ys.length,H,I.tok _,⟨s.toks+1,by rw [List.size_toArray,hlen]⟩,q⟩
theorem ik:fj X (.type "list") (fun xs H Q=>∃ p ys,xs=[.ref p]/\(aW X.K H p ys∨bh X.K H p ys)/\∀ l,H l=none->Q (.ref l) (ax H l (.lst ys))):=by
 intro pins s σ H xs us Q I r h
 obtain⟨p,ys,rfl,hq,q⟩:=h
 obtain⟨u,rfl,rx⟩:=gQ r
 cases rx
 have fin:∀ (its:List Value),bg ys its->ys.length≤sizeLine->∀ (h':Heap) (c':Nat),(∀ b o',s.heap.get? b=some o'->h'.get? b=some o')→
   h'.get? s.heap.objs.size=some { cls:=.type "list", dict:=none,data:=.seq its.toArray c',slots:=#[] }->EP X pins σ Q (.ref s.heap.objs.size) { s with heap:=h' }:=fun its r' hz h' c' kp e=>
  ⟨.ref s.heap.objs.size,_,I.laid (t':=s.toks) kp (Nat.le_refl _) (show bJ X.prog X.w _ h' _ (.lst ys) from ⟨hz,its,c',r',e⟩),rfl,q _ (I.hok.fresh (Nat.le_refl _))⟩
 rcases hq with hq | hq
 ·obtain⟨its,r',pl,hz⟩:=I.list hq
  have hlen:=r'.length
  obtain⟨o,ho,hc,n,hd⟩:=pl.isList
  exact call_list_seq p (.inl rfl) ho hc hd (fun h' c' kp e=>fin its r' hz h' c' kp e) (by simp only [List.size_toArray] <;> omega)
 ·obtain⟨its,r',pl,hz⟩:=I.tuple hq
  have hlen:=r'.length
  obtain⟨o,ho,hc,n,hd⟩:=pl
  exact call_list_seq p (.inr rfl) ho hc hd (fun h' c' kp e=>fin its r' hz h' c' kp e) (by simp only [List.size_toArray] <;> omega)
theorem ft:fj X (.type "tuple") (fun xs H Q=>∃ p ys,xs=[.ref p]/\((aW X.K H p ys/\∀ l,H l=none->Q (.ref l) (ax H l (.tup ys)))∨(bh X.K H p ys/\Q (.ref p) H))):=by
 intro pins s σ H xs us Q I r h
 obtain⟨p,ys,rfl,h⟩:=h
 obtain⟨u,rfl,rx⟩:=gQ r
 cases rx
 rcases h with ⟨hq,q⟩ | ⟨hq,q⟩
 ·obtain⟨its,r',pl,hz⟩:=I.list hq
  have hlen:=r'.length
  refine call_tuple_list pl.isList (fun h' kp=>?_) (by simp only [List.size_toArray] <;> omega)
  have I1:Inv X pins σ H { s with heap:=h' }:=I.kept (t':=s.toks) kp
  have I2:Inv X pins σ (ax H h'.objs.size (.tup ys)) { s with heap:=h'.push { cls:=.type "tuple", data:=.seq its.toArray } }:=
   I1.laid (t':=s.toks) (fun b o e=>Heap.get?_push_of_some _ e) (Nat.le_refl _) (show bJ X.prog X.w _ _ _ (.tup ys) from ⟨hz,its,r',IsTup.new _ _⟩)
  exact⟨.ref h'.objs.size,_,I2,rfl,q _ (I1.hok.fresh (Nat.le_refl _))⟩
 ·obtain⟨its,r',pl,hz⟩:=I.tuple hq
  exact call_tuple_same pl ⟨.ref p,H,I,rfl,q⟩
def Ds (K:PySem.W.Frag) (T:String) (x:V) (H:Hp):Prop:=match x with
 | .str _=>T = "str"
 | .int _=>T = "int"
 | .ref p=>(T = "list" /\ ∃ xs,aW K H p xs)∨(T = "tuple" /\ ∃ o,K.lookup p=some o/\o.cls=.type "tuple" /\ o.dict=none)∨
   (T = "dict" /\ ((∃ kvs,H p=some (.dK kvs))∨∃ kvs,H p=some (.dT kvs)))∨(T = "set" /\ ∃ S n,H p=some (.set S n))
 | _=>False
theorem yM {pins:List (Addr×Obj)} {σ:St} {H:Hp} {s:Shared} {T:String} {x:V} {v:Value} (I:Inv X pins σ H s) (r:aY x v) (ty:Ds X.K T x H) :
  s.TypeIs v T/\∀ a,v=.ref a->∃ ob,s.heap.get? a=some ob/\ob.dict=none:=by
 cases x with
 | str z=>
  obtain⟨t,rfl⟩:=r
  cases (show T = "str" from ty)
  exact⟨typeIs_str s z t,fun _ e=>nomatch e⟩
 | int i=>
  obtain⟨t,rfl⟩:=r
  cases (show T = "int" from ty)
  exact⟨typeIs_int s i t,fun _ e=>nomatch e⟩
 | ref p=>
  cases r
  rcases ty with ⟨rfl,xs,hq⟩ | ⟨rfl,o,hk,hc,hd⟩ | ⟨rfl,hk⟩ | ⟨rfl,S,n,hk⟩
  ·obtain⟨its,_,pl,_⟩:=I.list hq
   refine⟨pl.isList.typeIs,fun a e=>?_⟩
   cases e
   obtain⟨o,n,e,c,hd,_⟩:=pl
   exact⟨o,e,hd⟩
  ·refine⟨⟨o,I.kIn p o hk,hc⟩,fun a e=>?_⟩
   cases e
   exact⟨o,I.kIn _ o hk,hd⟩
  ·have z:∃ o,s.heap.get? p=some o/\o.ExactDict:=by
    rcases hk with ⟨kvs,hk⟩ | ⟨kvs,hk⟩
    ·obtain⟨_,_,_,_,o,_,_,e,ex,_⟩:=I.hok p _ hk
     exact⟨o,e,ex⟩
    ·obtain⟨_,_,_,_,o,_,_,e,ex,_⟩:=I.hok p _ hk
     exact⟨o,e,ex⟩
   obtain⟨o,e,ex⟩:=z
   refine⟨⟨o,e,ex.1⟩,fun a e2=>?_⟩
   cases e2
   exact⟨o,e,ex.2.1⟩
  ·obtain⟨o,_,_,_,e,ex,_⟩:=I.hok p _ hk
   refine⟨⟨o,e,ex.1⟩,fun a e2=>?_⟩
   cases e2
   exact⟨o,e,ex.2.1⟩
 | _=>exact False.elim ty
def FK (K:PySem.W.Frag) (T:String) (r:V->List V->Hp->VK->Prop) (to:TE):TE:=fun σ H Q=>to σ H fun x H1=>Ds K T x H1/\r x [] H1 Q
def EJ (K:PySem.W.Frag) (T:String) (r:V->List V->Hp->VK->Prop) (to:TE) (t:TA):TE:=fun σ H Q=>to σ H fun x H1=>Ds K T x H1/\t σ H1 fun xs H2=>r x xs H2 Q
variable {o e:Expr} {es:List Expr} {to:TE} {t:TA} {name:Str} {apos cpos:Pos} {T id:String} {r:V->List V->Hp->VK->Prop}
theorem B6 (pa:PlainAttrs T) (slot:Slot T name id) (hty:typeOf (.builtin id)=pure (.type "method_descriptor")) (hm:Fl X id r) (ho:PE X o to) (ha:PA X (e :: es) t)
  (hbase:attributeBase o name X.env (eval o X.env)=eval o X.env:=by rfl)
  (hfew:((backTo cpos (starEach (e :: es) X.env)).all (fun x=>!x.1) && (backToKw cpos (keywordEach [] X.env)).all (fun x=>x.1.isSome)
   && decide ((e :: es).length+([]:List Keyword).length+(if ([]:List Keyword).isEmpty then 0 else 1) < 30))=true:=by rfl)
  (hline:(apos.endLine == cpos.line)=true:=by rfl) (hs:starEach (e :: es) X.env=(false,eval e X.env) :: starEach es X.env:=by rfl) (hplain:(backTo cpos (starEach es X.env)).any (·.1)=false:=by rfl) :
  PE X (.Call (.Attribute o name apos) (e :: es) [] cpos) (EJ X.K T r to t):=by
 intro pins s σ H Q I h
 refine wpAny_Call_method_late hbase hfew hline rfl (cb (ho pins s σ H _ I h) fun v s1 ⟨x,H1,I1,r1,ty,q1⟩=>?_)
 obtain⟨h1,h2⟩:=yM I1 r1 ty
 refine⟨T,id,pa,slot,hty,h1,h2,?_⟩
 have hA:=ha cpos pins s1 σ H1 _ I1 q1
 rw [hs] at hA ⊢
 refine Calls.callWith_builtin (by show (false || (backTo cpos (starEach es X.env)).any (·.1))=false;rw [hplain] <;> rfl) (Calls.evalArgs_plain ?_)
 exact cb hA fun us s2 ⟨vs,H2,I2,r2,q2⟩=>hm pins s2 σ H2 x vs v us Q I2 r1 r2 q2
end
end L2
namespace L2
open PySem PySem.Spec PyProof.Rows
def Fm (X:Cx) (id:String) (r:V->List V->Hp->VK->Prop):Prop:=
 ∀ (pins:List (Addr×Obj)) (s:Shared) (σ:St) (H:Hp) (x:V) (xs:List V) (v:Value) (us:List Value) (Q:VK),Inv X pins σ H s->aY x v->bg xs us->r x xs H Q→
  wpAny (model X.prog X.w) X.A (call (.builtin id) (v :: us)) (EP X pins σ Q) X.xe s
theorem bg.one:∀ {x:V} {us:List Value},bg [x] us->∃ u,us=[u]/\aY x u
 | _,_,.cons r .nil=>⟨_,rfl,r⟩
section
variable {X:Cx} {pins:List (Addr×Obj)} {σ:St} {H:Hp} {s:Shared} {l b:Addr} {xs ys zs:List V}
theorem Inv.lset {its its':List Value} {n:Nat} {f:Array Value->Array Value} {t':Nat} (I:Inv X pins σ H s) (hH:H l=some (.lst xs))
  (e:s.heap.get? l=some { cls:=.type "list", data:=.seq its.toArray n }) (hf:f its.toArray=its'.toArray) (hv:bg ys its') (hz:ys.length≤sizeLine) :
  Inv X pins σ (ax H l (.lst ys)) { s with heap:=s.heap.update l (Obj.mapSeq f),toks:=t' }:=by
 have q:=PySem.IsL.update e f
 rw [hf] at q
 refine I.write (x:=l) (e:=l) (by rw [hH];exact trivial) (.inl rfl) (fun b' u hb hu=>(Heap.get?_update_other s.heap (Obj.mapSeq f) (Ne.symm hb)).trans hu) ⟨_,q⟩ ?_
 exact⟨hz,its',_,hv,q⟩
theorem Inv.lnew {its:List Value} {t':Nat} (I:Inv X pins σ H s) (hv:bg ys its) (hz:ys.length≤sizeLine) :
  Inv X pins σ (ax H s.heap.objs.size (.lst ys)) { s with heap:=s.heap.push { cls:=.type "list", data:=.seq its.toArray },toks:=t' }:=
 I.laid (fun _ _ q=>Heap.get?_push_of_some _ q) (Nat.le_refl _) ⟨hz,its,0,hv,Heap.get?_push_size _ rfl⟩
theorem Inv.fresh (I:Inv X pins σ H s):H s.heap.objs.size=none:=I.hok.fresh (Nat.le_refl _)
theorem Inv.lstM (I:Inv X pins σ H s) (hH:H l=some (.lst xs)):xs.length≤sizeLine/\∃ (its:List Value) (n:Nat),bg xs its/\xs.length=its.length/\s.heap.get? l=some { cls:=.type "list", data:=.seq its.toArray n }:=by
 obtain⟨z,its,n,r,e⟩:=I.hok l _ hH
 exact⟨z,its,n,r,r.length,e⟩
end
section
variable {X:Cx}
def wB:V->List V->Hp->VK->Prop:=fun x vs H Q=>∃ l xs y,x=.ref l/\vs=[y]/\H l=some (.lst xs)/\xs.length < sizeLine/\Q .non (ax H l (.lst (xs++[y])))
theorem dI:Fm X "list.append" wB:=by
 intro pins s σ H x vs v us Q I rx rv h
 obtain⟨l,xs,y,rfl,rfl,hH,hz,q⟩:=h
 cases rx
 obtain⟨u,rfl,ru⟩:=rv.one
 obtain⟨z,its,n,r,hl,e⟩:=I.lstM hH
 refine call_meets F.slot_list_append ⟨_,e,rfl⟩ F.entry_list_append (F.args_list_append_2 _ _) (PySem.list_append l its.toArray n u (by rw [List.size_toArray];omega)) ⟨e,?_⟩
 refine⟨.non,_,I.lset (its':=its++[u]) hH e (by simp) (r.append (.cons ru .nil)) ?_,rfl,q⟩
 rw [List.length_append,List.length_singleton]
 omega
def C9:V->List V->Hp->VK->Prop:=fun x vs H Q=>∃ l b xs zs,x=.ref l/\vs=[.ref b]/\H l=some (.lst xs)/\H b=some (.lst zs)/\xs.length+zs.length≤sizeLine/\Q .non (ax H l (.lst (xs++zs)))
def FR:V->List V->Hp->VK->Prop:=fun x vs H Q=>∃ l xs y,x=.ref l/\vs=[]/\H l=some (.lst xs)/\xs[xs.length - 1]?=some y/\Q y (ax H l (.lst xs.dropLast))
def DH:V->List V->Hp->VK->Prop:=fun x vs H Q=>∃ l xs i k y,x=.ref l/\vs=[.int i]/\H l=some (.lst xs)/\-(2 ^ 63)≤i/\i < 2 ^ 63/\seqIndex? i xs.length=some k/\xs[k]?=some y/\Q y (ax H l (.lst (xs.eraseIdx k)))
def BV:V->List V->Hp->VK->Prop:=fun x vs H Q=>∃ l xs,x=.ref l/\vs=[]/\H l=some (.lst xs)/\Q .non (ax H l (.lst xs.reverse))
def DM:V->List V->Hp->VK->Prop:=fun x vs H Q=>∃ l xs,x=.ref l/\vs=[]/\H l=some (.lst xs)/\Q .non (ax H l (.lst []))
def DN:R2:=fun x y H Q=>∃ l b xs zs,x=.ref l/\y=.ref b/\H l=some (.lst xs)/\H b=some (.lst zs)/\xs.length+zs.length≤sizeLine/\∀ p,H p=none->Q (.ref p) (ax H p (.lst (xs++zs)))
theorem ju:fP X (binaryOp .Add) DN:=by
 intro pins s σ H x y v u Q I rx ry h
 obtain⟨l,b,xs,zs,rfl,rfl,hH,hB,hz,q⟩:=h
 cases rx
 cases ry
 obtain⟨z,its,n,r,hl,e⟩:=I.lstM hH
 obtain⟨z2,its2,n2,r2,hl2,e2⟩:=I.lstM hB
 refine PySem.P.add_list e e2 ?_ (by rw [List.size_toArray,List.size_toArray];omega)
 have ea:its.toArray++its2.toArray=(its++its2).toArray:=by simp
 rw [ea]
 exact⟨.ref _,_,I.lnew (t':=s.toks) (r.append r2) (by rw [List.length_append];omega),rfl,q _ I.fresh⟩
def FQ:R2:=fun x y H Q=>∃ l k xs,x=.ref l/\y=.int k/\H l=some (.lst xs)/\-(2 ^ 63)≤k/\k < 2 ^ 63/\xs.length * k.toNat≤sizeLine∧
 ∀ p,H p=none->Q (.ref p) (ax H p (.lst (List.replicate k.toNat xs).flatten))
end
section
variable {prog:Program} {w:World} {A:Around} {E:Value->Shared->Prop} {s:Shared}
end
section
variable {X:Cx}
end
end L2
namespace Att
open PySem PySem.W PySem.Calls PyProof.Rows
theorem iR {P:Params} {h:Heap}:∀ (ns:List Int) (vs:List Value),WellAll P h vs (ns.map WData.int)->IntsAre vs ns:=by
 intro ns
 induction ns with
 | nil=>
  intro vs w
  rw [List.map_nil] at w
  cases w
  exact .nil
 | cons n ns ih=>
  intro vs w
  rw [List.map_cons] at w
  cases w with
  | cons a b=>
   cases a
   exact .cons _ _ (ih _ b)
theorem qi {l:OpenLaw} {n:Nat} (hn:l.most=some n) {P:Params} {h:Heap} {args:List WData} {vals:List Value}
  (hpre:l.row.toRowW.claim.pre args=true) (hwl:WellAll P h vals args) :
  ∃ a vs ns,vals=[Value.ref a]/\args=[WData.list (ns.map WData.int)]/\h.get? a=some { cls:=.type "list", data:=.seq vs.toArray }/\IntsAre vs ns/\ns.length≤n:=by
 have hsh:WShape.hasAll [] args [.list .int]=true:=(pre_splitW hpre).1
 have hc:l.pre.holds [] { args:=args }=true:=(pre_splitW hpre).2
 obtain⟨d,r,rfl,h1,h2⟩:=hasAllW_cons hsh
 obtain rfl:=hasAllW_nil h2
 obtain⟨xs,rfl,h3⟩:=hasW_list h1
 obtain⟨ns,rfl⟩:=items_int h3
 have hlen:ns.length≤n:=by
  unfold OpenLaw.pre at hc
  have h4:(WTm.not (.lt (.lit (.int (n:Int))) (.len (.arg 0)))).holds [] { args:=[.list (ns.map .int)] }=true:=by
   have h4:=(holds_andW hc).1
   rw [hn] at h4
   exact h4
  have h5:=condW_of h4 (w_not (w_lt w_lit (w_len_list (w_arg rfl))))
  rw [List.length_map] at h5
  refine Nat.le_of_not_lt fun q=>?_
  have q':(n:Int) < ((ns.length:Nat):Int):=by omega
  first
   | (rw [decide_eq_true q'] at h5;exact absurd h5 (by decide))
   | (simp at h5;omega)
 cases hwl with
 | cons w1 w2=>
  cases w2
  cases w1 with
  | list ho hall=>exact⟨_,_,ns,rfl,rfl,ho,iR ns _ hall,hlen⟩
theorem qt (l:OpenLaw) (args:List WData):l.row.toRowW.claim.post args (.bool true) args=true:=
 postW_of (r:=l.row.toRowW) (X:=(true == true))
  (show WShape.has [] (.bool true) .bool=true by first | rfl | decide | simp [WShape.has,WShape.arms,WShape.armsAll])
  (show (WTm.eq .res (.lit (.bool true))).value [] { args:=args,res:=some (.bool true),after:=args }=some (.bool (true == true)) from w_eq_bool (w_res rfl) w_lit) rfl
theorem attach_call {l:OpenLaw} {n:Nat} {q:Program} {loose:List Str} {XP:(Str->Option Value)->Heap->Prop} {YP:World->Heap->Prop} {d:DefRec}
  (hn:l.most=some n) (hdf:d.params.defaults=[])
  (call:∀ (w:World) (s₀ s₁:Shared) (mg mb:Str->Option Value) (fa:Addr) (o:Obj) (pm cd doc:Value) (a:Addr) (vs:List Value) (ns:List Int),
   Ground q loose [] XP w s₀ mg mb s₁.heap->YP w s₁.heap→
   s₁.heap.get? fa=some o->o.data=.func (docDef d.name d.params d.body d.scope pm cd doc)->s₁.heap.CodeRec cd d.name->mg d.name=some (.ref fa)→
   s₁.heap.get? a=some { cls:=.type "list", data:=.seq vs.toArray }->IntsAre vs ns->ns.length≤n->s₁.gens=#[]→
   codeAny (model l.prog w) callerA (.call (.ref fa) ⟨[.ref a],[]⟩) (fun r s'=>r=.ok (.ret (.bool true))/\OldK s₁.heap s'.heap/\s'.os=s₁.os/\AllBare s'.gens) s₁) :
  WalkO q loose XP YP l.row.toRowW d [] (fun f vs=>PySem.call f vs):=by
 intro w s₀ s₁ mg mb G Y fa o pm cd doc dV kV ho hd hcd hD hmg hg args vals as hpre hlay hrd hwl hlo
 obtain rfl:dV=.none:=Dflts.none hD hdf
 obtain rfl:kV=.none:=Dflts.noKw hD
 obtain⟨a,vs,ns,rfl,rfl,hobj,hints,hlen⟩:=qi hn hpre hwl
 refine enter_call (codeAny_mono (call w s₀ s₁ mg mb fa o pm cd doc a vs ns G Y ho (fd_plain hd) hcd hmg hobj hints hlen hg) fun r s' hq=>?_)
 obtain⟨rfl,h2,h3,h4⟩:=hq
 exact⟨.inl ⟨.bool true,.bool true,[],rfl,fun _=>rfl,.bool true,qt l _,fun _=>⟨List.Pairwise.nil,fun _ hm=>(nomatch hm)⟩⟩,h2,h3,h4⟩
section
variable {prog:Program} {w:World} {A:Around} {E:Value->Shared->Prop} {s:Shared} {K:Frag}
def noObjs (h:Heap):Heap:={ h with objs:=#[] }
theorem noObjs_get (h:Heap) (b:Addr):(noObjs h).get? b=none:=by
 cases e:(noObjs h).get? b with
 | none=>rfl
 | some o=>exact absurd (Heap.lt_size e) (Nat.not_lt_zero _)
def DP (h:Heap) (L d:Addr):List (Addr×Obj):=(List.range h.objs.size).filterMap fun a=>if a=L∨a=d then none else (h.get? a).map fun o=>(a,o)
theorem fr_all {h:Heap} {L:Addr} {m:Str->Option Value} (n:h.Ns L m):Fr (noObjs h) L h m:=
 ⟨n,fun b o e=>(by rw [noObjs_get] at e;cases e),Nat.zero_le _⟩
end
end Att
namespace L2
open PySem PySem.Spec PyProof.Rows
theorem jY:∀ {vs:List Value} {ns:List Int},IntsAre vs ns->bg (ns.map V.int) vs
 | _,_,.nil=>.nil
 | _,_,.cons n t h=>.cons ⟨t,rfl⟩ (jY h)
def Gh (H:Hp):Prop:=∀ b,H b=none∨∃ o xs,H b=some (.frz o (.lst xs))
end L2
namespace L2
open PySem PySem.Spec PyProof.Rows
abbrev GS {K:PySem.W.Frag} {h:Heap} (_:K.In h):PySem.W.Frag:=K
end L2
namespace L2
open PySem PySem.Spec PyProof.Rows
def Dd (s:Stmt) (j:Nat):Stmt:=match s with
 | .ClassDef _ _ _ body _ _ _ _ _ _ _=>body.getD j (.Pass ⟨0,0,0,0⟩)
 | _=>.Pass ⟨0,0,0,0⟩
def fg (s:Stmt):Arguments:=match s with
 | .FunctionDef _ a _ _ _ _ _ _ _ _=>a
 | _=>{ posonlyargs:=[],args:=[],vararg:=none,kwonlyargs:=[],kw_defaults:=[],kwarg:=none,defaults:=[] }
def dN (s:Stmt):List Stmt:=match s with
 | .FunctionDef _ _ b _ _ _ _ _ _ _=>b
 | _=>[]
def ay (s:Stmt):Scope:=match s with
 | .FunctionDef _ _ _ _ _ _ sc _ _ _=>sc
 | _=>{ kind:=.function,names:=[],isGenerator:=false,isCoroutine:=false }
abbrev eF:ni:=fun _ _ _ _ _ _=>False
abbrev E0:XK:=fun _ _ _=>False
theorem eN {X:Cx}:lJ eF X E0:=fun _ _ _ _ _ _ _ h=>h.elim
structure Fun (K:PySem.W.Frag) (x qual:Str) (st:Stmt) (f:Addr) (fd:FuncData):Prop where
 ex:∃ (oc:Value) (od:Option Addr) (kV doc pm:Value) (an:Option Addr) (cdv ct:Value) (osl:Array (Option Value)),
  fd=PySem.W.fnOf x qual (fg st) (dN st) (ay st) .none kV doc pm an cdv ct/\K.lookup f=some ⟨oc,od,.func fd,osl⟩/\PySem.W.codeIn K cdv qual=true
 kp:PySem.W.keepIn K (.ref f)=true
section
variable {P:Program} {w:World} {K:PySem.W.Frag} {mg:Str->Option Value} {base:Heap}
theorem Fun.ok {x qual:Str} {st:Stmt} {f:Addr} {fd:FuncData} {N ps:List Str} {k:Nat} {sp:Sp} (F:Fun K x qual st f fd) (S:aL N ps (ay st)) (len:∀ vs H Q E,sp vs H Q E->vs.length=ps.length)
  (hbody:∀ (cdv:Value) (A:Around) (outer:List Env) (s:Shared) (H:Hp) (vs:List V) (Q:VK) (E:XK),dF k (A.deeper (envOfC qual (ay st) s.heap.objs.size f cdv))->sp vs H Q E→
   ∃ t,nh (bX eF P w K mg base N qual (ay st) f cdv A outer s H E).nox (dN st) t/\t { nx:=fun _ H'=>Q .non H',rt:=Q } (gY N vs) H):bO P w K mg base eF (k+1) f fd ps sp:=by
 obtain⟨oc,od,kV,doc,pm,an,cdv,ct,osl,rfl,lk,hcd⟩:=F.ex
 refine yu lk hcd S len fun A outer s H vs Q E hr hsp=>?_
 obtain⟨t,h,q⟩:=hbody cdv A outer s H vs Q E hr hsp
 exact⟨t,h.nox,q⟩
theorem Fun.binds {x qual:Str} {st:Stmt} {f:Addr} {fd:FuncData} {ps:List Str} (F:Fun K x qual st f fd)
  (h:∀ (kV doc pm:Value) (an:Option Addr) (cdv ct:Value) (us:List Value),us.length=ps.length->bindArgs (PySem.W.fnOf x qual (fg st) (dN st) (ay st) .none kV doc pm an cdv ct) ⟨us,[]⟩=pure (ps.zip us)):ba K fd ps []:=by
 obtain⟨oc,od,kV,doc,pm,an,cdv,ct,osl,rfl,lk,hcd⟩:=F.ex
 exact .all (h kV doc pm an cdv ct)
theorem AO {x qual:Str} {st:Stmt} {f:Addr} {oc:Value} {od an:Option Addr} {osl:Array (Option Value)} {kV doc pm cdv ct:Value} (l:K.lookup f=some ⟨oc,od,.func (PySem.W.fnOf x qual (fg st) (dN st) (ay st) .none kV doc pm an cdv ct),osl⟩)
  (c:PySem.W.codeIn K cdv qual=true) (k:PySem.W.keepIn K (.ref f)=true):Fun K x qual st f (PySem.W.fnOf x qual (fg st) (dN st) (ay st) .none kV doc pm an cdv ct):=⟨⟨oc,od,kV,doc,pm,an,cdv,ct,osl,rfl,l,c⟩,k⟩
end
theorem ym {A:Around} {k:Nat} (hr:dF k A):A.units+1 < cLine:=Nat.lt_of_le_of_lt (Nat.add_le_add_left (by decide:1≤64) _) hr.units
theorem aZ {n:Nat} (h:n≤1000):n < sizeLine:=Nat.lt_of_le_of_lt h (by decide)
section
variable {X:Cx}
theorem pv (i:Nat) {x:Str} {pos:Pos} (hN:X.N[i]?=some x:=by rfl) (hv:CB X.env.scope x:=by first | exact Or.inl rfl | exact Or.inr (Or.inl rfl) | exact Or.inr (Or.inr rfl)) (hd:(x == ("__debug__" : Str))=false:=by decide)
  (hcd:(x == ("__classdict__" : Str))=false:=by decide):PE X (.Name x pos) (yN i):=Aa hN hv hd hcd
end
theorem eZ {A B:Prop} (h:B):if false=true then A else B:=by
 rw [if_neg Bool.false_ne_true]
 exact h
theorem gC {A B:Prop} (h:A):if true=true then A else B:=by
 rw [if_pos rfl]
 exact h
theorem qH {c A B:Prop} [Decidable c] (h1:c->A) (h2:¬ c->B):if c then A else B:=by
 by_cases h:c
 ·rw [if_pos h]
  exact h1 h
 ·rw [if_neg h]
  exact h2 h
theorem jD {c A B:Prop} [Decidable c] (hc:c) (h:B):if (!decide c)=true then A else B:=by
 rw [decide_eq_true hc]
 exact eZ h
def aO (H H':Hp):Prop:=∀ b o,H b=some o->H' b=some o
theorem aO.refl (H:Hp):aO H H:=fun _ _ h=>h
theorem aO.trans {H H1 H2:Hp} (a:aO H H1) (b:aO H1 H2):aO H H2:=fun c o h=>b c o (a c o h)
theorem aO.seq {K:PySem.W.Frag} {H H':Hp} {a:Addr} {xs:List V} (e:aO H H') (h:aW K H a xs):aW K H' a xs:=by
 rcases h with (h | ⟨o,h⟩) | h
 ·exact .inl (.inl (e _ _ h))
 ·exact .inl (.inr ⟨o,e _ _ h⟩)
 ·exact .inr h
end L2
set_option maxHeartbeats 4000000
namespace B
open PySem L2 PyProof.Rows
theorem uW {c A B:Prop} [Decidable c] (hc:¬ c) (h:A):if (!decide c)=true then A else B:=by
 have e:(!decide c)=true:=by rw [decide_eq_false hc];rfl
 rw [if_pos e];exact h
theorem dy {c A B:Prop} [Decidable c] (hc:c) (h:A):if decide c=true then A else B:=by
 rw [if_pos (decide_eq_true hc)];exact h
theorem bY {c A B:Prop} [Decidable c] (hc:¬ c) (h:B):if decide c=true then A else B:=by
 have e:¬ decide c=true:=by rw [decide_eq_false hc];intro z;cases z
 rw [if_neg e];exact h
theorem Cl {b:Bool} {A B:Prop} (hb:b=true) (h:A):if b=true then A else B:=by rw [if_pos hb];exact h
theorem Cm {b:Bool} {A B:Prop} (hb:b=false) (h:B):if b=true then A else B:=by
 rw [if_neg (by rw [hb];intro z;cases z)];exact h
def gc (A B:String):Option Bool:=if (Value.type A == Value.type B)=true then some true else if PySem.W.kitMeta B=true then (fastBuiltinMro A).map (·.contains (.type B)) else none
theorem nZ {K:PySem.W.Frag} {A B:String} {b:Bool} (h:gc A B=some b):PySem.W.kitOne K (.type A) (.type B)=some b:=h
inductive Ty (H:Hp):V->String->Prop where
 | non:Ty H .non "NoneType"
 | bl (b:Bool):Ty H (.bl b) "bool"
 | int (i:Int):Ty H (.int i) "int"
 | str (x:Str):Ty H (.str x) "str"
 | lst {a:Addr} {xs:List V} (e:H a=some (.lst xs)):Ty H (.ref a) "list"
 | tup {a:Addr} {xs:List V} (e:H a=some (.tup xs)):Ty H (.ref a) "tuple"
theorem Ty.of {H:Hp} {v:V} {n:String} (K:PySem.W.Frag) (h:Ty H v n):iI K H v (.type n):=by
 cases h with
 | non=>exact .non
 | bl b=>exact .bl b
 | int i=>exact .int i
 | str x=>exact .str x
 | lst e=>exact .lst e
 | tup e=>exact .tup e
def DJ:List V->Hp->VK->Prop:=fun xs H Q=>∃ x n m b,xs=[x,.ty n]/\Ty H x m/\gc m n=some b/\Q (.bl b) H
theorem il {X:Cx}:fj X (.builtin "isinstance") DJ:=by
 intro pins s σ H xs us Q I r h
 obtain⟨x,n,m,b,rfl,ty,e,q⟩:=h
 obtain⟨u,u2,rfl,rx,ry⟩:=lN r
 obtain rfl:u2=Value.type n:=ry
 exact qI I rx (ty.of X.K) (nZ e) fun tk=>⟨.bl b,H,I.tok tk,rfl,q⟩
def Do:V->Bool
 | .int _=>true
 | _=>false
def Fw (n:String):Bool:=n == "tuple"
structure bo (t:Addr) (H H':Hp):Prop where
 keep:∀ b o,b≠t->H b=some o->H' b=some o
 tp:∃ xs,H t=some (.lst xs)
 tp':∃ xs,H' t=some (.lst xs)
theorem bo.trans {t:Addr} {H H1 H2:Hp} (a:bo t H H1) (b:bo t H1 H2):bo t H H2:=⟨fun c o n e=>b.keep c o n (a.keep c o n e),a.tp,b.tp'⟩
theorem bo.up {t:Addr} {H:Hp} {xs ys:List V} (h:H t=some (.lst xs)):bo t H (ax H t (.lst ys)):=⟨fun c o n e=>by rw [aD n];exact e,⟨_,h⟩,⟨_,ah⟩⟩
theorem aj {H:Hp} {p:Addr} (h:H p=none) (o:HO):aO H (ax H p o):=fun b u q=>by rw [aD (aB q h)];exact q
theorem bo.same {t:Addr} {H H':Hp} (s:aO H H') (h:∃ xs,H t=some (.lst xs)):bo t H H':=⟨fun c o _ e=>s c o e,h,let ⟨xs,e⟩:=h;⟨xs,s _ _ e⟩⟩
theorem bo.new {t p:Addr} {H:Hp} (h:∃ xs,H t=some (.lst xs)) (n:H p=none) (o:HO):bo t H (ax H p o):=bo.same (aj n o) h
def Th (H:Hp) (v:V):Prop:=∃ n,Ty H v n/\∀ a xs,v=.ref a->H a=some (.tup xs)->∀ x∈xs,∃ m,Ty H x m
theorem DO {xs:List V} {r:Int} (h0:0≤r) (h1:r < (xs.length:Int)):∃ v,jS xs r=some v/\v∈xs:=by
 have hk:r.toNat < xs.length:=by omega
 have ek:r=((r.toNat:Nat):Int):=by omega
 have q:jS xs ((r.toNat:Nat):Int)=some xs[r.toNat]:=bM (List.getElem?_eq_getElem hk)
 rw [← ek] at q
 exact⟨_,q,List.getElem_mem hk⟩
theorem B2 {ns:List Int} {r:Int} (h0:0≤r) (h1:r < (ns.length:Int)):∃ z:Int,jS (ns.map V.int) r=some (.int z):=by
 obtain⟨v,h,hv⟩:=DO (xs:=ns.map V.int) h0 (by rw [List.length_map];exact h1)
 obtain⟨z,_,rfl⟩:=List.mem_map.mp hv
 exact⟨z,h⟩
structure A8 (H:Hp) (t s:Addr):Prop where
 ex:∃ (ns:List Int) (p q r:Int),H t=some (.lst [.ref s,.int p,.int q,.int r])/\H s=some (.lst (ns.map V.int))/\s≠t/\ns.length≤63/\0≤p/\0≤q/\0≤r
def C1 (K:PySem.W.Frag):Sp:=fun vs H Q _=>∃ (a:Addr) (ns:List Int),vs=[.ref a]/\aW K H a (ns.map V.int)/\∀ (t s:Addr) (H':Hp),aO H H'->H t=none->H s=none->A8 H' t s->Q (.ref t) H'
def C3:Sp:=fun vs H Q _=>∃ (t s:Addr) (m:Int),vs=[.ref t,.int m]/\A8 H t s/\0 < m/\m < 1073741824/\∀ (r:Int) (xs:List V),0≤r->r < m->A8 (ax H t (.lst xs)) t s->Q (.int r) (ax H t (.lst xs))
def C2 (K:PySem.W.Frag):Sp:=fun vs H Q _=>∃ (a:Addr) (ns:List Int),vs=[.ref a]/\aW K H a (ns.map V.int)/\ns.length≤63/\∀ H',Q (.bl true) H'
theorem mP {a b:Int} (ha:0≤a) (hb:0 < b):Int.gcd b (a % b)=Int.gcd a b:=by
 obtain⟨n,rfl⟩:=Int.eq_ofNat_of_zero_le ha
 obtain⟨m,rfl⟩:=Int.eq_ofNat_of_zero_le (Int.le_of_lt hb)
 rw [← Int.natCast_emod]
 show Nat.gcd m (n % m)=Nat.gcd n m
 rw [Nat.gcd_comm m,← Nat.gcd_rec,Nat.gcd_comm]
theorem oo (i:Int):(if i < 0 then -i else i)=(i.natAbs:Int):=by split <;> omega
end B
namespace B
open PySem PySem.Spec L2 PyProof.Rows
mutual
inductive cI (K:PySem.W.Frag) (H:Hp):V->PyData->Prop where
 | non:cI K H .non .none
 | bl (b:Bool):cI K H (.bl b) (.bool b)
 | int (i:Int):cI K H (.int i) (.int i)
 | str (x:Str):cI K H (.str x) (.str x)
 | lst {a:Addr} {xs:List V} {ds:List PyData} (e:aW K H a xs) (h:bv K H xs ds):cI K H (.ref a) (.list ds)
 | tup {a:Addr} {xs:List V} {ds:List PyData} (e:bh K H a xs) (h:bv K H xs ds):cI K H (.ref a) (.tuple ds)
inductive bv (K:PySem.W.Frag) (H:Hp):List V->List PyData->Prop where
 | nil:bv K H [] []
 | cons {x:V} {d:PyData} {xs:List V} {ds:List PyData} (h:cI K H x d) (t:bv K H xs ds):bv K H (x :: xs) (d :: ds)
end
mutual
theorem cI.reads {X:Cx} {pins:List (Addr×Obj)} {σ:L2.St} {H:Hp} {s:Shared} (I:Inv X pins σ H s):∀ {v:V} {d:PyData} {u:Value},cI X.K H v d->aY v u->∃ as,Reads s.heap u d as
 | _,_,u,.non,r=>by cases (show u=Value.none from r);exact⟨_,.none⟩
 | _,_,u,.bl b,r=>by cases (show u=Value.bool b from r);exact⟨_,.bool b⟩
 | _,_,u,.int i,r=>by obtain⟨t,q⟩:=(show ∃ t,u=Value.int i t from r);cases q;exact⟨_,.int i t⟩
 | _,_,u,.str x,r=>by obtain⟨t,q⟩:=(show ∃ t,u=Value.str x t from r);cases q;exact⟨_,.str x t⟩
 | _,_,u,.lst (a:=a) e h,r=>by
  cases (show u=Value.ref a from r)
  obtain⟨its,rv,⟨o,n,ho,hc,_,hd⟩,_⟩:=I.list e
  obtain⟨as,q⟩:=bv.reads I h rv
  exact⟨_,.list ho hc hd (by simpa using q)⟩
 | _,_,u,.tup (a:=a) e h,r=>by
  cases (show u=Value.ref a from r)
  obtain⟨its,rv,⟨o,ho,hc,n,hd⟩,_⟩:=I.tuple e
  obtain⟨as,q⟩:=bv.reads I h rv
  exact⟨_,.tuple ho hc hd (by simpa using q)⟩
theorem bv.reads {X:Cx} {pins:List (Addr×Obj)} {σ:L2.St} {H:Hp} {s:Shared} (I:Inv X pins σ H s):∀ {vs:List V} {ds:List PyData} {us:List Value},bv X.K H vs ds->bg vs us->∃ as,ReadsAll s.heap us ds as
 | _,_,_,.nil,.nil=>⟨_,.nil⟩
 | _,_,_,.cons h t,.cons r q=>
  let ⟨_,a⟩:=cI.reads I h r
  let ⟨_,b⟩:=bv.reads I t q
  ⟨_,.cons a b⟩
end
structure m7 (d:PyData):Prop where
 sh:d.showable=true
 nd:d.hasDict=false
 sz:d.shown.length≤sizeLine
 dp:d.depth≤16
def BW (K:PySem.W.Frag):List V->Hp->VK->Prop:=fun xs H Q=>∃ v d,xs=[v]/\cI K H v d/\m7 d/\Q (.str d.shown) H
theorem kg {X:Cx} {k:Nat} (hr:dF k X.A):fj X (.builtin "repr") (BW X.K):=by
 intro pins s σ H xs us Q I r h
 obtain⟨v,d,rfl,dp,sh,q⟩:=h
 obtain⟨u,rfl,ru⟩:=gQ r
 cases dp with
 | non=>cases (show u=Value.none from ru);exact PySem.P.repr_of_none ⟨.str "None", H,I.tok _,⟨_,rfl⟩,q⟩
 | bl b=>cases (show u=Value.bool b from ru);exact PySem.P.repr_of_bool ⟨.str _,H,I.tok _,⟨_,rfl⟩,q⟩
 | int i=>
  obtain⟨t,e⟩:=(show ∃ t,u=Value.int i t from ru)
  cases e
  exact PySem.P.repr_of_int (of_decide_eq_true sh.sh) ⟨.str _,H,I.tok _,⟨_,rfl⟩,q⟩
 | str x=>
  obtain⟨t,e⟩:=(show ∃ t,u=Value.str x t from ru)
  cases e
  exact PySem.P.repr_of_str ⟨.str _,H,I.tok _,⟨_,rfl⟩,q⟩ sh.sz
 | @lst a ys ds e h=>
  cases (show u=Value.ref a from ru)
  obtain⟨as,rd⟩:=cI.reads I (.lst e h) (show aY (.ref a) (.ref a) from rfl)
  exact repr_of_reads' rd sh.sh (fun z=>by rw [sh.nd] at z;cases z) hr.gd (by have:=hr.units;have:=sh.dp;omega) (fun _ _ z=>z) (fun h' u tk hk=>⟨.str _,H,I.kept hk,⟨_,rfl⟩,q⟩) sh.sz
 | @tup a ys ds e h=>
  cases (show u=Value.ref a from ru)
  obtain⟨as,rd⟩:=cI.reads I (.tup e h) (show aY (.ref a) (.ref a) from rfl)
  exact repr_of_reads' rd sh.sh (fun z=>by rw [sh.nd] at z;cases z) hr.gd (by have:=hr.units;have:=sh.dp;omega) (fun _ _ z=>z) (fun h' u tk hk=>⟨.str _,H,I.kept hk,⟨_,rfl⟩,q⟩) sh.sz
end B
namespace B
open PySem PySem.Spec L2 PyProof.Rows
def i7 (X:Cx) (N':List Str) (scope:Scope) (cl:List (Str×Addr)) (C:Addr) (fp:List Addr) (pins:List (Addr×Obj)) (s:Shared) (H:Hp):Cx:=
 { X with N:=N',s₀:=s,H₀:=H,env:=compEnvC scope cl C X.env,outer:=X.stack,stack:=X.stack,ex:=fp,fn:=fun _=>false,pn:=X.pn++pins,xe:=fun _ _=>False }
def dh (X:Cx) (scope:Scope) (cl:List (Str×Addr)):List Str->List (Option Nat)->Prop
 | [],[]=>True
 | _ :: N,none :: r=>dh X scope cl N r
 | x :: N,some j :: r=>X.N[j]?=some x/\X.env.kindOf x=some .cell/\(compEnvC scope cl 0 X.env).kindOf x=some .cell/\cl.lookup x=X.env.cells.lookup x/\dh X scope cl N r
 | _,_=>False
def cn (src:List (Option Nat)) (σ:L2.St):L2.St:=src.map fun o=>o.bind fun j=>(σ[j]?).getD none
theorem dh.len {X:Cx} {scope:Scope} {cl:List (Str×Addr)}:∀ {N:List Str} {src:List (Option Nat)},dh X scope cl N src->N.length=src.length
 | [],[],_=>rfl
 | _ :: _,none :: _,h=>congrArg (·+1) (dh.len (X:=X) (scope:=scope) (cl:=cl) h)
 | _ :: _,some _ :: _,h=>congrArg (·+1) (dh.len (X:=X) (scope:=scope) (cl:=cl) h.2.2.2.2)
theorem dh.at {X:Cx} {scope:Scope} {cl:List (Str×Addr)} {σ:L2.St}:∀ {N:List Str} {src:List (Option Nat)} {i:Nat} {x:Str} {v:V},dh X scope cl N src->N[i]?=some x->(cn src σ)[i]?=some (some v)→
  ∃ j:Nat,X.N[j]?=some x/\σ[j]?=some (some v)/\X.env.kindOf x=some .cell/\(compEnvC scope cl 0 X.env).kindOf x=some .cell/\cl.lookup x=X.env.cells.lookup x
 | y :: N,none :: r,0,x,v,h,e,q=>by cases q
 | y :: N,none :: r,i+1,x,v,h,e,q=>dh.at (N:=N) (src:=r) (i:=i) h e q
 | y :: N,some j :: r,0,x,v,h,e,q=>by
  cases e
  refine⟨j,h.1,?_,h.2.1,h.2.2.1,h.2.2.2.1⟩
  have q':some ((σ[j]?).getD none)=some (some v):=q
  injection q' with q'
  cases z:σ[j]? with
  | none=>rw [z] at q';cases q'
  | some o=>rw [z] at q';exact congrArg some q'
 | y :: N,some j :: r,i+1,x,v,h,e,q=>dh.at (N:=N) (src:=r) (i:=i) h.2.2.2.2 e q
def fi (X:Cx) (scope:Scope) (cl:List (Str×Addr)):Prop:=
 (∀ x,((compEnvC scope cl 0 X.env).kindOf x=some .cell∨(compEnvC scope cl 0 X.env).kindOf x=some .free)->∃ c,cl.lookup x=some c)/\∀ x c,cl.lookup x=some c->X.env.cells.lookup x=some c
def ir (X:Cx):List (Str×Addr)->Prop
 | []=>True
 | y :: r=>X.env.cells.lookup y.1=some y.2/\ir X r
theorem ir.mem {X:Cx}:∀ {cl:List (Str×Addr)},ir X cl->∀ y∈cl,X.env.cells.lookup y.1=some y.2
 | [],_,y,h=>by cases h
 | z :: r,k,y,h=>by
  rcases List.mem_cons.mp h with e | h
  ·rw [e];exact k.1
  ·exact ir.mem k.2 y h
theorem mem_of_lookup {α:Type} {x:Str} {v:α}:∀ {l:List (Str×α)},l.lookup x=some v->(x,v)∈l
 | [],h=>by cases h
 | (y,w) :: r,h=>by
  rw [List.lookup_cons] at h
  cases e:x == y with
  | true=>
   rw [e] at h
   have e':x=y:=eq_of_beq e
   cases h
   rw [e'];exact List.mem_cons_self
  | false=>
   rw [e] at h
   exact List.mem_cons_of_mem _ (mem_of_lookup h)
theorem cr {X:Cx} {scope:Scope} {cl:List (Str×Addr)} (h1:((relabel scope X.env).names.all fun y=>!(y.2 == .cell || y.2 == .free) || (cl.lookup y.1).isSome)=true) (h2:ir X cl):fi X scope cl:=by
 refine⟨fun x h=>?_,fun x c e=>h2.mem _ (mem_of_lookup e)⟩
 have h3:=List.all_eq_true.mp h1
 have key:∀ k:NameKind,(k=.cell∨k=.free)->(relabel scope X.env).names.lookup x=some k->∃ c,cl.lookup x=some c:=fun k hk e=>by
  have q:=h3 _ (mem_of_lookup e)
  have z:(k == NameKind.cell || k == NameKind.free)=true:=by rcases hk with rfl | rfl <;> rfl
  simp only [z,Bool.not_true,Bool.false_or] at q
  exact Option.isSome_iff_exists.mp q
 rcases h with h | h
 ·exact key _ (.inl rfl) h
 ·exact key _ (.inr rfl) h
def iK (σ σ':L2.St):Prop:=σ'.length=σ.length/\∀ (i:Nat) (v:V),σ[i]?=some (some v)->σ'[i]?=some (some v)
theorem iK.set {σ:L2.St} {i:Nat} {v:V} (h:σ[i]?=some none):iK σ (σ.set i (some v)):=by
 refine⟨List.length_set,fun j u e=>?_⟩
 have ne:i≠j:=fun z=>by subst z;rw [h] at e;cases e
 rw [List.getElem?_set_ne ne];exact e
section
variable {X:Cx} {N':List Str} {scope:Scope} {cl:List (Str×Addr)} {src:List (Option Nat)} {pins:List (Addr×Obj)} {σ:L2.St} {H:Hp} {s:Shared} {fp:List Addr}
theorem Cx.comp_ok {C:Addr} (I:Inv X pins σ H s) (hC:s.heap.objs.size≤C) (hk:scope.kind=.function) (hf:∀ b∈fp,e7 X pins H b) (hfs:∀ b∈fp,b < s.heap.objs.size) (hc:fi X scope cl) :
  (i7 X N' scope cl C fp pins s H).Ok where
 mod:=I.ok.mod
 kind:=hk
 glob:=I.ok.glob
 blt:=I.ok.blt
 above:=hC
 inj:=fun x y c e1 e2=>I.ok.inj x y c (hc.2 x c e1) (hc.2 y c e2)
 has:=fun x h=>hc.1 x h
 cab:=fun x c z=>nomatch z
 hd:=I.ok.hd
 frames:=I.ok.frames
 stk:=.inl rfl
 exf:=fun b hb=>⟨fun z=>by have:=hfs b hb;rw [show b=C from z] at this;exact absurd (Nat.lt_of_lt_of_le this hC) (Nat.lt_irrefl _),fun x c e=>(hf b hb).2.2.2.2.1 x c (hc.2 x c e)⟩
 bs:=I.bs
 bsz:=Nat.le_trans I.ok.bsz I.sz
 noex:=fun b o e hb=>by
  rcases (hf b hb).2.2.2.1 with z | z
  ·exact I.ok.noex b o e z
  ·rw [(I.ok.bs b o e).1] at z;cases z
 exfs:=fun b hb z=>by
  rcases List.mem_cons.mp (I.stkSub b z) with q | q
  ·exact (hf b hb).2.1 q
  ·exact (hf b hb).2.2.1 q
 funs:=I.stack
 frf:=I.stkFree
theorem Inv.comp {C:Addr} {h₁:Heap} {m:Str->Option Value} {tk:Nat} (I:Inv X pins σ H s) (hC:C=s.heap.objs.size) (hns:h₁.Ns C m) (keep:∀ b o,s.heap.get? b=some o->h₁.get? b=some o)
  (hk:scope.kind=.function) (hf:∀ b∈fp,e7 X pins H b) (hfs:∀ b∈fp,b < s.heap.objs.size) (hc:fi X scope cl) (hfree:dh X scope cl N' src) :
  Inv (i7 X N' scope cl C fp pins s H) [] (cn src σ) H { s with heap:=h₁,toks:=tk } where
 ok:=Cx.comp_ok I (Nat.le_of_eq hC.symm) hk hf hfs hc
 os:=rfl
 bare:=I.bare
 base:=Un.kept keep
 loc:=⟨m,hns,fun i x v e1 e2 _=>by
  obtain⟨j,hj,hσ,kc,kc',hl⟩:=hfree.at e1 e2
  obtain⟨m0,hn0,hl0⟩:=I.loc
  obtain⟨u,r,l⟩:=hl0 j x v hj hσ (Or.inr (Or.inl kc))
  rcases l with ⟨k,_⟩ | ⟨k,c,e,o,ho,hd⟩
  ·rw [kc] at k;cases k
  ·exact⟨u,r,.inr ⟨.inl kc',c,hl.trans e,o,keep c o ho,hd⟩⟩⟩
 cell:=fun x c e=>let ⟨v,o,ho,hd⟩:=I.cell x c (hc.2 x c e);⟨v,o,keep _ _ ho,hd⟩
 free:=I.hok.fresh (Nat.le_of_eq hC.symm)
 freeC:=fun x c e=>I.freeC x c (hc.2 x c e)
 pin:=fun p hp=>by
  have hp':p∈X.pn++pins:=by
   have z:p∈(X.pn++pins)++[]:=hp
   rw [List.append_nil] at z;exact z
  obtain⟨e,n,ne,nf,d⟩:=I.pin p hp'
  refine⟨keep _ _ e,n,fun z=>?_,fun z=>?_,d⟩
  ·have:=Heap.lt_size e;rw [show p.1=C from z,hC] at this;exact Nat.lt_irrefl _ this
  ·rcases List.mem_cons.mp (I.stkSub _ z) with q | q
   ·exact ne q
   ·exact nf q
 hok:=I.hok.kept keep
 len:=by show (cn src σ).length=N'.length;unfold cn;rw [List.length_map,hfree.len]
end
def Bm (X:Cx) (ifs:List Expr) (t:TT):Prop:=
 ∀ (pins:List (Addr×Obj)) (s:Shared) (σ:L2.St) (H:Hp) (Q:Bool->Hp->Prop),Inv X pins σ H s->t σ H Q→
  wpAny (model X.prog X.w) X.A (forIn ifs true fun c r=>if r=true then do let ok ← isTrue c X.env (eval c X.env);pure (ForInStep.yield ok) else pure (ForInStep.yield r)) (TP X pins σ Q) X.xe s
def BB:TT:=fun _ H Q=>Q true H
theorem wI {X:Cx}:Bm X [] BB:=fun _ _ _ H _ I h=>wpAny_tests_nil ⟨H,I,h⟩
theorem wH {X:Cx} {c:Expr} {t:TT} (h:PT X c t):Bm X [c] t:=fun pins s σ H Q I q=>wpAny_tests_one (h pins s σ H Q I q)
section
variable {prog:Program} {w:World} {A:Around} {R:Result->Shared->Prop} {s:Shared}
theorem qQ {elt target iter:Expr} {ifs:List Expr} {scope:Scope} {pos:Pos} {it acc:Value} {env:Env} (I:Nat->Shared->Prop)
  (turn:∀ n s,I n s->wpAny (model prog w) A (pyNext it) (fun r s₁=>match r with
   | none=>R (.ok .next) s₁
   | some v=>wpAny (model prog w) A (letOwnedTupleGo target it v) (fun _ s₁'=>wpAny (model prog w) A (assign target env v) (fun _ s₂=>
     wpAny (model prog w) A (forIn ifs true fun c r=>if r=true then do let ok ← isTrue c env (eval c env);pure (ForInStep.yield ok) else pure (ForInStep.yield r)) (fun ok s₃=>
      if ok=true then wpAny (model prog w) A (eval elt env) (fun x s₄=>
       wpAny (model prog w) A (call (.builtin "list.append") [acc,x]) (fun _ s₅=>∃ m,m < n/\I m s₅) (fun _ _=>False) s₄) (fun _ _=>False) s₃
      else ∃ m,m < n/\I m s₃) (fun _ _=>False) s₂) (fun _ _=>False) s₁') (fun _ _=>False) s₁) (fun _ _=>False) s)
  (n:Nat) (h:I n s):codeAny (model prog w) A (.compLoop (.ListComp elt [⟨target,iter,ifs,0⟩] scope pos) 0 it acc env) R s:=by
 refine codeAny_loop rfl I (fun n s hI=>?_) n h
 show wpAny _ A ((compTurn (.ListComp elt [⟨target,iter,ifs,0⟩] scope pos) 0 it acc env).onRaise (fun x=>do noteFrame x env;theTreesLotGoes x)) _ _ s
 refine wpAny_noted ?_
 rw [compTurn_list]
 refine wpAny_bind (wpAny_standAt (wpAny_bind (wpAny_mono (turn n s hI) (fun r s₁ h₁=>?_) fun _ _ h'=>h'.elim)))
 cases r with
 | none=>exact wpAny_pure h₁
 | some v=>
  refine wpAny_bind (wpAny_mono h₁ (fun _ s₁' h₁'=>?_) fun _ _ h'=>h'.elim)
  refine wpAny_bind (wpAny_mono h₁' (fun _ s₂ h₂=>wpAny_bind (wpAny_mono h₂ (fun ok s₃ h₃=>?_) fun _ _ h'=>h'.elim)) fun _ _ h'=>h'.elim)
  cases ok with
  | false=>exact wpAny_pure ⟨rfl,h₃⟩
  | true=>
   exact wpAny_bind (wpAny_bind (wpAny_mono h₃ (fun x s₄ h₄=>wpAny_bind (wpAny_mono h₄ (fun _ s₅ h₅=>wpAny_pure (wpAny_pure ⟨rfl,h₅⟩)) fun _ _ h'=>h'.elim)) fun _ _ h'=>h'.elim))
end
structure xK (X:Cx) (pins:List (Addr×Obj)) (H:Hp) (C:Addr):Prop where
 no:H C=none
 lo:C≠X.env.locals
 fs:C∉X.fs
 old:X.s₀.heap.get? C=none
 ce:∀ x c,X.env.cells.lookup x=some c->c≠C
 pn:∀ p∈X.pn++pins,p.1≠C
theorem xK.turned {X:Cx} {pins:List (Addr×Obj)} {σ:L2.St} {H:Hp} {C:Addr} {s:Shared} (o:xK X pins H C) (I:Inv X pins σ H s) {h':Heap} (sb:Heap.SameBut C s.heap h'):Inv X pins σ H { s with heap:=h' }:=
 I.turned (it:=C) (t':=s.toks) (fun b u hb e=>sb.extBut b u hb e) o.no o.lo (.inr o.old) o.ce o.pn
def lU (wi:TI) (src:List (Option Nat)) (g:TG) (tt:TT) (te:TE):TE:=fun σ H Q=>wi σ H fun J H1=>∀ D,H1 D=none->∃ W:Nat->Nat->List V->Hp->Prop,
 (∃ m,W 0 m [] (ax H1 D (.lst [])))/\∀ i m ys H,W i m ys H->(J.stop i H/\Q (.ref D) H)∨(J.go i H/\∀ x H',J.yld i H x H'->g x (cn src σ) H' fun σ2 H2=>iK (cn src σ) σ2/\tt σ2 H2 fun ok H3=>
  if ok=true then te σ2 H3 fun y H4=>H4 D=some (.lst ys)/\ys.length < sizeLine/\∃ m',m' < m/\W (i+1) m' (ys++[y]) (ax H4 D (.lst (ys++[y]))) else ∃ m',m' < m/\W (i+1) m' ys H3)
section
variable {X:Cx} {N':List Str} {scope:Scope} {cl:List (Str×Addr)} {src:List (Option Nat)} {tg iter elt:Expr} {ifs:List Expr} {wi:TI} {g:TG} {tt:TT} {te:TE} {pos:Pos}
theorem mU (hc:X.calm=true) (hi:PI X tg iter wi) (hg:∀ C fp pins s H,PG (i7 X N' scope cl C fp pins s H) tg g) (ht:∀ C fp pins s H,Bm (i7 X N' scope cl C fp pins s H) ifs tt)
  (he:∀ C fp pins s H,PE (i7 X N' scope cl C fp pins s H) elt te) (hfree:dh X scope cl N' src) (hcell:∀ x∈scope.names,x.2≠.cell) (hkind:scope.kind=.function) (hcl:fi X scope cl)
  {RR:Value->Addr->Result->Shared->Prop} {pins:List (Addr×Obj)} {s:Shared} {σ:L2.St} {H:Hp} {Q:VK} (I:Inv X pins σ H s) (h:lU wi src g tt te σ H Q)
  (hRR:∀ D C H' s',Q (.ref D) H'->(∃ m,s'.heap.Ns C m)->Inv X pins σ H' s'->xK X pins H' C->RR (.ref D) C (.ok .next) s') :
  wpAny (model X.prog X.w) X.A (eval iter X.env) (fun x s₁=>wpAny (model X.prog X.w) X.A (pyIter x) (fun itv s₂=>wpAny (model X.prog X.w) X.A (newList []) (fun acc s₃=>
   wpAny (model X.prog X.w) X.A (newFunctionEnv scope X.env.globals cl [] X.env.qual none .none (some X.env)) (fun cenv s₄=>
    codeAny (model X.prog X.w) X.A (.compStart (.ListComp elt [⟨tg,iter,ifs,0⟩] scope pos) 0 itv acc { cenv with scope:=relabel scope X.env }) (RR acc cenv.locals) s₄) X.xe s₃) X.xe s₂) X.xe s₁) X.xe s:=by
 refine cb (hi pins s σ H _ I h) fun v s1 h1=>cb h1 fun itv s2 h2=>?_
 obtain⟨it,fp,tn,J,H2,e,I2,T,st2,f2,h2⟩:=h2
 subst e
 refine wpAny_newObj_type ?_ (by show 0≤sizeLine;exact Nat.zero_le _)
 have hD:H2 s2.heap.objs.size=none:=I2.fresh
 have I3:Inv X pins σ (ax H2 s2.heap.objs.size (.lst [])) { s2 with heap:=s2.heap.push { cls:=.type "list", data:=.seq ([]:List Value).toArray } }:=I2.lnew (t':=s2.toks) (its:=[]) .nil (Nat.zero_le _)
 obtain⟨W,⟨m0,w0⟩,turn⟩:=h2 s2.heap.objs.size hD
 generalize hDe:s2.heap.objs.size=D at I3 turn w0 hD ⊢
 have st3:tn 0 (s2.heap.push { cls:=.type "list", data:=.seq ([]:List Value).toArray }):=T.keep _ _ _ st2 fun b _ o e=>Heap.get?_push_of_some _ e
 have f3:∀ b∈fp,e7 X pins (ax H2 D (.lst [])) b/\b < (s2.heap.push { cls:=.type "list", data:=.seq ([]:List Value).toArray }).objs.size:=fun b hb=>by
  obtain⟨o,e,_⟩:=T.obj _ _ st2 b hb
  have l:=Heap.lt_size e
  rw [hDe] at l
  refine⟨⟨?_,(f2 b hb).2⟩,by rw [Heap.size_push,hDe];exact Nat.lt_succ_of_lt l⟩
  rw [aD (Nat.ne_of_lt l)];exact (f2 b hb).1
 generalize (s2.heap.push { cls:=.type "list", data:=.seq ([]:List Value).toArray })=h3 at I3 st3 f3 ⊢
 refine wpAny_newFunctionEnv hcell (by intro y hy;simp at hy) (fun h₄ hns₄ hsb₄=>?_) hkind
 have keep:∀ b o,h3.get? b=some o->h₄.get? b=some o:=fun b o e=>hsb₄.extBut b o (Nat.ne_of_lt (Heap.lt_size e)) (Heap.get?_push_of_some _ e)
 have I4:=Inv.comp (C:=h3.objs.size) (fp:=fp) (tk:=s2.toks+([]:List (Str×Value)).length) I3 rfl hns₄ keep hkind (fun b hb=>(f3 b hb).1) (fun b hb=>(f3 b hb).2) hcl hfree
 have st4:tn 0 h₄:=T.keep _ _ _ st3 fun b _ o e=>keep b o e
 have fpn:∀ b∈fp,(ax H2 D (.lst [])) b=none:=fun b hb=>(f3 b hb).1.1
 have hn3:∀ b∈fp,b≠h3.objs.size:=fun b hb=>Nat.ne_of_lt (f3 b hb).2
 have stat:∀ {H':Hp},(∀ b∈fp,H' b=none)->∀ b∈fp,e7 (i7 X N' scope cl h3.objs.size fp pins { s2 with heap:=h3 } (ax H2 D (.lst []))) [] H' b:=fun hn b hb=>
  ⟨hn b hb,hn3 b hb,I4.ok.exfs b hb,.inl hb,fun x c e=>(f3 b hb).1.2.2.2.2.1 x c (hcl.2 x c e),fun p hp=>(f3 b hb).1.2.2.2.2.2 p (by
   have z:p∈(X.pn++pins)++[]:=hp
   rw [List.append_nil] at z;exact z)⟩
 have back:∀ {H':Hp} {s':Shared},Inv (i7 X N' scope cl h3.objs.size fp pins { s2 with heap:=h3 } (ax H2 D (.lst []))) [] (cn src σ) H' s'->(∃ m,s'.heap.Ns h3.objs.size m)/\Inv X pins σ H' s'/\xK X pins H' h3.objs.size:=fun {H' s'} I'=>by
  have Ib:Inv X pins σ H' s':=I3.call' I'.os I'.base I'.hok I'.bare fun b hb=>⟨(f3 b hb).1.2.2.2.1,(f3 b hb).1.2.1,(f3 b hb).1.2.2.2.2.1,(f3 b hb).1.2.2.2.2.2⟩
  refine⟨let ⟨m,hm,_⟩:=I'.loc;⟨m,hm⟩,Ib,⟨I'.free,fun z=>?_,I3.nofs (Nat.le_refl _),Heap.get?_none_of_le I3.sz,fun x c e z=>?_,fun p hp z=>?_⟩⟩
  ·have:=I3.lt;rw [← z] at this;exact Nat.lt_irrefl _ this
  ·obtain⟨v,o,ho,_⟩:=I3.cell x c e
   have:=Heap.lt_size ho;rw [z] at this;exact Nat.lt_irrefl _ this
  ·obtain⟨e,_⟩:=I3.pin p hp
   have:=Heap.lt_size e;rw [z] at this;exact Nat.lt_irrefl _ this
 have loop:codeAny (model X.prog X.w) X.A (.compLoop (.ListComp elt [⟨tg,iter,ifs,0⟩] scope pos) 0 (.ref it) (.ref D) (compEnvC scope cl h3.objs.size X.env)) (RR (.ref D) h3.objs.size) { s2 with heap:=h₄,toks:=s2.toks+([]:List (Str×Value)).length }:=by
  refine qQ (fun n s'=>∃ i ys H',Inv (i7 X N' scope cl h3.objs.size fp pins { s2 with heap:=h3 } (ax H2 D (.lst []))) [] (cn src σ) H' s'/\tn i s'.heap/\(∀ b∈fp,H' b=none)/\W i n ys H') ?_ m0 ⟨0,[],_,I4,st4,fpn,w0⟩
  rintro n s5 ⟨i,ys,H5,I5,st5,fr5,w5⟩
  rcases turn i n ys H5 w5 with ⟨stop,qn⟩ | ⟨go,step⟩
  ·refine cb (T.done (i7 X N' scope cl h3.objs.size fp pins { s2 with heap:=h3 } (ax H2 D (.lst []))) rfl rfl rfl hc i [] s5 _ H5 _ I5 (stat fr5) st5 stop) fun r s6 ⟨hr,I6⟩=>?_
   subst hr
   obtain⟨b1,b2,b3⟩:=back I6
   exact hRR D _ H5 s6 qn b1 b2 b3
  ·refine cb (T.item (i7 X N' scope cl h3.objs.size fp pins { s2 with heap:=h3 } (ax H2 D (.lst []))) rfl rfl rfl hc i [] s5 _ H5 _ I5 (stat fr5) st5 go) fun r s6 ⟨u,hr,h6⟩=>?_
   subst hr
   refine cb h6 fun _ s7 ⟨x,H7,I7,r7,y7,st7,fr7⟩=>?_
   have I7':=I7.pinned (stat fr7) (T.obj _ _ st7)
   refine cb (hg _ _ _ _ _ _ s7 _ H7 x u _ I7' r7 (step x H7 y7)) fun _ s8 ⟨σ8,H8,I8,ex8,q8⟩=>?_
   refine cb (ht _ _ _ _ _ _ s8 σ8 H8 _ I8 q8) fun ok s9 ⟨H9,I9,q9⟩=>?_
   have again:∀ {ys':List V} {Ha:Hp} {sa:Shared},Inv (i7 X N' scope cl h3.objs.size fp pins { s2 with heap:=h3 } (ax H2 D (.lst []))) ([]++js fp s7.heap) σ8 Ha sa->(∃ m',m' < n/\W (i+1) m' ys' Ha)→
     ∃ m,m < n/\∃ i ys H',Inv (i7 X N' scope cl h3.objs.size fp pins { s2 with heap:=h3 } (ax H2 D (.lst []))) [] (cn src σ) H' sa/\tn i sa.heap/\(∀ b∈fp,H' b=none)/\W i m ys H':=fun {ys' Ha sa} Ia ⟨m',hm,wa⟩=>by
    refine⟨m',hm,i+1,ys',Ha,(Ia.unpinned).weak ex8.1.symm ex8.2,T.keep _ _ _ st7 fun b hb o e=>(Ia.pin (b,o) (List.mem_append_right _ (List.mem_append_right _ (fM hb e)))).1,fun b hb=>?_,wa⟩
    obtain⟨o,e,_⟩:=T.obj _ _ st7 b hb
    exact (Ia.pin (b,o) (List.mem_append_right _ (List.mem_append_right _ (fM hb e)))).2.1
   cases ok with
   | false=>exact again I9 q9
   | true=>
    refine cb (he _ _ _ _ _ _ s9 σ8 H9 _ I9 q9) fun y s10 ⟨yv,H10,I10,r10,q10,hz,wn⟩=>?_
    refine cb (dI _ s10 σ8 H10 (.ref D) [yv] (.ref D) [y] (fun _ Hz=>∃ m',m' < n/\W (i+1) m' (ys++[yv]) Hz) I10 rfl (.cons r10 .nil) ⟨D,ys,yv,rfl,rfl,q10,hz,wn⟩) fun _ s11 ⟨_,H11,I11,_,q11⟩=>?_
    exact again I11 q11
 exact codeAny_compStart_list loop (T.self _ 0 _ _ _ st4 loop)
theorem ut (hc:X.calm=true) (hi:PI X tg iter wi) (hg:∀ C fp pins s H,PG (i7 X N' scope cl C fp pins s H) tg g) (ht:∀ C fp pins s H,Bm (i7 X N' scope cl C fp pins s H) ifs tt)
  (he:∀ C fp pins s H,PE (i7 X N' scope cl C fp pins s H) elt te) (hfree:dh X scope cl N' src) (hclos:closureFor scope X.env=pure cl) (hcell:∀ x∈scope.names,x.2≠.cell) (hkind:scope.kind=.function)
  (hnames:∀ x∈scope.names,x.2=.local->scope.names.lookup x.1=some .local) (hcl:fi X scope cl) (hs:∀ x,foldedSetIterable iter X.env x=pure x:=by intro _;rfl) :
  PE X (.ListComp elt [⟨tg,iter,ifs,0⟩] scope pos) (lU wi src g tt te):=by
 intro pins s σ H Q I h
 rw [eval_ListComp]
 refine wpAny_comprehension_free (use:=none) rfl hs hclos hkind hnames (mU hc hi hg ht he hfree hcell hkind hcl (RR:=fun acc C=>compPost (model X.prog X.w) X.A X.xe none (EP X pins σ Q) acc C) I h fun D C H' s' q hm hI hb=>?_)
 obtain⟨m,hm⟩:=hm
 exact⟨m,hm,fun h' sb=>⟨.ref D,H',hb.turned hI sb,rfl,q⟩⟩
theorem wM {i:Nat} {x:Str} {pos' pos2:Pos} (hN:X.N.Nodup) (hi':X.N[i]?=some x) (hx:vG X.env.scope x) (hc:X.calm=true) (hi:PI X tg iter wi) (hg:∀ C fp pins s H,PG (i7 X N' scope cl C fp pins s H) tg g) (ht:∀ C fp pins s H,Bm (i7 X N' scope cl C fp pins s H) ifs tt)
  (he:∀ C fp pins s H,PE (i7 X N' scope cl C fp pins s H) elt te) (hfree:dh X scope cl N' src) (hclos:closureFor scope X.env=pure cl) (hcell:∀ x∈scope.names,x.2≠.cell) (hkind:scope.kind=.function)
  (hnames:∀ x∈scope.names,x.2=.local->scope.names.lookup x.1=some .local) (hcl:fi X scope cl) (hs:∀ x,foldedSetIterable iter X.env x=pure x:=by intro _;rfl)
  (hsw:swapsWith (.ListComp elt [⟨tg,iter,ifs,0⟩] scope pos) (some (.Name x pos')) pos2.line X.env=pure true:=by rfl) (hf:X.fn x=true∨X.env.scope.names.lookup x=some .local:=by first | exact .inl rfl | exact .inr rfl | assumption) :
  PS X (.Assign [.Name x pos'] (.ListComp elt [⟨tg,iter,ifs,0⟩] scope pos) pos2) (ny (lU wi src g tt te) (jG i)):=by
 intro pins s σ H D I h
 rw [exec_Assign_Name_used _ _ _ _ hsw]
 refine wpAny_bind (wpAny_standAt ?_)
 show wpAny _ _ ((comprehension (.ListComp elt [⟨tg,iter,ifs,0⟩] scope pos) scope X.env _ (newList []) false (eval iter X.env) (some (assign (.Name x pos') X.env)) >>= fun _=>pure ()) >>= fun _=>pure Flow.next) _ _ s
 refine wpAny_bind (wpAny_bind (wpAny_mono (wpAny_comprehension_free (use:=some (assign (.Name x pos') X.env)) (Q:=fun _ s''=>SP X pins D .next s'') rfl hs hclos hkind hnames (mU hc hi hg ht he hfree hcell hkind hcl (RR:=fun acc C=>compPost (model X.prog X.w) X.A X.xe (some (assign (.Name x pos') X.env)) (fun _ s''=>SP X pins D .next s'') acc C) I h fun E C H' s' q hm hI hb=>?_)) (fun _ s'' h''=>wpAny_pure (wpAny_pure h'')) fun _ _ e=>e))
 obtain⟨m,o,es,ep,ho,hd,r1,r2⟩:=hm
 have I':Inv X (pins++[(C,o)]) σ H' s':=hI.pins_of fun p hp=>by
  rcases List.mem_append.mp hp with h | h
  ·exact hI.pin p (List.mem_append_right _ h)
  ·rw [List.mem_singleton] at h
   rw [h]
   exact⟨ho,hb.no,hb.lo,hb.fs,fun v z=>by rw [hd] at z;cases z⟩
 refine wpAny_assign_Name (fw I' hN hi' hx (show aY (.ref E) (.ref E) from rfl) (fun s'' I''=>?_) hf)
 have hC:=(I''.pin (C,o) (List.mem_append_right _ (List.mem_append_right _ List.mem_cons_self))).1
 have I3:Inv X pins (σ.set i (some (.ref E))) H' s'':=I''.pins_of fun p hp=>I''.pin p (List.mem_append_right _ (List.mem_append_left _ hp))
 exact⟨m,⟨o,es,ep,hC,hd,r1,r2⟩,fun h' sb=>⟨_,H',hb.turned I3 sb,q⟩⟩
end
def FT (K:PySem.W.Frag):R2:=fun x y H Q=>∃ d d',cI K H x d/\cI K H y d'/\d.canLay0=true/\d'.canLay0=true/\d.depth≤32/\Q (.bl (!PyData.eqv d d')) H
noncomputable def jE (h:Heap) (x:Value) (d:PyData) (y:Value):Bool:=
 open Classical in if y=x then true else if z:∃ d',d'.canLay0=true/\d'.depth≤32/\∃ as,Reads h y d' as then PyData.eqv z.choose d else false
theorem u3 {A:Around} {s:Shared} {x y:Value} {d:PyData} {as:List Addr} (rx:Reads s.heap x d as) (cx:d.canLay0=true) (hu:A.units+32 < cLine)
  (hy:∃ d',d'.canLay0=true/\d'.depth≤32/\∃ as,Reads s.heap y d' as):SeqAt.EqAt A s y x (jE s.heap x d y):=by
 unfold jE
 by_cases e:y=x
 ·rw [if_pos e,e];exact SeqAt.EqAt.same x
 ·rw [if_neg e,dif_pos hy]
  obtain⟨c,dp,bs,r⟩:=hy.choose_spec
  exact SeqAt.eqAt_reads _ _ A s _ _ _ _ r rx c cx (by omega)
def pP (K:PySem.W.Frag) (H:Hp) (xs:List V):Prop:=∀ x∈xs,∃ d,cI K H x d/\d.canLay0=true/\d.depth≤32
theorem iO {X:Cx} {pins:List (Addr×Obj)} {σ:L2.St} {H:Hp} {s:Shared} (I:Inv X pins σ H s):∀ {xs:List V} {us:List Value},bg xs us->pP X.K H xs->∀ u∈us,∃ d',d'.canLay0=true/\d'.depth≤32/\∃ as,Reads s.heap u d' as
 | _,_,.nil,_,u,hu=>by cases hu
 | x :: xs,w :: us,.cons r t,k,u,hu=>by
  rcases List.mem_cons.mp hu with rfl | hu
  ·obtain⟨d,hd,c,dp⟩:=k x List.mem_cons_self
   obtain⟨as,ra⟩:=cI.reads I hd r
   exact⟨d,c,dp,as,ra⟩
  ·exact iO I t (fun y hy=>k y (List.mem_cons_of_mem _ hy)) u hu
def C5 (K:PySem.W.Frag):R2:=fun x y H Q=>∃ a p xs,x=.ref a/\y=.ref p/\aW K H p xs/\V.ref a∈xs/\pP K H xs/\Q (.bl false) H
def C7 (K:PySem.W.Frag):V->List V->Hp->VK->Prop:=fun x vs H Q=>∃ p xs a d,x=.ref p/\vs=[.ref a]/\aW K H p xs/\V.ref a∈xs/\pP K H xs/\cI K H (.ref a) d/\d.canLay0=true/\d.depth≤32∧
 ∀ (j:Nat) (v':V),xs[j]?=some v'->(v'=.ref a∨∀ d',cI K H v' d'->d'.canLay0=true->PyData.eqv d' d=true)->Q (.int j) H
end B
namespace B
abbrev R:=Int×Int
def df (a b:Int):R:=(a / (Int.gcd a b:Int),b / (Int.gcd a b:Int))
structure Wf (n:Nat) (r:R):Prop where
 pos:0 < r.2
 top:r.1.natAbs < 2 ^ n
 bot:r.2.natAbs < 2 ^ n
 cop:Int.gcd r.1 r.2=1
theorem Wf.mono {n m:Nat} {r:R} (h:Wf n r) (l:n≤m):Wf m r:=⟨h.pos,Nat.lt_of_lt_of_le h.top (Nat.pow_le_pow_right (by decide) l),Nat.lt_of_lt_of_le h.bot (Nat.pow_le_pow_right (by decide) l),h.cop⟩
theorem bI {a b:Int} (hb:0 < b):0 < (Int.gcd a b:Int):=by
 have h:Int.gcd a b≠0:=fun z=>by
  have:=(Int.gcd_eq_zero_iff.mp z).2
  omega
 omega
theorem fq (a:Int) {g:Int} (hg:0 < g):(a / g).natAbs≤a.natAbs:=by
 have h1:=Int.ediv_mul_le a (show g≠0 by omega)
 have h2:=Int.lt_ediv_add_one_mul_self a hg
 rcases Int.le_total 0 a with h | h
 ·have h3:=Int.ediv_nonneg h (show 0≤g by omega)
  have h4:a / g≤a / g * g:=by
   have:a / g * 1≤a / g * g:=Int.mul_le_mul_of_nonneg_left (by omega) h3
   omega
  omega
 ·have h3:a / g≤0:=by
   have:=Int.ediv_le_ediv hg h
   rw [Int.zero_ediv] at this;exact this
  have h5:a≤a / g:=by
   have:a / 1≤a / g:=by
    have q:(a / g+1) * g≤(a / g+1) * 1∨0 < a / g+1:=by
     rcases Int.le_total (a / g+1) 0 with z | z
     ·left
      have:=Int.mul_le_mul_of_nonneg_left (a:=1) (b:=g) (c:=-(a / g+1)) (by omega) (by omega)
      have e1:-(a / g+1) * 1=-((a / g+1) * 1):=Int.neg_mul _ _
      have e2:-(a / g+1) * g=-((a / g+1) * g):=Int.neg_mul _ _
      omega
     ·rcases Int.lt_or_eq_of_le z with z | z
      ·right;exact z
      ·left;rw [← z];simp
    rw [Int.ediv_one]
    rcases q with q | q
    ·omega
    ·omega
   rw [Int.ediv_one] at this;exact this
  omega
theorem gO {n:Nat} {a b:Int} (hb:0 < b) (h1:a.natAbs < 2 ^ n) (h2:b.natAbs < 2 ^ n):Wf n (df a b):=
 ⟨Int.ediv_pos_of_pos_of_dvd hb (Int.le_of_lt (bI hb)) (Int.gcd_dvd_right a b),Nat.lt_of_le_of_lt (fq _ (bI hb)) h1,Nat.lt_of_le_of_lt (fq _ (bI hb)) h2,Int.gcd_ediv_gcd_ediv_gcd (by have:=bI (a:=a) hb;omega)⟩
def aH (r q:R):R:=df (r.1 * q.2+q.1 * r.2) (r.2 * q.2)
def ar (r q:R):R:=df (r.1 * q.1) (r.2 * q.2)
def av (r q:R):Bool:=decide (r.1 * q.2 < q.1 * r.2)
theorem d8 {x y:Int} {n m:Nat} (h1:x.natAbs < 2 ^ n) (h2:y.natAbs < 2 ^ m):(x * y).natAbs < 2 ^ (n+m):=by
 rw [Int.natAbs_mul,Nat.pow_add]
 exact Nat.mul_lt_mul'' h1 h2
theorem uj {n m:Nat} {r q:R} (h:Wf n r) (k:Wf m q):(r.1 * q.2+q.1 * r.2).natAbs < 2 ^ (n+m+1):=by
 have a:=d8 h.top k.bot
 have b:=d8 k.top h.bot
 rw [Nat.add_comm m n] at b
 have e:2 ^ (n+m+1)=2 * 2 ^ (n+m):=by rw [Nat.pow_succ,Nat.mul_comm]
 have:=Int.natAbs_add_le (r.1 * q.2) (q.1 * r.2)
 omega
theorem iZ {n m:Nat} {r q:R} (h:Wf n r) (k:Wf m q):Wf (n+m+1) (aH r q):=
 gO (Int.mul_pos h.pos k.pos) (uj h k) (Nat.lt_of_lt_of_le (d8 h.bot k.bot) (Nat.pow_le_pow_right (by decide) (Nat.le_succ _)))
theorem dP {n m:Nat} {r q:R} (h:Wf n r) (k:Wf m q):Wf (n+m) (ar r q):=
 gO (Int.mul_pos h.pos k.pos) (d8 h.top k.top) (d8 h.bot k.bot)
end B
namespace B
open PySem L2 PyProof.Rows
def Et (i j:Int):Prop:=i.natAbs < 2 ^ 4000/\j.natAbs < 2 ^ 4000
def Ep (_ j:Int):Prop:=0 < j/\j.natAbs < 2 ^ 4000
theorem pK {i:Int} (h:i.natAbs < 2 ^ 4000):Builtin.Int.intBits i≤2 ^ 20:=by
 unfold Builtin.Int.intBits
 split
 ·exact Nat.zero_le _
 ·rename_i z
  have hz : i.natAbs ≠ 0 := fun q => z (by have : i = 0 := by omega
                                           rw [this]; rfl)
  have:=(Nat.log2_lt hz).mpr h
  have e:(2:Nat) ^ 20=1048576:=by decide
  omega
section
variable {X:Cx}
theorem cA:fP X (binaryOp .Mult) (rI Et fun i j=>.int (i * j)):=Am fun _ _ _ _ _ _ _ hc q=>mul_int q (IntMulOk.of_bits (pK hc.1) (pK hc.2))
theorem eO:fP X (binaryOp .FloorDiv) (rI Ep fun i j=>.int (i / j)):=Am fun i j _ _ _ _ _ hc q=>by
 have h1:(0:Int) < j:=hc.1
 have h2:j.natAbs < 2 ^ 4000:=hc.2
 refine floordiv_int (by omega) (by rw [Int.fdiv_eq_ediv_of_nonneg i (by omega)];exact q) (.inl (PyProof.noPylong_of_log2 ?_))
 exact Nat.lt_trans ((Nat.log2_lt (show j.natAbs≠0 by omega)).mpr h2) (by decide)
end
def au (K:PySem.W.Frag) (H H':Hp):Prop:=∀ p xs,bh K H p xs->bh K H' p xs
theorem au.refl (K:PySem.W.Frag) (H:Hp):au K H H:=fun _ _ h=>h
theorem au.trans {K:PySem.W.Frag} {H H1 H2:Hp} (a:au K H H1) (b:au K H1 H2):au K H H2:=fun p xs h=>b p xs (a p xs h)
theorem au.same {K:PySem.W.Frag} {H H':Hp} (s:aO H H'):au K H H':=fun p xs h=>by
 rcases h with (h | ⟨o,h⟩) | h
 ·exact .inl (.inl (s _ _ h))
 ·exact .inl (.inr ⟨o,s _ _ h⟩)
 ·exact .inr h
theorem au.step {K:PySem.W.Frag} {t:Addr} {H H':Hp} (S:bo t H H'):au K H H':=fun p xs h=>by
 obtain⟨ys,ht⟩:=S.tp
 rcases h with (h | ⟨o,h⟩) | h
 ·exact .inl (.inl (S.keep _ _ (fun z=>by subst z;rw [h] at ht;cases ht) h))
 ·exact .inl (.inr ⟨o,S.keep _ _ (fun z=>by subst z;rw [h] at ht;cases ht) h⟩)
 ·exact .inr h
theorem au.up {K:PySem.W.Frag} {H:Hp} {l:Addr} {xs:List V} (h:H l=some (.lst xs)) (ys:List V):au K H (ax H l (.lst ys)):=au.step (bo.up h)
def RV (K:PySem.W.Frag) (H:Hp) (v:V) (r:R):Prop:=∃ p,v=.ref p/\bh K H p [.int r.1,.int r.2]
theorem RV.mono {K:PySem.W.Frag} {H H':Hp} {v:V} {r:R} (h:RV K H v r) (t:au K H H'):RV K H' v r:=let ⟨p,e,q⟩:=h;⟨p,e,t _ _ q⟩
theorem RV.of {K:PySem.W.Frag} {H:Hp} {p:Addr} {a b:Int} (h:H p=some (.tup [.int a,.int b])):RV K H (.ref p) (a,b):=⟨p,rfl,bh.of h⟩
def Di (K:PySem.W.Frag) (H:Hp) (xs:List V) (rs:List R):Prop:=xs.length=rs.length/\∀ (i:Nat) (x:V) (r:R),xs[i]?=some x->rs[i]?=some r->RV K H x r
theorem Di.at {K:PySem.W.Frag} {H:Hp} {xs:List V} {rs:List R} {i:Nat} {x:V} (h:Di K H xs rs) (e:xs[i]?=some x):∃ r,rs[i]?=some r/\RV K H x r:=by
 have hi:=(List.getElem?_eq_some_iff.mp e).1
 have hj:i < rs.length:=by rw [← h.1];exact hi
 exact⟨rs[i],List.getElem?_eq_getElem hj,h.2 i x _ e (List.getElem?_eq_getElem hj)⟩
def dj (r:R):Nat->R
 | 0=>(1,1)
 | k+1=>ar (dj r k) r
theorem An:Wf 1 (1,1):=⟨by decide,by decide,by decide,by decide⟩
theorem oz:Wf 1 (0,1):=⟨by decide,by decide,by decide,by decide⟩
theorem ld {n:Nat} {r:R} (h:Wf n r):∀ k,Wf (1+k * n) (dj r k)
 | 0=>by rw [Nat.zero_mul];exact An
 | k+1=>by
  have:=dP (ld h k) h
  rw [show 1+(k+1) * n=1+k * n+n by rw [Nat.add_mul];omega]
  exact this
def eY (rs:List R):R:=rs.foldl aH (0,1)
def dR (r:R):PyData:=.tuple [.int r.1,.int r.2]
theorem RV.deep {K:PySem.W.Frag} {H:Hp} {v:V} {r:R} (h:RV K H v r):cI K H v (dR r):=by
 obtain⟨p,rfl,q⟩:=h
 exact .tup q (.cons (.int _) (.cons (.int _) .nil))
theorem iH (r:R):(dR r).canLay0=true:=rfl
theorem mT (r:R):(dR r).depth≤32:=by show max 0 (max 0 0)+1≤32;decide
theorem nW {i:Int} {n:Nat} (h:i.natAbs < 2 ^ n) (hn:n≤1900):i.natAbs.log2 < 1920:=by
 by_cases z:i.natAbs=0
 ·rw [z];decide
 ·have:=(Nat.log2_lt z).mpr (Nat.lt_of_lt_of_le h (Nat.pow_le_pow_right (by decide) hn))
  omega
theorem jB {i:Int} {n:Nat} (h:i.natAbs < 2 ^ n) (hn:n≤1900):(PyData.int i).shown.length≤1921:=by
 have q:=int_text_length_le (a:=i) (k:=1920) (by decide) (nW h hn)
 have e:(PyData.int i).shown.length=(toString i).length:=by
  show (Str.ofString (toString i)).length=_
  exact PySem.ofString_length _
 omega
theorem vh {r:R} {n:Nat} (h:Wf n r) (hn:n≤1900):m7 (dR r) where
 sh:=by
  show (decide (r.1.natAbs.log2 < 1920) && (decide (r.2.natAbs.log2 < 1920) && true))=true
  rw [decide_eq_true (nW h.top hn),decide_eq_true (nW h.bot hn)];rfl
 nd:=rfl
 sz:=by
  have a:=jB h.top hn
  have b:=jB h.bot hn
  have q:=tupleText_len_le [(PyData.int r.1).shown,(PyData.int r.2).shown]
  have e:(dR r).shown=tupleText [(PyData.int r.1).shown,(PyData.int r.2).shown]:=rfl
  rw [e]
  simp only [List.map_cons,List.map_nil,List.sum_cons,List.sum_nil,List.length_cons,List.length_nil] at q
  have:sizeLine=16777216:=by decide
  omega
 dp:=by show max 0 (max 0 0)+1≤16;decide
theorem vc {r q:R} (h:PyData.eqv (dR r) (dR q)=true):r=q:=by
 have z:(r.1 == q.1 && (r.2 == q.2 && true))=true:=h
 simp only [Bool.and_true,Bool.and_eq_true,beq_iff_eq] at z
 exact Prod.ext z.1 z.2
theorem ie (r:R):PyData.eqv (dR r) (dR r)=true:=by
 show (r.1 == r.1 && (r.2 == r.2 && true))=true
 simp
end B
namespace B
open PySem L2 PyProof.Rows
def dL (rs:List R):PyData:=.list (rs.map dR)
def Cp (K:PySem.W.Frag) (tl:TE):TI:=fun σ H R=>tl σ H fun x H1=>(∃ a,x=.ref a/\(∃ xs,aW K H1 a xs)/\R (rc K a) H1)∨(∃ a,x=.ref a/\(∃ xs,bh K H1 a xs)/\R (vI K a) H1)
theorem zY {X:Cx} {tg l:Expr} {tl:TE} (hl:PE X l tl):PI X tg l (Cp X.K tl):=by
 intro pins s σ H R I h
 refine cb (hl pins s σ H _ I h) fun v s1 ⟨x,H1,I1,r1,q1⟩=>?_
 rcases q1 with ⟨a,e,⟨xs,hq⟩,q⟩ | ⟨a,e,⟨xs,hq⟩,q⟩
 ·subst e;cases r1
  obtain⟨its,rv,p,hz⟩:=I1.list hq
  refine wpAny_pyIter_list p.isList ?_
  refine⟨s1.heap.objs.size,[s1.heap.objs.size],_,_,H1,rfl,I1.kept (t':=s1.toks) fun b o e=>Heap.get?_push_of_some _ e,jZ a _,⟨_,Heap.get?_push_size _ rfl,rfl,rfl⟩,fun b hb=>?_,q⟩
  have e:b=s1.heap.objs.size:=by simpa using hb
  subst e
  exact I1.fpOk (Nat.le_refl _) (I1.hok.fresh (Nat.le_refl _))
 ·subst e;cases r1
  obtain⟨its,rv,p,hz⟩:=I1.tuple hq
  refine wpAny_pyIter_tuple (show s1.heap.IsTuple a its.toArray from p) ?_
  refine⟨s1.heap.objs.size,[s1.heap.objs.size],_,_,H1,rfl,I1.kept (t':=s1.toks) fun b o e=>Heap.get?_push_of_some _ e,jf a _,⟨_,Heap.get?_push_size _ rfl,rfl,rfl⟩,fun b hb=>?_,q⟩
  have e:b=s1.heap.objs.size:=by simpa using hb
  subst e
  exact I1.fpOk (Nat.le_refl _) (I1.hok.fresh (Nat.le_refl _))
end B
namespace B
structure cO (r:R):Prop where
 pos:0 < r.2
 cop:Int.gcd r.1 r.2=1
theorem cB {a b:Int} (hb:0 < b):cO (df a b):=
 ⟨Int.ediv_pos_of_pos_of_dvd hb (Int.le_of_lt (bI hb)) (Int.gcd_dvd_right a b),Int.gcd_ediv_gcd_ediv_gcd (by have:=bI (a:=a) hb;omega)⟩
theorem cG {a b x y:Int} (hb:0 < b) (hy:0 < y) (g:Int.gcd x y=1) (e:x * b=a * y):df a b=(x,y):=by
 have h1:Int.gcd (a * y) (b * y)=Int.gcd a b * y.natAbs:=Int.gcd_mul_right a y b
 have h2:Int.gcd (x * b) (y * b)=Int.gcd x y * b.natAbs:=Int.gcd_mul_right x b y
 rw [e,Int.mul_comm y b,h1,g,Nat.one_mul] at h2
 have h3:(Int.gcd a b:Int) * y=b:=by
  have z:((Int.gcd a b * y.natAbs:Nat):Int)=(b.natAbs:Int):=congrArg _ h2
  rw [Int.natCast_mul,Int.natAbs_of_nonneg (by omega),Int.natAbs_of_nonneg (by omega)] at z
  exact z
 have gp:=bI (a:=a) hb
 have h4:a=x * (Int.gcd a b:Int):=by
  have z:x * (Int.gcd a b:Int) * y=a * y:=by rw [Int.mul_assoc,h3];exact e
  exact (Int.eq_of_mul_eq_mul_right (by omega) z).symm
 unfold df
 generalize (Int.gcd a b:Int)=G at h3 h4 gp
 subst h4
 subst h3
 rw [Int.mul_ediv_cancel _ (by omega),Int.mul_ediv_cancel_left _ (by omega)]
theorem gh {a b c:Int} (h:Int.gcd a b=1) (d:c∣a):Int.gcd c b=1:=
 Int.gcd_eq_one_iff.mpr fun z h1 h2=>Int.gcd_eq_one_iff.mp h z (Int.dvd_trans h1 d) h2
theorem gy {a b c:Int} (h:Int.gcd a b=1) (d:c∣b):Int.gcd a c=1:=by
 rw [Int.gcd_comm]
 exact gh (by rw [Int.gcd_comm];exact h) d
theorem ja {a b c:Int} (h:Int.gcd a b=1) (k:Int.gcd a c=1):Int.gcd a (b * c)=1:=by
 rw [Int.gcd_mul_right_right_of_gcd_eq_one h];exact k
theorem ig {a b c:Int} (h:Int.gcd a c=1) (k:Int.gcd b c=1):Int.gcd (a * b) c=1:=by
 rw [Int.gcd_comm]
 exact ja (by rw [Int.gcd_comm];exact h) (by rw [Int.gcd_comm];exact k)
theorem eG {a b:Int} (hb:0 < b):∃ g x y:Int,(Int.gcd a b:Int)=g/\0 < g/\a=g * x/\b=g * y/\Int.gcd x y=1:=by
 have gp:=bI (a:=a) hb
 obtain⟨x,hx⟩:=Int.gcd_dvd_left a b
 obtain⟨y,hy⟩:=Int.gcd_dvd_right a b
 refine⟨_,x,y,rfl,gp,hx,hy,?_⟩
 have z:=Int.gcd_ediv_gcd_ediv_gcd (i:=a) (j:=b) (by omega)
 have e1:a / (Int.gcd a b:Int)=x:=by
  conv=>lhs;lhs;rw [hx]
  exact Int.mul_ediv_cancel_left _ (by omega)
 have e2:b / (Int.gcd a b:Int)=y:=by
  conv=>lhs;lhs;rw [hy]
  exact Int.mul_ediv_cancel_left _ (by omega)
 rw [e1,e2] at z
 exact z
theorem gL {g y b:Int} (hb:0 < b) (hg:0 < g) (e:b=g * y):0 < y:=by
 rcases Int.lt_or_le 0 y with h | h
 ·exact h
 ·have:=Int.mul_le_mul_of_nonneg_left h (Int.le_of_lt hg)
  rw [Int.mul_zero] at this
  omega
def mx (r q:R):R:=
 let d:Int:=(Int.gcd r.2 q.2:Nat)
 let t:=r.1 * (q.2 / d)+q.1 * (r.2 / d)
 let e:Int:=(Int.gcd t d:Nat)
 (t / e,r.2 / d * (q.2 / e))
theorem uk {r q:R} (hr:cO r) (hq:cO q):mx r q=aH r q:=by
 obtain⟨d,u,v,e0,dp,e1,e2,cuv⟩:=eG (a:=r.2) hq.pos
 have up:=gL hr.pos dp e1
 have vp:=gL hq.pos dp e2
 obtain⟨e,x,w,f0,ep,f1,f2,cxw⟩:=eG (a:=r.1 * v+q.1 * u) dp
 have wp:=gL dp ep f2
 have du:r.2 / d=u:=by rw [e1];exact Int.mul_ediv_cancel_left _ (by omega)
 have dv:q.2 / d=v:=by rw [e2];exact Int.mul_ediv_cancel_left _ (by omega)
 have te:(r.1 * v+q.1 * u) / e=x:=by rw [f1];exact Int.mul_ediv_cancel_left _ (by omega)
 have qe:q.2 / e=w * v:=by rw [e2,f2,Int.mul_assoc];exact Int.mul_ediv_cancel_left _ (by omega)
 have c1:Int.gcd r.1 u=1:=gy hr.cop ⟨d,by rw [e1,Int.mul_comm]⟩
 have c2:Int.gcd q.1 v=1:=gy hq.cop ⟨d,by rw [e2,Int.mul_comm]⟩
 have xd:x∣(r.1 * v+q.1 * u):=⟨e,by rw [f1,Int.mul_comm]⟩
 have t1:Int.gcd (r.1 * v+q.1 * u) u=1:=by
  rw [Int.gcd_comm,Int.gcd_add_mul_right_right,Int.gcd_comm]
  exact ig c1 (by rw [Int.gcd_comm];exact cuv)
 have t2:Int.gcd (r.1 * v+q.1 * u) v=1:=by
  rw [Int.add_comm,Int.gcd_comm,Int.gcd_add_mul_right_right,Int.gcd_comm]
  exact ig c2 cuv
 have cx:Int.gcd x (u * (w * v))=1:=ja (gh t1 xd) (ja cxw (gh t2 xd))
 have z:mx r q=(x,u * (w * v)):=by
  unfold mx
  simp only [e0,du,dv,f0,te,qe]
 rw [z]
 unfold aH
 refine (cG (Int.mul_pos hr.pos hq.pos) (Int.mul_pos up (Int.mul_pos wp vp)) cx ?_).symm
 have k:r.1 * q.2+q.1 * r.2=d * (e * x):=by
  rw [e1,e2,← f1,Int.mul_add]
  rw [Int.mul_left_comm r.1 d v,Int.mul_left_comm q.1 d u]
 rw [k,e1,e2]
 have k2:d * u * (d * v)=d * u * (e * w * v):=by rw [← f2]
 rw [k2]
 ac_rfl
def jg (r q:R):R:=
 let l:Int:=(Int.gcd r.1 q.2:Nat)
 let m:Int:=(Int.gcd q.1 r.2:Nat)
 (r.1 / l * (q.1 / m),r.2 / m * (q.2 / l))
theorem pZ {r q:R} (hr:cO r) (hq:cO q):jg r q=ar r q:=by
 obtain⟨l,a,b,e0,lp,e1,e2,cab⟩:=eG (a:=r.1) hq.pos
 obtain⟨m,c,d,f0,mp,f1,f2,ccd⟩:=eG (a:=q.1) hr.pos
 have bp:=gL hq.pos lp e2
 have dp:=gL hr.pos mp f2
 have z:jg r q=(a * c,d * b):=by
  unfold jg
  simp only [e0,f0]
  rw [show r.1 / l=a by rw [e1];exact Int.mul_ediv_cancel_left _ (by omega),show q.2 / l=b by rw [e2];exact Int.mul_ediv_cancel_left _ (by omega),
   show q.1 / m=c by rw [f1];exact Int.mul_ediv_cancel_left _ (by omega),show r.2 / m=d by rw [f2];exact Int.mul_ediv_cancel_left _ (by omega)]
 have cad:Int.gcd a d=1:=gh (gy hr.cop ⟨m,by rw [f2,Int.mul_comm]⟩) ⟨l,by rw [e1,Int.mul_comm]⟩
 have ccb:Int.gcd c b=1:=gh (gy hq.cop ⟨l,by rw [e2,Int.mul_comm]⟩) ⟨m,by rw [f1,Int.mul_comm]⟩
 rw [z]
 unfold ar
 refine (cG (Int.mul_pos hr.pos hq.pos) (Int.mul_pos dp bp) (ja (ig cad ccd) (ig cab ccb)) ?_).symm
 rw [e1,e2,f1,f2]
 ac_rfl
theorem cR {r q:R} (hr:cO r) (hq:cO q):cO (aH r q):=cB (Int.mul_pos hr.pos hq.pos)
theorem dn {r q:R} (hr:cO r) (hq:cO q):cO (ar r q):=cB (Int.mul_pos hr.pos hq.pos)
theorem fI {r:R} (hr:cO r):∀ k:Nat,dj r k=(r.1 ^ k,r.2 ^ k)
 | 0=>by rw [Int.pow_zero,Int.pow_zero];rfl
 | k+1=>by
  show ar (dj r k) r=_
  rw [fI hr k]
  unfold ar
  refine cG (Int.mul_pos (Int.pow_pos hr.pos) hr.pos) (Int.pow_pos hr.pos) (Int.pow_gcd_pow_of_gcd_eq_one hr.cop) ?_
  rw [Int.pow_succ,Int.pow_succ]
end B
namespace B
open PySem L2 PyProof.Rows
def CT (_ j:Int):Prop:=j≠0/\j.natAbs < 2 ^ 4000
theorem oV {X:Cx}:fP X (binaryOp .FloorDiv) (rI CT fun i j=>.int (i.fdiv j)):=Am fun i j _ _ _ _ _ hc q=>by
 have h1:j≠0:=hc.1
 have h2:j.natAbs < 2 ^ 4000:=hc.2
 refine floordiv_int h1 q (.inl (PyProof.noPylong_of_log2 ?_))
 exact Nat.lt_trans ((Nat.log2_lt (show j.natAbs≠0 by omega)).mpr h2) (by decide)
def i6 (a b:Int):R:=if b < 0 then df (-a) (-b) else df a b
theorem oY {a b:Int} (h:0 < b):i6 a b=df a b:=by unfold i6;rw [if_neg (by omega)]
theorem jH {a g:Int} (h:0 < g):a.fdiv g=a / g:=Int.fdiv_eq_ediv_of_nonneg a (by omega)
theorem kd {a g:Int} (h:0 < g):a.fdiv (-g)=-a / g:=by
 have e:a.fdiv (-g)=(-a).fdiv g:=by
  have:=Int.neg_fdiv_neg (-a) g
  rw [Int.neg_neg] at this
  exact this
 rw [e,jH h]
theorem u8 (a b:Int):Int.gcd (-a) (-b)=Int.gcd a b:=by simp [Int.gcd]
theorem mQ {a b:Int} (hb:b≠0):0 < (Int.gcd a b:Int):=by
 have h:Int.gcd a b≠0:=fun z=>hb (Int.gcd_eq_zero_iff.mp z).2
 omega
theorem pB {a b:Int} (hb:b≠0) (hz:b.natAbs < 2 ^ 4000):((Int.gcd a b:Nat):Int).natAbs < 2 ^ 4000:=by
 have z:Int.gcd a b≤b.natAbs:=Nat.le_of_dvd (by omega) (by have:=Int.gcd_dvd_right a b;exact Int.natAbs_dvd_natAbs.mpr this)
 have e:((Int.gcd a b:Nat):Int).natAbs=Int.gcd a b:=Int.natAbs_natCast _
 omega
theorem uJ {a b:Int} (hb:0 < b):(a.fdiv (Int.gcd a b:Int),b.fdiv (Int.gcd a b:Int))=i6 a b:=by
 rw [oY hb,jH (bI hb),jH (bI hb)];rfl
theorem uK {a b:Int} (hb:b < 0):(a.fdiv (-(Int.gcd a b:Int)),b.fdiv (-(Int.gcd a b:Int)))=i6 a b:=by
 have g:=mQ (a:=a) (b:=b) (by omega)
 unfold i6
 rw [if_pos hb,kd g,kd g]
 unfold df
 rw [u8]
theorem uH {n:Nat} {a b:Int} (hb:b≠0) (h1:a.natAbs < 2 ^ n) (h2:b.natAbs < 2 ^ n):Wf n (i6 a b):=by
 unfold i6
 split
 ·exact gO (by omega) (by rw [Int.natAbs_neg];exact h1) (by rw [Int.natAbs_neg];exact h2)
 ·exact gO (by omega) h1 h2
def ai (r q:R):R:=df (r.1 * q.2 - q.1 * r.2) (r.2 * q.2)
def fO (r q:R):R:=i6 (r.1 * q.2) (r.2 * q.1)
theorem mI {n m:Nat} {r q:R} (h:Wf n r) (k:Wf m q):Wf (n+m+1) (ai r q):=by
 refine gO (Int.mul_pos h.pos k.pos) ?_ (Nat.lt_of_lt_of_le (d8 h.bot k.bot) (Nat.pow_le_pow_right (by decide) (Nat.le_succ _)))
 have a:=d8 h.top k.bot
 have b:=d8 k.top h.bot
 rw [Nat.add_comm m n] at b
 have e:2 ^ (n+m+1)=2 * 2 ^ (n+m):=by rw [Nat.pow_succ,Nat.mul_comm]
 have:=Int.natAbs_sub_le (r.1 * q.2) (q.1 * r.2)
 omega
theorem xc {n m:Nat} {r q:R} (h:Wf n r) (k:Wf m q) (z:q.1≠0):Wf (n+m) (fO r q):=
 uH (Int.mul_ne_zero (by have:=h.pos;omega) z) (d8 h.top k.bot) (d8 h.bot k.top)
structure CF (d:PyData):Prop where
 sh:d.showable=true
 nd:d.hasDict=false
 sz:d.shown.length≤5000
 dp:d.depth≤8
theorem mk {r:R} {n:Nat} (h:Wf n r) (hn:n≤1900):CF (dR r) where
 sh:=(vh h hn).sh
 nd:=rfl
 sz:=by
  have a:=jB h.top hn
  have b:=jB h.bot hn
  have q:=tupleText_len_le [(PyData.int r.1).shown,(PyData.int r.2).shown]
  have e:(dR r).shown=tupleText [(PyData.int r.1).shown,(PyData.int r.2).shown]:=rfl
  rw [e]
  simp only [List.map_cons,List.map_nil,List.sum_cons,List.sum_nil,List.length_cons,List.length_nil] at q
  omega
 dp:=by show max 0 (max 0 0)+1≤8;decide
end B
namespace B
theorem dt {a b:Int} (hb:0 < b):(df a b).1 * b=a * (df a b).2:=by
 obtain⟨g,x,y,_,gp,e1,e2,c⟩:=eG (a:=a) hb
 have yp:=gL hb gp e2
 have e:x * b=a * y:=by rw [e1,e2];ac_rfl
 rw [cG hb yp c e]
 exact e
theorem jy {a b:Int} (hb:b≠0):cO (i6 a b)/\(i6 a b).1 * b=a * (i6 a b).2:=by
 unfold i6
 split
 ·rename_i h
  refine⟨cB (by omega),?_⟩
  have z:=dt (a:=-a) (b:=-b) (by omega)
  rw [Int.mul_neg,Int.neg_mul] at z
  exact Int.neg_inj.mp z
 ·exact⟨cB (by omega),dt (by omega)⟩
theorem uI {a b x y:Int} (hb:b≠0) (hy:0 < y) (g:Int.gcd x y=1) (e:x * b=a * y):i6 a b=(x,y):=by
 unfold i6
 split
 ·refine cG (by omega) hy g ?_
  rw [Int.mul_neg,Int.neg_mul,e]
 ·exact cG (by omega) hy g e
theorem xf {r q:R} (hr:cO r) (hq:q.1≠0):ar r (i6 q.2 q.1)=fO r q:=by
 obtain⟨hs,es⟩:=jy (a:=q.2) hq
 have hp:0 < r.2 * (i6 q.2 q.1).2:=Int.mul_pos hr.pos hs.pos
 have ht:=cB (a:=r.1 * (i6 q.2 q.1).1) hp
 have et:=dt (a:=r.1 * (i6 q.2 q.1).1) hp
 unfold fO ar
 generalize hS:i6 q.2 q.1=s at hs es hp ht et ⊢
 generalize df (r.1 * s.1) (r.2 * s.2)=t at ht et ⊢
 refine (uI (Int.mul_ne_zero (by have:=hr.pos;omega) hq) ht.pos ht.cop ?_).symm
 have k:t.1 * (r.2 * q.1) * s.2=r.1 * q.2 * t.2 * s.2:=by
  have a1:t.1 * (r.2 * q.1) * s.2=q.1 * (t.1 * (r.2 * s.2)):=by ac_rfl
  have a2:r.1 * q.2 * t.2 * s.2=r.1 * t.2 * (q.2 * s.2):=by ac_rfl
  rw [a1,et,a2,← es]
  ac_rfl
 exact Int.eq_of_mul_eq_mul_right (by have:=hs.pos;omega) k
theorem mK (r q:R):aH r (-q.1,q.2)=ai r q:=by
 unfold aH ai
 rw [Int.neg_mul,← Int.sub_eq_add_neg]
end B
namespace B
open PySem PySem.Spec L2 PyProof.Rows
section
variable {prog:Program} {w:World} {A:Around} {E:Value->Shared->Prop} {h:Heap} {g:Array GenState} {d:Drawn} {t:Nat} {os:OsState} {K:PySem.W.Frag}
variable {nm q:Str} {C N:Addr} {bs bm bmB:List Value} {hdct:Bool} {sn:List Str} {sub:List Value} {ab:Bool} {col:Option Bool} {dd:Option Addr} {k0 k1 k2 k3 k5:Option Value} {bN newId initId:String}
end
def Bw:List Value:=[.type "ValueError", .type "Exception", .type "BaseException", .type "object"]
structure qW (K:PySem.W.Frag) (C:Addr) (bm:List Value):Prop where
 ob:∃ nm q N bs hdct sn sub ab col dd k0 k1 k2 k3 k5,K.lookup C=some (excClassObj nm q C N bs bm hdct sn sub ab col dd k0 k1 k2 k3 k5 "ValueError.__new__")
 tl:∀ h:Heap,K.In h->OwnTail h Bw bm
 hd:PySem.W.hasDictIn K C=true
 sa:PySem.W.findIn K (.ref C) "__setattr__" = some (some (.builtin "object.__setattr__"))
section
variable {prog:Program} {w:World} {A:Around} {s:Shared} {K:PySem.W.Frag} {x C:Addr} {R:Result->Shared->Prop}
end
def Em (a C:Addr) (dx:Option Addr):Heap->Prop:=fun h=>∃ t:Addr,h.get? a=some { cls:=.ref C,dict:=dx,data:=.fields #[.ref t,.none,.none,.none,.bool false,.none] }
def vb (a C:Addr) (dx:Option Addr):HO:=.ext (Em a C dx)
def yG (H:Hp) (a:Addr):Hp:=fun b=>if b=a then none else H b
section
variable {X:Cx} {pins:List (Addr×Obj)} {σ:L2.St} {H:Hp} {s:Shared} {a C:Addr} {dx:Option Addr}
end
def Fe (h:Heap) (H:Hp) (x C T:Addr) (a0:Value):Prop:=
 ∃ oe vs oT ts,h.get? x=some oe/\oe.cls=.ref C/\vs[0]?=some a0/\oe.data=.fields vs/\vs[1]?=some (.ref T)/\H T=none/\T≠x/\h.get? T=some oT/\oT.data=.fields ts/\ts[3]?=some .none
def GU (P:Program) (w:World):ni:=fun outer H s E e s'=>∃ (x C T:Addr) (a0:Value) (H':Hp),e=.ref x/\s'.os=s.os/\AllBare s'.gens/\Un (pC outer) [] H H' s.heap s'.heap/\gD P w H' s'.heap/\s.heap.get? x=none/\s.heap.get? T=none/\H' x=none∧
 Fe s'.heap H' x C T a0/\E (.ref C) none H'
structure ku (X:Cx) (pins:List (Addr×Obj)) (a:Addr):Prop where
 st:X.s₀.heap.get? a=none
 lo:a≠X.env.locals
 ce:∀ x c,X.env.cells.lookup x=some c->c≠a
 pi:∀ p∈X.pn++pins,p.1≠a
 fr:a∉pC X.stack
section
variable {X:Cx} {pins:List (Addr×Obj)} {σ:L2.St} {H H':Hp} {s:Shared} {a:Addr}
end
section
variable {X:Cx} {pins:List (Addr×Obj)} {σ:L2.St} {H:Hp} {s:Shared} {a:Addr} {o:HO}
end
structure XC (K:PySem.W.Frag) (C f:Addr) (bm:List Value):Prop where
 ob:∃ nm q N bs hdct sn sub ab col dd k0 k1 k2 k3 k5,K.lookup C=some (excClassObj nm q C N bs bm hdct sn sub ab col dd k0 k1 k2 k3 k5 "ValueError.__new__")
 tl:∀ h:Heap,K.In h->OwnTail h Bw bm
 init:PySem.W.findIn K (.ref C) "__init__" = some (some (.ref f))
 fn:PySem.W.typeIn K (.ref f)=some (.type "function")
 kp:PySem.W.keepIn K (.ref C)=true
 cl:qW K C bm
section
variable {X:Cx} {k:Nat} {f C:Addr} {fd:FuncData} {ps:List Str} {sp:Sp} {bm:List Value}
def Ff (X:Cx) (E:XK):Prop:=∀ (pins:List (Addr×Obj)) (σ:L2.St) (H:Hp) (s:Shared) (a C:Addr) (oe:Obj) (vs:Array Value) (a0:Value),L2.Inv X pins σ H s->H a=none->ku X pins a->s.heap.get? a=some oe->oe.data=.fields vs→
 vs[0]?=some a0->vs[1]?=some .none->oe.cls=.ref C->E (.ref C) none H->X.xe (.ref a) s
def Dv (C:Addr) (sp:Sp) (E:XK) (t:TA):TS:=fun _ σ H=>t σ H fun vs H1=>vs.length≤sizeLine/\∀ a,H1 a=none->sp (.ref a :: vs) (ax H1 a (vb a C none)) (fun v H2=>v=.non/\(∃ dx,H2 a=some (vb a C dx))/\E (.ref C) none (yG H2 a)) E0
end
section
variable {X:Cx} {pins:List (Addr×Obj)} {σ:L2.St} {H:Hp} {s:Shared} {a C T:Addr} {a0:Value}
end
def vL (N:List Str):L2.St:=List.replicate N.length none
def Gp (X:Cx) (pins:List (Addr×Obj)) (R:Addr->Hp->Prop):Value->Shared->Prop:=fun e s=>∃ (x C T:Addr) (a0:Value) (H:Hp),e=.ref x/\L2.Inv X pins (vL X.N) H s/\H x=none/\ku X pins x/\ku X pins T/\Fe s.heap H x C T a0/\R C H
def E6 (X:Cx) (pins:List (Addr×Obj)) (R:Addr->Hp->Prop):Cx:={ X with pn:=X.pn++pins,xe:=Gp X pins R }
def E7 (X:Cx) (e:Addr):Cx:={ X with A:=X.A.mark (some (.ref e)),calm:=false,xe:=fun _ _=>False }
section
variable {X:Cx} {pins pins':List (Addr×Obj)} {σ:L2.St} {H:Hp} {s:Shared} {R:Addr->Hp->Prop} {e:Addr}
end
def Fz (N:List Str) (R:Addr->Hp->Prop) (Ok:Addr->Prop) (tb:TS) (th:TS):TS:=fun D σ H=>tb D σ H/\∀ C H',R C H'->Ok C/\th D (vL N) H'
section
variable {X:Cx} {R:Addr->Hp->Prop} {body:List Stmt} {b₀:Stmt} {suite:List Stmt} {x:Str} {p hpos pos:Pos} {u:Value} {tb th:TS}
end
section
variable {X:Cx} {o value:Expr} {f:Str} {ta tv:TE} {pos' pos:Pos}
def EM (K:PySem.W.Frag) (ta tv:TE) (f:Str):TS:=fun D σ H=>tv σ H fun _ H1=>ta σ H1 fun x H2=>∃ a C bm,x=.ref a/\H2 a=some (vb a C none)/\qW K C bm/\iJ K C f/\∀ d,D.nx σ (ax H2 a (vb a C (some d)))
end
def Gs (R:Addr->Hp->Prop):XK:=fun v _ H=>∃ C,v=.ref C/\R C H
def BM (es:Array DictEntry):Bool:=es.toList.all fun e=>match e.key with
 | .str _ _=>true
 | _=>false
structure Be (K:PySem.W.Frag) (C:Addr):Prop where
 ga:PySem.W.findIn K (.ref C) "__getattribute__" = some (some (.builtin "BaseException.__getattribute__"))
 gn:PySem.W.findIn K (.ref C) "__getattr__" = some none
 cl:PySem.W.findIn K (.ref C) "__class__" = some (some (.builtin "object.__class__"))
 cg:PySem.W.specialIn K (.builtin "object.__class__") "__get__" = some (some (.builtin "getset_descriptor.__get__"))
 ct:PySem.W.takesIn K (.builtin "object.__class__")=some true
section
variable {prog:Program} {w:World} {A:Around} {E:Value->Shared->Prop} {s:Shared} {K:PySem.W.Frag} {x C:Addr} {ox:Obj} {odo:Option Obj} {bm:List Value} {name:Str} {tk:Tok} {R:Result->Shared->Prop}
end
section
variable {K:PySem.W.Frag} {x C:Addr} {ox od:Obj} {bm:List Value}
end
structure Gm (S ch:List Addr) (h h':Heap):Prop where
 same:∀ b o,b∉S->b∉ch->h.get? b=some o->h'.get? b=some o
 slot:∀ b o,b∉ch->h.get? b=some o->∃ sl,h'.get? b=some { o with slots:=sl }
def CC (h:Heap) (x C T:Addr) (dx:Option Addr) (fl:Value):Prop:=
 ∃ oe vs oT ts,h.get? x=some oe/\oe.cls=.ref C/\oe.dict=dx/\oe.data=.fields vs/\vs[1]?=some (.ref T)/\T≠x/\h.get? T=some oT/\oT.data=.fields ts/\ts[3]?=some fl
section
variable {M:Model} {A:Around} {E:Value->Shared->Prop} {s:Shared} {base:Heap} {env:Env} {outer:List Env} {L e C T:Addr} {oe:Obj} {vs:Array Value} {dx:Option Addr} {fl:Value}
end
def En (d:Addr) (fs:List (Str×V)):Heap->Prop:=fun h=>∃ mA,h.Ns1 d mA/\∀ f,jV (fs.lookup f) (mA f)
def dO (d:Addr) (fs:List (Str×V)):HO:=.ext (En d fs)
section
variable {X:Cx} {pins:List (Addr×Obj)} {σ:L2.St} {H:Hp} {s:Shared} {a C:Addr}
end
section
variable {X:Cx} {o value:Expr} {f:Str} {ta tv:TE} {pos' pos:Pos}
def EN (K:PySem.W.Frag) (ta tv:TE) (f:Str):TS:=fun D σ H=>tv σ H fun y H1=>ta σ H1 fun x H2=>∃ a C bm,x=.ref a/\qW K C bm/\iJ K C f∧
 ((H2 a=some (vb a C none)/\∀ d,H2 d=none->d≠a->D.nx σ (ax (ax H2 a (vb a C (some d))) d (dO d [(f,y)])))∨
  ∃ d fs,H2 a=some (vb a C (some d))/\H2 d=some (dO d fs)/\fs.length≤100/\D.nx σ (ax H2 d (dO d ((f,y) :: fs))))
end
section
variable {X:Cx} {pins:List (Addr×Obj)} {σ:L2.St} {H:Hp} {s:Shared} {a C T:Addr} {dx:Option Addr} {fl:Value}
end
def GV (P:Program) (w:World):ni:=fun outer H s E e s'=>∃ (x C T:Addr) (dx:Option Addr) (H':Hp),e=.ref x/\s'.os=s.os/\AllBare s'.gens/\Un (pC outer) [] H H' s.heap s'.heap/\gD P w H' s'.heap/\s.heap.get? x=none/\s.heap.get? T=none/\H' x=none/\H' T=none∧
 CC s'.heap x C T dx .none/\E (.ref C) dx H'
section
variable {P:Program} {w:World} {K:PySem.W.Frag} {mg:Str->Option Value} {base:Heap} {N:List Str} {qual:Str} {scope:Scope} {f:Addr} {cd:Value} {A:Around} {outer:List Env} {s:Shared} {H:Hp} {E:XK}
def Ec (X:Cx) (E:XK):Prop:=∀ (pins:List (Addr×Obj)) (σ:L2.St) (H:Hp) (s:Shared) (a C:Addr) (dx:Option Addr) (oe:Obj) (vs:Array Value),L2.Inv X pins σ H s->H a=none->ku X pins a->s.heap.get? a=some oe->oe.data=.fields vs→
 vs[1]?=some .none->oe.cls=.ref C->oe.dict=dx->E (.ref C) dx H->X.xe (.ref a) s
end
section
variable {X:Cx} {k:Nat} {f C:Addr} {fd:FuncData} {ps:List Str} {sp:Sp} {bm:List Value}
def CV (C:Addr) (sp:Sp) (E:XK) (t:TA):TS:=fun _ σ H=>t σ H fun vs H1=>vs.length≤sizeLine/\∀ a,H1 a=none->sp (.ref a :: vs) (ax H1 a (vb a C none)) (fun v H2=>v=.non/\∃ dx,H2 a=some (vb a C dx)/\E (.ref C) dx (yG H2 a)) E0
end
abbrev RX:=Addr->Option Addr->Hp->Prop
def El (X:Cx) (pins:List (Addr×Obj)) (R:RX):Value->Shared->Prop:=fun e s=>∃ (x C T:Addr) (dx:Option Addr) (H:Hp),e=.ref x/\L2.Inv X pins (vL X.N) H s/\H x=none/\ku X pins x/\H T=none/\ku X pins T/\CC s.heap x C T dx .none/\R C dx H
def DW (X:Cx) (pins:List (Addr×Obj)) (R:RX):Cx:={ X with pn:=X.pn++pins,xe:=El X pins R }
section
variable {X:Cx} {pins pins':List (Addr×Obj)} {σ:L2.St} {H:Hp} {s:Shared} {R:RX} {e:Addr}
def Gu (R:RX):XK:=fun v dx H=>∃ C,v=.ref C/\R C dx H
end
def Gr (a C d:Addr):Heap->Prop:=fun h=>∃ oe,h.get? a=some oe/\oe.cls=.ref C/\oe.dict=some d/\PySem.W.notCls oe=true
def D3 (a C d:Addr):HO:=.ext (Gr a C d)
def DZ (i:Nat) (D:iq):iq:={ nx:=fun σ H=>D.nx (σ.set i none) H,rt:=D.rt,bk:=fun σ H=>D.bk (σ.set i none) H,ct:=fun σ H=>D.ct (σ.set i none) H }
def Ew (N:List Str) (R:RX) (Ok:Addr->Prop) (tb th:TS):TS:=fun D σ H=>tb D σ H/\∀ C dx H',R C dx H'->Ok C/\th D (vL N) H'
def Dt (N:List Str) (i:Nat) (R:RX) (Ok:Addr->Prop) (tb th:TS):TS:=fun D σ H=>tb D σ H/\∀ C dx H',R C dx H'->Ok C/\∃ d,dx=some d/\∀ a,H' a=none->th (DZ i D) ((vL N).set i (some (.ref a))) (ax H' a (D3 a C d))
section
variable {X:Cx} {R:RX} {body:List Stmt} {b₀:Stmt} {suite:List Stmt} {x:Str} {p hpos pos:Pos} {u:Value} {tb th:TS}
end
def FZ (K:PySem.W.Frag):List V->Hp->VK->Prop:=fun xs H Q=>∃ (a C d:Addr) (fs:List (Str×V)) (bm:List Value) (c:V) (b:Bool),xs=[.ref a,c]/\H a=some (D3 a C d)/\H d=some (dO d fs)/\qW K C bm/\Be K C∧
 ((∃ n,c=.ty n/\PySem.W.kitOne K (.ref C) (.type n)=some b)∨(∃ D,c=.ref D/\PySem.W.kitOne K (.ref C) (.ref D)=some b)∨
  ∃ (p:Addr) (cs:List Addr),c=.ref p/\H p=some (.tup (cs.map V.ref))/\PySem.W.kitAny K (.ref C) (cs.map Value.ref)=some b)/\Q (.bl b) H
def yK (H:Hp) (a C d:Addr):Prop:=H a=some (D3 a C d)∨H a=some (vb a C (some d))
section
variable {X:Cx} {pins:List (Addr×Obj)} {σ:L2.St} {H:Hp} {s:Shared} {a C d:Addr} {fs:List (Str×V)}
end
def EF (K:PySem.W.Frag) (ta:TE) (f:Str):TE:=fun σ H Q=>ta σ H fun x H1=>∃ a C d fs bm v,x=.ref a/\yK H1 a C d/\H1 d=some (dO d fs)/\qW K C bm/\Be K C/\iJ K C f/\fs.lookup f=some v/\Q v H1
def FY (K:PySem.W.Frag):List V->Hp->VK->Prop:=fun xs H Q=>∃ (a C d:Addr) (fs:List (Str×V)) (bm:List Value) (c:V) (b:Bool),xs=[.ref a,c]/\yK H a C d/\H d=some (dO d fs)/\qW K C bm/\Be K C∧
 ((∃ n,c=.ty n/\PySem.W.kitOne K (.ref C) (.type n)=some b)∨(∃ D,c=.ref D/\PySem.W.kitOne K (.ref C) (.ref D)=some b)∨
  ∃ (p:Addr) (cs:List Addr),c=.ref p/\H p=some (.tup (cs.map V.ref))/\PySem.W.kitAny K (.ref C) (cs.map Value.ref)=some b)/\Q (.bl b) H
def Dw (C:Addr) (sp:Sp) (t:TA):TE:=fun σ H Q=>t σ H fun vs H1=>vs.length≤sizeLine/\∀ a,H1 a=none->sp (.ref a :: vs) (ax H1 a (vb a C none)) (fun v H2=>v=.non/\Q (.ref a) H2) E0
theorem kB {X:Cx} {pins:List (Addr×Obj)} {σ:L2.St} {H:Hp} {s:Shared} {h':Heap} {t':Nat} {fp:List Addr} (I:Inv X pins σ H s)
  (k:∀ b o,b∉fp->s.heap.get? b=some o->h'.get? b=some o) (hf:∀ b∈fp,e7 X pins H b):Inv X pins σ H { s with heap:=h',toks:=t' }:=by
 have off:∀ b u,H b=some u->b∉fp:=fun b u e z=>by rw [(hf b z).1] at e;cases e
 refine I.step (g':=s.gens) (d':=s.drawn) (ch:=fp) (fun b hb=>?_) (fun b o _ _ hc e _=>k b o hc e) (fun b o _ _ hc e _=>⟨o.slots,k b o hc e⟩) (fun _ _ _ _ n=>n)
  (fun b o hc e=>⟨o,k b o hc e⟩) (fun _ _ e=>e) (fun _ _ _ e=>e) (fun b ps e=>⟨#[],by rw [e];simp⟩) (fun m hm=>?_) (fun b u e=>?_) I.bare
 ·obtain⟨_,f1,_,f3,f4,f5⟩:=hf b hb
  exact⟨f3,f1,f4,f5⟩
 ·obtain⟨o,es,ep,ho,r⟩:=hm
  exact⟨o,es,ep,k _ o (fun z=>(hf _ z).2.1 rfl) ho,r⟩
 ·refine (I.hok b u e).stay (fun c v hc q=>k c v ?_ q) (fun _ q=>q) fun _ _ q=>q
  rcases hc with z | z
  ·rw [z];exact off b u e
  ·exact off c _ z
section
variable {prog:Program} {w:World} {A:Around} {E:Value->Shared->Prop} {s:Shared}
theorem ib {j t:Addr} {k:Nat} {ys:Array Value} {v:Value} {G:Value->Shared->Prop} (a:s.heap.IsTupleIter j t k) (b:s.heap.IsTuple t ys) (c:ys[k]?=some v)
  (g:∀ h',h'.IsTupleIter j t (k+1)->Heap.SameBut j s.heap h'->G v { s with heap:=h' }):wpAny (model prog w) A (Builtin.SmallTypes.nextOf (.ref j)) G E s:=by
 obtain⟨o,e1,e2,e3⟩:=id a
 obtain⟨q,f1,_,n,f2⟩:=b
 unfold Builtin.SmallTypes.nextOf
 refine wpAny_bind (wpAny_callSpecial?_slot (name:=Str.ofString "__next__") a.typeIs F.slot_tuple_iterator_next
  (wpAny_call_entry F.slot_tuple_iterator_next a.typeIs F.entry_tuple_iterator_next ?_ (F.args_tuple_iterator_next_1 _)))
 show wpAny (model prog w) _ (field (.ref j) 0 >>= _) _ _ s
 refine wpAny_bind (wpAny_field e1 e3 (x:=.ref t) rfl ?_)
 show wpAny (model prog w) _ (if (Value.ref t == Value.none)=true then _ else _) _ _ s
 rw [if_neg (fun z=>Bool.noConfusion z:¬ ((Value.ref t == Value.none)=true))]
 show wpAny (model prog w) _ (field (.ref j) 1 >>= _) _ _ s
 refine wpAny_bind (wpAny_field e1 e3 (x:=.int k 0) rfl ?_)
 show wpAny (model prog w) _ (seqItems? (.ref t) >>= _) _ _ s
 refine wpAny_bind (wpAny_seqItems f1 f2 ?_)
 simp only [c,Int.toNat_natCast]
 refine wpAny_bind (wpAny_setField e1 e3 (by simp) (wpAny_pure ⟨v,rfl,wpAny_pure (g _ ?_ (Heap.SameBut.update ..))⟩))
 refine⟨_,Heap.get?_update_self _ e1 (Obj.isFreed_of_fields (Obj.data_mapFields e3 _)),(Obj.cls_mapFields ..).trans e2,?_⟩
 rw [Obj.data_mapFields e3];simp [rawInt]
theorem nS {j t:Addr} {k:Nat} {ys:Array Value} {G:Value->Shared->Prop} (hh:A.handled=none) (a:s.heap.IsTupleIter j t k) (b:s.heap.IsTuple t ys) (c:ys[k]?=none)
  (g:∀ h' e,Heap.ExtBut j s.heap h'->(∃ o,h'.get? e=some o/\o.cls=.type "StopIteration")->E (.ref e) { s with heap:=h' }):wpAny (model prog w) A (Builtin.SmallTypes.nextOf (.ref j)) G E s:=by
 obtain⟨o,e1,e2,e3⟩:=id a
 obtain⟨q,f1,_,n,f2⟩:=b
 unfold Builtin.SmallTypes.nextOf
 refine wpAny_bind (wpAny_callSpecial?_slot (name:=Str.ofString "__next__") a.typeIs F.slot_tuple_iterator_next
  (wpAny_call_entry F.slot_tuple_iterator_next a.typeIs F.entry_tuple_iterator_next ?_ (F.args_tuple_iterator_next_1 _)))
 show wpAny (model prog w) _ (field (.ref j) 0 >>= _) _ _ s
 refine wpAny_bind (wpAny_field e1 e3 (x:=.ref t) rfl ?_)
 show wpAny (model prog w) _ (if (Value.ref t == Value.none)=true then _ else _) _ _ s
 rw [if_neg (fun z=>Bool.noConfusion z:¬ ((Value.ref t == Value.none)=true))]
 show wpAny (model prog w) _ (field (.ref j) 1 >>= _) _ _ s
 refine wpAny_bind (wpAny_field e1 e3 (x:=.int k 0) rfl ?_)
 show wpAny (model prog w) _ (seqItems? (.ref t) >>= _) _ _ s
 refine wpAny_bind (wpAny_seqItems f1 f2 ?_)
 simp only [c,Int.toNat_natCast]
 refine wpAny_bind (wpAny_rule (wpAny_bind (wpAny_setField e1 e3 (by simp) ?_)))
 show wpAny (model prog w) _ (newExc (.type "StopIteration") [] >>= _) _ _ _
 refine wpAny_bind ?_
 simp only [newTuple,newExc]
 refine wpAny_bind (wpAny_newObj_type ?_ (by size_fits))
 refine wpAny_bind (m:=firstArgMember _ _) (wpAny_of_eq (a:=Value.none) (by first | rfl | (simp only [firstArgMember] <;> rfl)) ?_)
 refine wpAny_newObj_type ?_ (by size_fits)
 simp only [raiseNew]
 refine wpAny_bind (wpAny_handled ?_)
 first | rw [hh] | rw [show A.in1.handled=none from hh]
 refine wpAny_bind (wpAny_pure (wpAny_throw (g _ _ (((Heap.SameBut.update ..).extBut.push _).push _) ⟨_,Heap.get?_push_size _ rfl,rfl⟩)))
structure xM (z TI TO i1 i2:Addr):Prop where
 a1:TI≠z
 a2:TO≠z
 a3:i1≠z
 a4:i2≠z
 a5:TI≠TO
 a6:TI≠i1
 a7:TI≠i2
 a8:TO≠i1
 a9:TO≠i2
 b1:i1≠i2
theorem rg {z TI TO i1 i2:Addr} {x y a b:Value} {A1 A2:Heap->Prop} {G:Value->Shared->Prop} (D:xM z TI TO i1 i2)
  (hz:IsZip s.heap z TI TO .none) (hI:IsPair s.heap TI (.ref i1) (.ref i2)) (hO:IsPair s.heap TO a b)
  (N1:∀ (s':Shared) (G:Value->Shared->Prop) (E:Value->Shared->Prop),(∀ c o,c≠z->s.heap.get? c=some o->s'.heap.get? c=some o)->(∀ h',A1 h'->Heap.SameBut i1 s'.heap h'->G x { s' with heap:=h' })->wpAny (model prog w) A (Builtin.SmallTypes.nextOf (.ref i1)) G E s')
  (N2:∀ (s':Shared) (G:Value->Shared->Prop) (E:Value->Shared->Prop),(∀ c o,c≠z->c≠TO->c≠i1->s.heap.get? c=some o->s'.heap.get? c=some o)->(∀ h',A2 h'->Heap.SameBut i2 s'.heap h'->G y { s' with heap:=h' })->wpAny (model prog w) A (Builtin.SmallTypes.nextOf (.ref i2)) G E s')
  (l1:i1 < s.heap.objs.size) (l2:i2 < s.heap.objs.size)
  (g:∀ h₁ h₂ h',A1 h₁->A2 h₂->(∀ c o,c≠z->c≠TO->c≠i2->h₁.get? c=some o->h'.get? c=some o)->(∀ c o,c≠z->c≠TO->h₂.get? c=some o->h'.get? c=some o)→
   IsZip h' z TI TO (rawInt s.heap.objs.size)->IsPair h' TO x y->IsPair h' s.heap.objs.size x y->h'.objs.size=s.heap.objs.size+1→
   (∀ c o,c∉[z,TO,i1,i2]->s.heap.get? c=some o->h'.get? c=some o)->G (.ref s.heap.objs.size) { s with heap:=h' }) :
  wpAny (model prog w) A (Builtin.«zip.__next__» ⟨[.ref z],[]⟩) (fun fin s'=>∃ v,fin=.done (.ret v)/\G v s') E s:=by
 show wpAny (model prog w) _ (field (.ref z) 2 >>= _) _ _ _
 refine wpAny_bind (wpAny_field hz rfl (x:=.bool false) rfl ?_)
 show wpAny (model prog w) _ (field (.ref z) 3 >>= _) _ _ _
 refine wpAny_bind (wpAny_field hz rfl (x:=.ref TI) rfl ?_)
 refine wpAny_bind (wpAny_seqItems hI rfl ?_)
 show wpAny (model prog w) _ (Builtin.SmallTypes.ownedTupleIsFree (.ref z) >>= _) _ _ _
 refine wpAny_bind ?_
 unfold Builtin.SmallTypes.ownedTupleIsFree
 refine wpAny_bind (wpAny_field hz rfl (x:=.none) rfl (wpAny_pure ?_))
 simp only [if_true]
 refine wpAny_bind (wpAny_rule ?_)
 refine wpAny_bind (wpAny_field hz rfl (x:=.ref TO) rfl ?_)
 refine wpAny_bind (wpAny_setField_rec hz (by simp) fun g1 z1 s1=>?_)
 replace z1:IsZip g1 z TI TO .ellipsis:=z1
 refine wpAny_bind ?_
 simp only [List.zipIdx_nil,List.zipIdx_cons,List.forIn_nil,List.forIn_cons]
 refine wpAny_bind (wpAny_bind (wpAny_onRaise ?_))
 show wpAny (model prog w) _ (Builtin.SmallTypes.nextOf (.ref i1) >>= _) _ _ _
 refine wpAny_bind (N1 _ _ _ (fun c o n e=>s1.extBut c o n e) fun g2 q1 s2=>wpAny_pure ?_)
 have O2:IsPair g2 TO a b:=s2.extBut _ _ D.a8 (s1.extBut _ _ D.a2 hO)
 refine wpAny_bind (wpAny_seqItems O2 rfl ?_)
 refine wpAny_bind (wpAny_updateSeq_pair O2 fun g3 O3 s3=>?_)
 replace O3:IsPair g3 TO x b:=O3
 refine wpAny_bind (wpAny_letGo (wpAny_pure ?_))
 refine wpAny_bind (wpAny_bind (wpAny_onRaise ?_))
 show wpAny (model prog w) _ (Builtin.SmallTypes.nextOf (.ref i2) >>= _) _ _ _
 refine wpAny_bind (N2 _ _ _ (fun c o n m k e=>s3.extBut _ _ m (s2.extBut _ _ k (s1.extBut c o n e))) fun g4 q2 s4=>wpAny_pure ?_)
 have O4:IsPair g4 TO x b:=s4.extBut _ _ D.a9 O3
 refine wpAny_bind (wpAny_seqItems O4 rfl ?_)
 refine wpAny_bind (wpAny_updateSeq_pair O4 fun g5 O5 s5=>?_)
 replace O5:IsPair g5 TO x y:=O5
 refine wpAny_bind (wpAny_letGo (wpAny_pure (wpAny_pure ?_)))
 refine wpAny_bind (wpAny_seqItems O5 rfl ?_)
 refine wpAny_bind (wpAny_newTuple ?_)
 have sz:g5.objs.size=s.heap.objs.size:=by rw [s5.1,s4.1,s3.1,s2.1,s1.1]
 have z5:IsZip g5 z TI TO .ellipsis:=s5.extBut _ _ D.a2.symm (s4.extBut _ _ D.a4.symm (s3.extBut _ _ D.a2.symm (s2.extBut _ _ D.a3.symm z1)))
 have zl:z < g5.objs.size:=Heap.lt_size z5
 show wpAny (model prog w) _ (Builtin.SmallTypes.ownedTupleHandOut (.ref z) (.ref g5.objs.size) >>= _) _ _ _
 refine wpAny_bind ?_
 unfold Builtin.SmallTypes.ownedTupleHandOut
 have z6:IsZip (g5.push { cls:=.type "tuple", data:=.seq #[x,y] }) z TI TO .ellipsis:=Heap.get?_push_of_some _ z5
 refine wpAny_bind (wpAny_setField_rec z6 (by simp) fun g7 z7 s7=>?_)
 replace z7:IsZip g7 z TI TO (rawInt g5.objs.size):=z7
 refine wpAny_setField_rec z7 (by simp) fun g8 z8 s8=>?_
 replace z8:IsZip g8 z TI TO (rawInt g5.objs.size):=z8
 have up:∀ c o,c≠z->g5.get? c=some o->g8.get? c=some o:=fun c o n e=>s8.extBut _ _ n (s7.extBut _ _ n (Heap.get?_push_of_some _ e))
 have t8:IsPair g8 g5.objs.size x y:=s8.extBut _ _ (Nat.ne_of_gt zl) (s7.extBut _ _ (Nat.ne_of_gt zl) (Heap.get?_push_size _ rfl))
 have sz8:g8.objs.size=g5.objs.size+1:=by rw [s8.1,s7.1,Heap.size_push]
 rw [sz] at z8 t8 sz8
 refine wpAny_pure ⟨_,rfl,?_⟩
 show G (.ref g5.objs.size) _
 rw [sz]
 refine g g2 g4 g8 q1 q2 (fun c o n m k e=>up c o n (s5.extBut _ _ m (s4.extBut _ _ k (s3.extBut _ _ m e)))) (fun c o n m e=>up c o n (s5.extBut _ _ m e)) z8 (up _ _ D.a2 O5) t8 sz8 fun c o n e=>?_
 simp only [List.mem_cons,List.not_mem_nil,or_false,not_or] at n
 exact up c o n.1 (s5.extBut _ _ n.2.1 (s4.extBut _ _ n.2.2.2 (s3.extBut _ _ n.2.1 (s2.extBut _ _ n.2.2.1 (s1.extBut _ _ n.1 e)))))
theorem re {z TI TO i1 i2:Addr} {a b:Value} {G:Fin->Shared->Prop} (D:xM z TI TO i1 i2)
  (hz:IsZip s.heap z TI TO .none) (hI:IsPair s.heap TI (.ref i1) (.ref i2)) (hO:IsPair s.heap TO a b)
  (N:(∀ (s':Shared) (G:Value->Shared->Prop) (E:Value->Shared->Prop),(∀ c o,c≠z->s.heap.get? c=some o->s'.heap.get? c=some o)→
    (∀ h' e,Heap.ExtBut i1 s'.heap h'->(∃ o,h'.get? e=some o/\o.cls=.type "StopIteration")->E (.ref e) { s' with heap:=h' })->wpAny (model prog w) A (Builtin.SmallTypes.nextOf (.ref i1)) G E s')∨
   ((∃ x,∀ (s':Shared) (G:Value->Shared->Prop) (E:Value->Shared->Prop),(∀ c o,c≠z->s.heap.get? c=some o->s'.heap.get? c=some o)->(∀ h',Heap.SameBut i1 s'.heap h'->G x { s' with heap:=h' })->wpAny (model prog w) A (Builtin.SmallTypes.nextOf (.ref i1)) G E s')∧
    ∀ (s':Shared) (G:Value->Shared->Prop) (E:Value->Shared->Prop),(∀ c o,c≠z->c≠TO->c≠i1->s.heap.get? c=some o->s'.heap.get? c=some o)→
    (∀ h' e,Heap.ExtBut i2 s'.heap h'->(∃ o,h'.get? e=some o/\o.cls=.type "StopIteration")->E (.ref e) { s' with heap:=h' })->wpAny (model prog w) A (Builtin.SmallTypes.nextOf (.ref i2)) G E s'))
  (g:∀ h' e,(∀ c o,c∉[z,TO,i1,i2]->s.heap.get? c=some o->h'.get? c=some o)->(∃ o,h'.get? e=some o/\o.cls=.type "StopIteration")->E (.ref e) { s with heap:=h' }) :
  wpAny (model prog w) A (Builtin.«zip.__next__» ⟨[.ref z],[]⟩) G E s:=by
 show wpAny (model prog w) _ (field (.ref z) 2 >>= _) _ _ _
 refine wpAny_bind (wpAny_field hz rfl (x:=.bool false) rfl ?_)
 show wpAny (model prog w) _ (field (.ref z) 3 >>= _) _ _ _
 refine wpAny_bind (wpAny_field hz rfl (x:=.ref TI) rfl ?_)
 refine wpAny_bind (wpAny_seqItems hI rfl ?_)
 show wpAny (model prog w) _ (Builtin.SmallTypes.ownedTupleIsFree (.ref z) >>= _) _ _ _
 refine wpAny_bind ?_
 unfold Builtin.SmallTypes.ownedTupleIsFree
 refine wpAny_bind (wpAny_field hz rfl (x:=.none) rfl (wpAny_pure ?_))
 simp only [if_true]
 refine wpAny_bind (wpAny_rule ?_)
 refine wpAny_bind (wpAny_field hz rfl (x:=.ref TO) rfl ?_)
 refine wpAny_bind (wpAny_setField_rec hz (by simp) fun g1 z1 s1=>?_)
 replace z1:IsZip g1 z TI TO .ellipsis:=z1
 refine wpAny_bind ?_
 simp only [List.zipIdx_nil,List.zipIdx_cons,List.forIn_nil,List.forIn_cons]
 refine wpAny_bind (wpAny_bind (wpAny_onRaise ?_))
 show wpAny (model prog w) _ (Builtin.SmallTypes.nextOf (.ref i1) >>= _) _ _ _
 rcases N with N | ⟨⟨x,N⟩,N'⟩
 ·refine wpAny_bind (N _ _ _ (fun c o n e=>s1.extBut c o n e) fun g2 e s2 he=>?_)
  obtain⟨oe,he,hc⟩:=he
  have z2:IsZip g2 z TI TO .ellipsis:=s2 _ _ D.a3.symm z1
  have ne:e≠z:=fun q=>by subst q;rw [z2] at he;cases he;simp at hc
  refine wpAny_setField_rec z2 (by simp) fun g3 _ s3=>g g3 e (fun c o n q=>?_) ⟨oe,s3.extBut _ _ ne he,hc⟩
  simp only [List.mem_cons,List.not_mem_nil,or_false,not_or] at n
  exact s3.extBut _ _ n.1 (s2 _ _ n.2.2.1 (s1.extBut _ _ n.1 q))
 ·refine wpAny_bind (N _ _ _ (fun c o n e=>s1.extBut c o n e) fun g2 s2=>wpAny_pure ?_)
  have O2:IsPair g2 TO a b:=s2.extBut _ _ D.a8 (s1.extBut _ _ D.a2 hO)
  refine wpAny_bind (wpAny_seqItems O2 rfl ?_)
  refine wpAny_bind (wpAny_updateSeq_pair O2 fun g3 O3 s3=>?_)
  refine wpAny_bind (wpAny_letGo (wpAny_pure ?_))
  refine wpAny_bind (wpAny_bind (wpAny_onRaise ?_))
  show wpAny (model prog w) _ (Builtin.SmallTypes.nextOf (.ref i2) >>= _) _ _ _
  refine wpAny_bind (N' _ _ _ (fun c o n m k e=>s3.extBut _ _ m (s2.extBut _ _ k (s1.extBut c o n e))) fun g4 e s4 he=>?_)
  obtain⟨oe,he,hc⟩:=he
  have z4:IsZip g4 z TI TO .ellipsis:=s4 _ _ D.a4.symm (s3.extBut _ _ D.a2.symm (s2.extBut _ _ D.a3.symm z1))
  have ne:e≠z:=fun q=>by subst q;rw [z4] at he;cases he;simp at hc
  refine wpAny_setField_rec z4 (by simp) fun g5 _ s5=>g g5 e (fun c o n q=>?_) ⟨oe,s5.extBut _ _ ne he,hc⟩
  simp only [List.mem_cons,List.not_mem_nil,or_false,not_or] at n
  exact s5.extBut _ _ n.1 (s4 _ _ n.2.2.2 (s3.extBut _ _ n.2.1 (s2.extBut _ _ n.2.2.1 (s1.extBut _ _ n.1 q))))
end
theorem ky {X:Cx} {pins:List (Addr×Obj)} {σ:L2.St} {H:Hp} {s:Shared} {h':Heap} {t':Nat} {fp:List Addr} {p:Addr} {v:HO} (I:Inv X pins σ H s)
  (k:∀ b o,b∉fp->s.heap.get? b=some o->h'.get? b=some o) (hf:∀ b∈fp,e7 X pins H b) (hp:s.heap.objs.size≤p) (new:bJ X.prog X.w (ax H p v) h' p v) :
  Inv X pins σ (ax H p v) { s with heap:=h',toks:=t' }:=by
 have off:∀ b u,H b=some u->b∉fp:=fun b u e z=>by rw [(hf b z).1] at e;cases e
 have hn:H p=none:=I.hok.fresh hp
 have old:∀ b u,H b=some u->ax H p v b=some u:=fun b u e=>by rw [aD (aB e hn)];exact e
 refine I.step (g':=s.gens) (d':=s.drawn) (ch:=fp) (fun b hb=>?_) (fun b o _ _ hc e _=>k b o hc e) (fun b o _ _ hc e _=>⟨o.slots,k b o hc e⟩) (fun b o _ e n=>?_)
  (fun b o hc e=>⟨o,k b o hc e⟩) (fun b xs e=>old b _ e) (fun b o u e=>old b _ e) (fun b ps e=>⟨#[],by rw [old b _ e];simp⟩) (fun m hm=>?_) (fun b u e=>?_) I.bare
 ·obtain⟨_,f1,_,f3,f4,f5⟩:=hf b hb
  exact⟨f3,f1,f4,f5⟩
 ·rw [aD (Nat.ne_of_lt (Nat.lt_of_lt_of_le (Heap.lt_size e) hp))];exact n
 ·obtain⟨o,es,ep,ho,r⟩:=hm
  exact⟨o,es,ep,k _ o (fun z=>(hf _ z).2.1 rfl) ho,r⟩
 ·by_cases hb:b=p
  ·subst hb;rw [ah] at e;cases e;exact new
  ·rw [aD hb] at e
   refine (I.hok b u e).stay (fun c v hc q=>k c v ?_ q) (fun c q=>old c _ q) fun c xs q=>old c _ q
   rcases hc with z | z
   ·rw [z];exact off b u e
   ·exact off c _ z
theorem fD {X:Cx} {pins:List (Addr×Obj)} {σ:L2.St} {H:Hp} {s:Shared} {a b:Addr} {xs:List V} (I:Inv X pins σ H s) (h:bh X.K H a xs) (f:e7 X pins H b):a≠b:=fun z=>by
 subst z
 rcases h with (h | ⟨o,h⟩) | ⟨o,its,n,hk,_⟩
 ·rw [f.1] at h;cases h
 ·rw [f.1] at h;cases h
 ·have e:=I.ok.mod.kin a o hk
  rcases f.2.2.2.1 with z | z
  ·exact I.ok.noex a o e z
  ·rw [(I.ok.bs a o e).1] at z;cases z
def CP (K:PySem.W.Frag) (a b:Addr):It:=
 ⟨fun i H=>∃ xs ys x y,bh K H a xs/\bh K H b ys/\xs[i]?=some x/\ys[i]?=some y,
  fun i H v H'=>∃ p x y,H p=none/\v=.ref p/\H'=ax H p (.tup [x,y])/\(∀ xs,bh K H a xs->xs[i]?=some x)/\∀ ys,bh K H b ys->ys[i]?=some y,
  fun i H=>∃ xs ys,bh K H a xs/\bh K H b ys/\(xs.length≤i∨ys.length≤i)⟩
def Gc (z TI TO i1 i2 a b:Addr) (i:Nat) (h:Heap):Prop:=IsZip h z TI TO .none/\IsPair h TI (.ref i1) (.ref i2)/\(∃ u v,IsPair h TO u v)/\h.IsTupleIter i1 a i/\h.IsTupleIter i2 b i
theorem bi {h h':Heap} {i a:Addr} {n:Nat} (x:h.IsTupleIter i a n) (k:∀ o,h.get? i=some o->h'.get? i=some o):h'.IsTupleIter i a n:=let ⟨o,e,r⟩:=x;⟨o,k o e,r⟩
theorem fS {h h':Heap} {a:Addr} {ys:Array Value} (x:h.IsTuple a ys) (k:∀ o,h.get? a=some o->h'.get? a=some o):h'.IsTuple a ys:=let ⟨o,e,r⟩:=x;⟨o,k o e,r⟩
theorem cQ {h:Heap} {i a:Addr} {n:Nat} (x:h.IsTupleIter i a n):i < h.objs.size:=let ⟨_,e,_⟩:=x;Heap.lt_size e
theorem rD {P:Program} {w:World} {K:PySem.W.Frag} {elts:List Expr} {x1} {pos:Pos} {z TI TO i1 i2 a b:Addr} (D:xM z TI TO i1 i2) :
  oq P w K (.Tuple elts x1 pos) (CP K a b) [z,TI,TO,i1,i2] z (Gc z TI TO i1 i2 a b) where
 mem:=by simp
 obj:=fun i h st c hc=>by
  obtain⟨h1,h2,⟨u,v,h3⟩,⟨o4,h4,c4,d4⟩,⟨o5,h5,c5,d5⟩⟩:=st
  simp only [List.mem_cons,List.not_mem_nil,or_false] at hc
  rcases hc with rfl | rfl | rfl | rfl | rfl
  ·exact⟨_,h1,fun v q=>by cases (show Data.fields _=Data.cell v from q)⟩
  ·exact⟨_,h2,fun v q=>by cases (show Data.seq _ _=Data.cell v from q)⟩
  ·exact⟨_,h3,fun v q=>by cases (show Data.seq _ _=Data.cell v from q)⟩
  ·exact⟨o4,h4,fun v q=>by rw [d4] at q;cases q⟩
  ·exact⟨o5,h5,fun v q=>by rw [d5] at q;cases q⟩
 keep:=fun i h h' st k=>by
  obtain⟨h1,h2,⟨u,v,h3⟩,h4,h5⟩:=st
  exact⟨k z (by simp) _ h1,k TI (by simp) _ h2,⟨u,v,k TO (by simp) _ h3⟩,bi h4 fun o e=>k i1 (by simp) o e,bi h5 fun o e=>k i2 (by simp) o e⟩
 item:=by
  intro X hP hw hK hc i pins s σ H E I hf st hg
  subst hP hw hK
  obtain⟨xs,ys,x,y,q1,q2,hx,hy⟩:=hg
  obtain⟨its,rv,p1,z1⟩:=I.tuple q1
  obtain⟨jts,rw',p2,z2⟩:=I.tuple q2
  obtain⟨u,hu,ru⟩:=rv.get hx
  obtain⟨v,hv,rv2⟩:=rw'.get hy
  have off1:∀ c∈[z,TI,TO,i1,i2],a≠c:=fun c hc=>fD I q1 (hf c hc)
  have off2:∀ c∈[z,TI,TO,i1,i2],b≠c:=fun c hc=>fD I q2 (hf c hc)
  obtain⟨h1,h2,⟨o1,o2,h3⟩,h4,h5⟩:=st
  have hT:s.TypeIs (.ref z) "zip" := ⟨_,h1,rfl⟩
  unfold pyNext
  refine wpAny_bind (wpAny_attempt (wpAny_callSpecial?_slot (name:=Str.ofString "__next__") hT F.slot_zip_next
   (wpAny_call_entry F.slot_zip_next hT F.entry_zip_next ?_ (F.args_zip_next_1 _))))
  refine rg (x:=u) (y:=v) (A1:=fun h=>h.IsTupleIter i1 a (i+1)) (A2:=fun h=>h.IsTupleIter i2 b (i+1)) D h1 h2 h3 ?_ ?_ (cQ h4) (cQ h5) ?_
  ·intro s' G E' k g
   exact ib (bi h4 fun o e=>k _ o D.a3 e) (fS (show s.heap.IsTuple a its.toArray from p1) fun o e=>k _ o (off1 z (by simp)) e) (by simpa using hu) g
  ·intro s' G E' k g
   exact ib (bi h5 fun o e=>k _ o D.a4 (Ne.symm D.a9) (Ne.symm D.b1) e) (fS (show s.heap.IsTuple b jts.toArray from p2) fun o e=>k _ o (off2 z (by simp)) (off2 TO (by simp)) (off2 i1 (by simp)) e) (by simpa using hv) g
  ·intro g1 g2 h' a1 a2 k1 k2 zz po pn sz kk
   refine wpAny_pure ⟨_,rfl,?_⟩
   refine wpAny_letOwnedTupleGo_zip zz fun h'' z3 sb=>?_
   have nz:s.heap.objs.size≠z:=Nat.ne_of_gt (Heap.lt_size h1)
   have hp:H s.heap.objs.size=none:=I.fresh
   have P:bJ X.prog X.w (ax H s.heap.objs.size (.tup [x,y])) h'' s.heap.objs.size (.tup [x,y]):=
    ⟨by show 2≤sizeLine;decide,[u,v],.cons ru (.cons rv2 .nil),⟨_,sb.extBut _ _ nz pn,rfl,_,rfl⟩⟩
   have I2:Inv X pins σ (ax H s.heap.objs.size (.tup [x,y])) { s with heap:=h'',toks:=s.toks }:=ky I (fun c o n e=>by
    have n':c∉[z,TO,i1,i2]:=fun q=>n (by
     simp only [List.mem_cons,List.not_mem_nil,or_false] at q ⊢
     rcases q with q | q | q | q <;> simp [q])
    exact sb.extBut _ _ (fun q=>n (by simp [q])) (kk c o n' e)) hf (Nat.le_refl _) P
   refine⟨.ref s.heap.objs.size,_,I2,rfl,⟨_,x,y,hp,rfl,rfl,fun zs hz=>by rw [I.tuple_inj hz q1];exact hx,fun zs hz=>by rw [I.tuple_inj hz q2];exact hy⟩,⟨z3,?_,⟨u,v,?_⟩,?_,?_⟩,fun c hc=>?_⟩
   ·refine sb.extBut _ _ D.a1 (kk TI _ ?_ h2)
    have:=D.a1;have:=D.a5;have:=D.a6;have:=D.a7
    simp only [List.mem_cons,List.not_mem_nil,or_false,not_or]
    exact⟨D.a1,D.a5,D.a6,D.a7⟩
   ·exact sb.extBut _ _ D.a2 po
   ·exact bi a1 fun o e=>sb.extBut _ _ D.a3 (k1 _ o D.a3 (Ne.symm D.a8) D.b1 e)
   ·exact bi a2 fun o e=>sb.extBut _ _ D.a4 (k2 _ o D.a4 (Ne.symm D.a9) e)
   ·have lt:c < s.heap.objs.size:=by
     simp only [List.mem_cons,List.not_mem_nil,or_false] at hc
     rcases hc with rfl | rfl | rfl | rfl | rfl
     ·exact Heap.lt_size h1
     ·exact Heap.lt_size h2
     ·exact Heap.lt_size h3
     ·exact cQ h4
     ·exact cQ h5
    rw [aD (Nat.ne_of_lt lt)]
    exact (hf c hc).1
 done:=by
  intro X hP hw hK hc i pins s σ H E I hf st hg
  subst hP hw hK
  obtain⟨xs,ys,q1,q2,hd⟩:=hg
  obtain⟨its,rv,p1,z1⟩:=I.tuple q1
  obtain⟨jts,rw',p2,z2⟩:=I.tuple q2
  have l1:=rv.length
  have l2:=rw'.length
  have off1:∀ c∈[z,TI,TO,i1,i2],a≠c:=fun c hc=>fD I q1 (hf c hc)
  have off2:∀ c∈[z,TI,TO,i1,i2],b≠c:=fun c hc=>fD I q2 (hf c hc)
  obtain⟨h1,h2,⟨o1,o2,h3⟩,h4,h5⟩:=st
  have hT:s.TypeIs (.ref z) "zip" := ⟨_,h1,rfl⟩
  have hh:X.A.in1.handled=none:=I.ok.hd hc
  unfold pyNext
  refine wpAny_bind (wpAny_attempt (wpAny_callSpecial?_slot (name:=Str.ofString "__next__") hT F.slot_zip_next
   (wpAny_call_entry F.slot_zip_next hT F.entry_zip_next ?_ (F.args_zip_next_1 _))))
  refine re D h1 h2 h3 ?_ fun h' e kk he=>?_
  ·cases e:its.toArray[i]? with
   | none=>
    refine .inl fun s' G E' k g=>?_
    exact nS hh (bi h4 fun o e=>k _ o D.a3 e) (fS (show s.heap.IsTuple a its.toArray from p1) fun o e=>k _ o (off1 z (by simp)) e) e g
   | some u=>
    refine .inr ⟨⟨u,fun s' G E' k g=>?_⟩,fun s' G E' k g=>?_⟩
    ·exact ib (bi h4 fun o e=>k _ o D.a3 e) (fS (show s.heap.IsTuple a its.toArray from p1) fun o e=>k _ o (off1 z (by simp)) e) e fun h' _ sb=>g h' sb
    ·have hi:i < its.length:=by
      have:=(Array.getElem?_eq_some_iff.mp e).1
      simpa using this
     exact nS hh (bi h5 fun o e=>k _ o D.a4 (Ne.symm D.a9) (Ne.symm D.b1) e) (fS (show s.heap.IsTuple b jts.toArray from p2) fun o e=>k _ o (off2 z (by simp)) (off2 TO (by simp)) (off2 i1 (by simp)) e)
      (by rw [Array.getElem?_eq_none_iff];simp;omega) g
  ·obtain⟨o,ho,hc'⟩:=he
   refine wpAny_bind (wpAny_isInstance (T := "StopIteration") (b:=true) ⟨o,ho,hc'⟩ isSubtype_stop ?_)
   refine wpAny_pure ⟨rfl,?_⟩
   exact kB (t':=s.toks) I (fun c o n e=>kk c o (fun q=>n (by
     simp only [List.mem_cons,List.not_mem_nil,or_false] at q ⊢
     rcases q with q | q | q | q <;> simp [q])) e) hf
 self:=fun _ _ _ _ _ st h=>wpAny_pyIter_zip st.1 h
abbrev zA (h:Heap) (a:Addr):Heap:=h.push { cls:=.type "tuple_iterator", data:=.fields #[.ref a,.int 0 0] }
abbrev zB (h:Heap) (a b:Addr):Heap:=zA (zA h a) b
abbrev zC (h:Heap) (a b:Addr):Heap:=(zB h a b).push { cls:=.type "tuple", data:=.seq #[.ref h.objs.size,.ref (zA h a).objs.size] }
abbrev zD (h:Heap) (a b:Addr):Heap:=(zC h a b).push { cls:=.type "tuple", data:=.seq #[.none,.none] }
abbrev zE (h:Heap) (a b:Addr):Heap:=(zD h a b).push { cls:=.type "zip", data:=.fields #[.none,.bool false,.bool false,.ref (zB h a b).objs.size,.ref (zC h a b).objs.size] }
theorem vO (a b:Addr) (xs ys:Array Value):Meets (Builtin.«zip.__new__» ⟨[.type "zip", .ref a,.ref b],[]⟩) (fun _ R s=>s.heap.IsTuple a xs/\s.heap.IsTuple b ys∧
  R (.ok (.ret (.ref (zD s.heap a b).objs.size))) { s with heap:=zE s.heap a b }):=
 .of_wp fun prog w A R s h=>by
  obtain⟨hp,g,d,tk,os⟩:=s;obtain⟨l1,l2,h⟩:=h
  have zsub:=sub_zip
  have L1:Heap.IsTuple (Shared.heap ⟨hp,g,d,tk,os⟩) a xs:=l1
  have L2:Heap.IsTuple (Shared.heap ⟨hp.push { cls:=.type "tuple_iterator", data:=.fields #[.ref a,.int 0 0] },g,d,tk,os⟩) b ys:=Heap.IsTuple.push l2 _
  wp_walk using wpAny_pyIter_tuple L1,wpAny_pyIter_tuple L2
  exact⟨_,rfl,h⟩
theorem va (n:Nat):xM (n+4) (n+2) (n+3) n (n+1):=by constructor <;> (intro q;have:(_:Nat)=_:=q;omega)
def Cn (K:PySem.W.Frag) (ta:TA):TI:=fun σ H R=>ta σ H fun vs H1=>∃ a b,vs=[.ref a,.ref b]/\(∃ xs,bh K H1 a xs)/\(∃ ys,bh K H1 b ys)/\R (CP K a b) H1
theorem zW {X:Cx} {elts:List Expr} {x1} {tp p pos:Pos} {a b:Expr} {ta:TA} (hg:Gl X "zip") (hm:X.mg "zip" = none) (ha:PA X [a,b] ta) (hs:starEach [a,b] X.env=[(false,eval a X.env),(false,eval b X.env)]:=by rfl) (hs2:starEach [b] X.env=[(false,eval b X.env)]:=by rfl) :
  PI X (.Tuple elts x1 tp) (.Call (.Name "zip" p) [a,b] [] pos) (Cn X.K ta):=by
 intro pins s σ H R I h
 refine Call_ (fZ I hg hm (show bootBuiltins "zip" = some (.type "zip") by kernel_rfl) (PyProof.Rows.callWith_type1 (cb (ha pos pins s σ H _ I h) fun us s1 ⟨vs,H1,I1,r1,q1⟩=>?_) (by rw [hs,hs2]) (by rw [hs2];rfl)))
 obtain⟨a,b,e,⟨xs,hx⟩,⟨ys,hy⟩,q⟩:=q1
 subst e
 obtain⟨u,v,rfl,ru,rv⟩:=lN r1
 cases ru;cases rv
 obtain⟨its,_,p1,_⟩:=I1.tuple hx
 obtain⟨jts,_,p2,_⟩:=I1.tuple hy
 refine callType_new F.called_zip (by decide) (F.typeCall_zip_2 _ _) (F.newCall_zip_2 _ _) (fun obj=>F.args_object_init_3 obj _ _) F.entry_zip_new (vO a b its.toArray jts.toArray) ⟨p1,p2,?_⟩
 have e1:(zA s1.heap a).objs.size=s1.heap.objs.size+1:=Heap.size_push ..
 have e2:(zB s1.heap a b).objs.size=s1.heap.objs.size+2:=by rw [Heap.size_push,e1]
 have e3:(zC s1.heap a b).objs.size=s1.heap.objs.size+3:=by rw [Heap.size_push,e2]
 have e4:(zD s1.heap a b).objs.size=s1.heap.objs.size+4:=by rw [Heap.size_push,e3]
 have g5:(zE s1.heap a b).get? (zD s1.heap a b).objs.size=some _:=Heap.get?_push_size _ rfl
 have g4:(zE s1.heap a b).get? (zC s1.heap a b).objs.size=some _:=Heap.get?_push_of_some _ (Heap.get?_push_size _ rfl)
 have g3:(zE s1.heap a b).get? (zB s1.heap a b).objs.size=some _:=Heap.get?_push_of_some _ (Heap.get?_push_of_some _ (Heap.get?_push_size _ rfl))
 have g2:(zE s1.heap a b).get? (zA s1.heap a).objs.size=some _:=Heap.get?_push_of_some _ (Heap.get?_push_of_some _ (Heap.get?_push_of_some _ (Heap.get?_push_size _ rfl)))
 have g1:(zE s1.heap a b).get? s1.heap.objs.size=some _:=Heap.get?_push_of_some _ (Heap.get?_push_of_some _ (Heap.get?_push_of_some _ (Heap.get?_push_of_some _ (Heap.get?_push_size _ rfl))))
 have kk:∀ c o,s1.heap.get? c=some o->(zE s1.heap a b).get? c=some o:=fun c o x=>Heap.get?_push_of_some _ (Heap.get?_push_of_some _ (Heap.get?_push_of_some _ (Heap.get?_push_of_some _ (Heap.get?_push_of_some _ x))))
 show _/\_
 rw [e2,e3,e4] at g5
 rw [e1,e2] at g3
 rw [e3] at g4
 rw [e1] at g2
 rw [e4]
 generalize zE s1.heap a b=hE at g1 g2 g3 g4 g5 kk
 refine⟨⟨_,g5,rfl⟩,wpAny_pyIter_zip g5 ?_⟩
 have I2:Inv X pins σ H1 { s1 with heap:=hE }:=I1.kept (t':=s1.toks) kk
 refine⟨_,_,_,_,H1,rfl,I2,rD (va s1.heap.objs.size),⟨g5,g3,⟨_,_,g4⟩,⟨_,g1,rfl,rfl⟩,⟨_,g2,rfl,rfl⟩⟩,fun c hc=>?_,q⟩
 have le:s1.heap.objs.size≤c:=by
  simp only [List.mem_cons,List.not_mem_nil,or_false] at hc
  rcases hc with h | h | h | h | h <;> (rw [h];first | exact Nat.le_refl _ | exact Nat.le_add_right _ _)
 exact I1.fpOk le (I1.hok.fresh le)
theorem vY {X:Cx} {pins:List (Addr×Obj)} {σ:L2.St} {H:Hp} {s:Shared} {a b:Addr} {xs:List V} (I:Inv X pins σ H s) (h:aW X.K H a xs) (f:e7 X pins H b):a≠b:=fun z=>by
 subst z
 rcases h with (h | ⟨o,h⟩) | ⟨o,its,n,hk,_⟩
 ·rw [f.1] at h;cases h
 ·rw [f.1] at h;cases h
 ·have e:=I.ok.mod.kin a o hk
  rcases f.2.2.2.1 with z | z
  ·exact I.ok.noex a o e z
  ·rw [(I.ok.bs a o e).1] at z;cases z
theorem gP {h h':Heap} {i a:Addr} {n:Nat} (x:h.IsListIter i a n) (k:∀ o,h.get? i=some o->h'.get? i=some o):h'.IsListIter i a n:=x.at k
def Ei (K:PySem.W.Frag) (a:Addr):It:=
 ⟨fun i H=>∃ xs x,bh K H a xs/\xs[i]?=some x,
  fun i H v H'=>∃ p x,H p=none/\v=.ref p/\H'=ax H p (.tup [.int i,x])/\∀ xs,bh K H a xs->xs[i]?=some x,
  fun i H=>∃ xs,bh K H a xs/\xs.length≤i⟩
def F8 (K:PySem.W.Frag) (ta:TA):TI:=fun σ H R=>ta σ H fun vs H1=>∃ a,vs=[.ref a]/\(∃ xs,bh K H1 a xs)/\R (Ei K a) H1
def Ej (K:PySem.W.Frag) (a:Addr):It:=
 ⟨fun i H=>∃ xs x,aW K H a xs/\xs[i]?=some x,
  fun i H v H'=>∃ p x,H p=none/\v=.ref p/\H'=ax H p (.tup [.int i,x])/\∀ xs,aW K H a xs->xs[i]?=some x,
  fun i H=>∃ xs,aW K H a xs/\xs.length≤i⟩
def F9 (K:PySem.W.Frag) (ta:TA):TI:=fun σ H R=>ta σ H fun vs H1=>∃ a,vs=[.ref a]/\(∃ xs,aW K H1 a xs)/\R (Ej K a) H1
section
variable {prog:Program} {w:World} {A:Around} {E:Value->Shared->Prop}
end
def Ga (K:PySem.W.Frag) (n:Nat) (t:vD):TG:=fun v σ H Q=>∃ a xs,v=.ref a/\aW K H a xs/\xs.length=n/\t xs σ H Q
section
variable {prog:Program} {w:World} {A:Around} {E:Value->Shared->Prop} {s:Shared}
open HT in
theorem lQ {t sl:Addr} {items:Array Value} {vl vu:Value} {lo hi:Option Int} {Q:Value->Shared->Prop} (ht:IsTup s.heap t items) (hs:s.heap.IsSliceOf sl vl vu .none) (pl:IsPart vl lo) (pu:IsPart vu hi)
  (h1:sIx items.size 0 lo=0) (h2:sIx items.size items.size hi=items.size) (h:Q (.ref t) s):wpAny (model prog w) A (getItem (.ref t) (.ref sl)) Q E s:=by
 obtain⟨os,hos,hcs,hds⟩:=id hs
 have hTs:s.TypeIs (.ref sl) "slice" := ⟨os,hos,hcs⟩
 unfold getItem
 try with_reducible refine wpAny_holding ?_
 first | refine wpAny_bind (wpAny_pure ?_) | skip
 refine wpAny_bind (wpAny_sequenceKey ht.typeIs (by decide) ?_)
 refine wpAny_bind (wpAny_callSpecial?_slot (name:=Str.ofString "__getitem__") ht.typeIs PyProof.Rows.slot_tuple_getitem
  (wpAny_call_entry PyProof.Rows.slot_tuple_getitem ht.typeIs entry_tuple_getitem ?_ (args_tuple_getitem _ _)))
 show wpAny _ _ (Builtin.Tuple.tupleItemsOf (.ref t) >>= _) _ _ s
 refine wpAny_bind (tupleItemsOf_ ht ?_)
 refine wpAny_bind (wpAny_typeOf hTs ?_)
 rw [if_pos (by decide)]
 refine wpAny_bind (fy hs pl pu ?_)
 have hyes:((((sIx items.size 0 lo:Nat):Int) == 0 && (1:Int) == 1 && (sIx items.size items.size hi - sIx items.size 0 lo) == items.size)=true):=by
  rw [h1,h2];simp
 show wpAny _ _ (if (((sIx items.size 0 lo:Nat):Int) == 0 && (1:Int) == 1 && (sIx items.size items.size hi - sIx items.size 0 lo) == items.size)=true then _ else _) _ _ s
 rw [if_pos hyes]
 refine wpAny_bind ?_
 unfold Builtin.Tuple.tupleIsExact
 refine wpAny_bind (wpAny_typeOf ht.typeIs ?_)
 refine wpAny_pure ?_
 rw [if_pos (by decide)]
 exact wpAny_bind (wpAny_rule (wpAny_pure ⟨_,rfl,wpAny_pure h⟩))
end
def BS (K:PySem.W.Frag):V->Option Int->Option Int->Hp->VK->Prop:=fun x lo hi H Q=>∃ a xs,x=.ref a/\bh K H a xs/\HT.sIx xs.length 0 lo=0/\HT.sIx xs.length xs.length hi=xs.length/\Q (.ref a) H
theorem v8 {X:Cx}:qZ X (BS X.K):=by
 intro pins s σ H x v vl vu lo hi sl Q I rx hs pl pu h
 obtain⟨a,xs,rfl,hx,h1,h2,q⟩:=h
 cases rx
 obtain⟨its,r,ht,hz⟩:=I.tuple hx
 have hlen:its.toArray.size=xs.length:=by rw [List.size_toArray];exact r.length.symm
 refine⟨"tuple", _,PyProof.Rows.slot_tuple_getitem.lookup,ht.typeIs,?_⟩
 exact lQ ht hs pl pu (by rw [hlen];exact h1) (by rw [hlen];exact h2) ⟨.ref a,H,I,rfl,q⟩
theorem wb {X:Cx}:qZ X (fun x lo hi H Q=>BS X.K x lo hi H Q∨BT X.K x lo hi H Q):=qZ.or v8 rW
end B
namespace B
theorem uL {a b c d:Int} (hb:0 < b) (hd:0 < d) (e:a * d=c * b):df a b=df c d:=by
 have hr:=cB (a:=c) hd
 have hc:=dt (a:=c) hd
 generalize df c d=m at hr hc ⊢
 refine cG hb hr.pos hr.cop ?_
 refine Int.eq_of_mul_eq_mul_right (show d≠0 by omega) ?_
 have e1:m.1 * b * d=m.1 * d * b:=by ac_rfl
 have e2:a * m.2 * d=a * d * m.2:=by ac_rfl
 rw [e1,hc,e2,e]
 ac_rfl
structure Bq (D N:Nat) (r:R):Prop where
 pos:0 < r.2
 cop:Int.gcd r.1 r.2=1
 dvd:r.2∣(D:Int)
 le:r.1.natAbs≤N * r.2.natAbs
theorem Bq.red {D N:Nat} {r:R} (h:Bq D N r):cO r:=⟨h.pos,h.cop⟩
theorem iQ {D N:Nat} {a b:Int} (hb:0 < b) (hd:b∣(D:Int)) (hl:a.natAbs≤N * b.natAbs):Bq D N (df a b):=by
 obtain⟨g,x,y,e0,gp,e1,e2,c⟩:=eG (a:=a) hb
 have yp:=gL hb gp e2
 have e:df a b=(x,y):=by
  unfold df
  rw [e0,show a / g=x by rw [e1];exact Int.mul_ediv_cancel_left _ (by omega),show b / g=y by rw [e2];exact Int.mul_ediv_cancel_left _ (by omega)]
 rw [e]
 refine⟨yp,c,Int.dvd_trans ⟨g,by rw [e2,Int.mul_comm]⟩ hd,?_⟩
 rw [e1,e2,Int.natAbs_mul,Int.natAbs_mul] at hl
 have gn:0 < g.natAbs:=by omega
 refine Nat.le_of_mul_le_mul_left (c:=g.natAbs) ?_ gn
 show g.natAbs * x.natAbs≤g.natAbs * (N * y.natAbs)
 rw [Nat.mul_left_comm]
 exact hl
theorem Bq.mono {D N D' N':Nat} {r:R} (h:Bq D N r) (hd:D∣D') (hn:N≤N'):Bq D' N' r:=
 ⟨h.pos,h.cop,Int.dvd_trans h.dvd (Int.ofNat_dvd.mpr hd),Nat.le_trans h.le (Nat.mul_le_mul_right _ hn)⟩
theorem Bq.plus {D N M:Nat} {r q:R} (hD:0 < D) (h:Bq D N r) (k:Bq D M q):Bq D (N+M) (aH r q):=by
 obtain⟨y,ey⟩:=h.dvd
 obtain⟨v,ev⟩:=k.dvd
 have dp:(0:Int) < (D:Int):=by omega
 have e:aH r q=df (r.1 * y+q.1 * v) (D:Int):=by
  unfold aH
  refine uL (Int.mul_pos h.pos k.pos) dp ?_
  rw [Int.add_mul,Int.add_mul]
  have a1:r.1 * q.2 * (D:Int)=r.1 * y * (r.2 * q.2):=by rw [ey];ac_rfl
  have a2:q.1 * r.2 * (D:Int)=q.1 * v * (r.2 * q.2):=by rw [ev];ac_rfl
  rw [a1,a2]
 rw [e]
 refine iQ dp (Int.dvd_refl _) ?_
 have b1:(r.1 * y).natAbs≤N * D:=by
  have:(D:Int).natAbs=r.2.natAbs * y.natAbs:=by rw [ey,Int.natAbs_mul]
  rw [Int.natAbs_mul]
  have z:=Nat.mul_le_mul_right y.natAbs h.le
  rw [Nat.mul_assoc,← this] at z
  simpa using z
 have b2:(q.1 * v).natAbs≤M * D:=by
  have:(D:Int).natAbs=q.2.natAbs * v.natAbs:=by rw [ev,Int.natAbs_mul]
  rw [Int.natAbs_mul]
  have z:=Nat.mul_le_mul_right v.natAbs k.le
  rw [Nat.mul_assoc,← this] at z
  simpa using z
 have b3:=Int.natAbs_add_le (r.1 * y) (q.1 * v)
 have b4:(D:Int).natAbs=D:=Int.natAbs_natCast D
 rw [b4,Nat.add_mul]
 omega
theorem Bq.neg {D N:Nat} {r:R} (h:Bq D N r):Bq D N (-r.1,r.2):=⟨h.pos,by show Int.gcd (-r.1) r.2=1;rw [Int.neg_gcd];exact h.cop,h.dvd,by show (-r.1).natAbs≤_;rw [Int.natAbs_neg];exact h.le⟩
theorem Bq.minus {D N M:Nat} {r q:R} (hD:0 < D) (h:Bq D N r) (k:Bq D M q):Bq D (N+M) (ai r q):=by
 rw [← mK]
 exact h.plus hD k.neg
theorem Bq.times {D N E M:Nat} {r q:R} (h:Bq D N r) (k:Bq E M q):Bq (D * E) (N * M) (ar r q):=by
 refine iQ (Int.mul_pos h.pos k.pos) ?_ ?_
 ·rw [Int.natCast_mul];exact Int.mul_dvd_mul h.dvd k.dvd
 ·rw [Int.natAbs_mul,Int.natAbs_mul]
  have z:=Nat.mul_le_mul h.le k.le
  calc r.1.natAbs * q.1.natAbs≤N * r.2.natAbs * (M * q.2.natAbs):=z
   _=N * M * (r.2.natAbs * q.2.natAbs):=by ac_rfl
theorem oZ {a b:Int} (ha:0 < a) (hb:0 < b):0 < (df a b).1:=Int.ediv_pos_of_pos_of_dvd ha (Int.le_of_lt (bI hb)) (Int.gcd_dvd_left a b)
theorem Bq.bot {D N:Nat} {r:R} (hD:0 < D) (h:Bq D N r):r.2.natAbs≤D:=by
 have:=Int.natAbs_dvd_natAbs.mpr h.dvd
 rw [Int.natAbs_natCast] at this
 exact Nat.le_of_dvd hD this
theorem Bq.wf {D N n:Nat} {r:R} (h:Bq D N r) (hD:0 < D) (h1:D < 2 ^ n) (h2:N * D < 2 ^ n):Wf n r:=
 ⟨h.pos,Nat.lt_of_le_of_lt (Nat.le_trans h.le (Nat.mul_le_mul_left _ (h.bot hD))) h2,Nat.lt_of_le_of_lt (h.bot hD) h1,h.cop⟩
theorem di {r q:R}:av r q=true↔r.1 * q.2 < q.1 * r.2:=by unfold av;exact decide_eq_true_iff
theorem dX {r q:R}:av r q=false↔q.1 * r.2≤r.1 * q.2:=by unfold av;rw [decide_eq_false_iff_not,Int.not_lt]
theorem o0 {a b c:R} (pa:0 < a.2) (pb:0 < b.2) (pc:0 < c.2) (h:av a b=true) (k:av c b=false):av a c=true:=by
 rw [di] at h ⊢
 rw [dX] at k
 have h1:=Int.mul_lt_mul_of_pos_right h pc
 have k1:=Int.mul_le_mul_of_nonneg_right k (Int.le_of_lt pa)
 have e1:b.1 * a.2 * c.2=b.1 * c.2 * a.2:=by ac_rfl
 have z:a.1 * b.2 * c.2 < c.1 * b.2 * a.2:=by omega
 refine Int.lt_of_mul_lt_mul_right (a:=b.2) ?_ (Int.le_of_lt pb)
 have e2:a.1 * c.2 * b.2=a.1 * b.2 * c.2:=by ac_rfl
 have e3:c.1 * a.2 * b.2=c.1 * b.2 * a.2:=by ac_rfl
 omega
theorem uO {a b c:R} (pa:0 < a.2) (pb:0 < b.2) (pc:0 < c.2) (h:av b a=false) (k:av b c=true):av a c=true:=by
 rw [di] at k ⊢
 rw [dX] at h
 have h1:=Int.mul_le_mul_of_nonneg_right h (Int.le_of_lt pc)
 have k1:=Int.mul_lt_mul_of_pos_right k pa
 have e1:b.1 * a.2 * c.2=b.1 * c.2 * a.2:=by ac_rfl
 refine Int.lt_of_mul_lt_mul_right (a:=b.2) ?_ (Int.le_of_lt pb)
 have e2:a.1 * c.2 * b.2=a.1 * b.2 * c.2:=by ac_rfl
 have e3:c.1 * a.2 * b.2=c.1 * b.2 * a.2:=by ac_rfl
 omega
theorem dJ {a b:R} (h:av a b=true):av b a=false:=by
 rw [di] at h
 rw [dX]
 omega
theorem qD {r q:R} (hr:cO r) (hq:cO q) (h:0 < q.1):av r (aH r q)=true:=by
 rw [di]
 have bp:=Int.mul_pos hr.pos hq.pos
 have c:=dt (a:=r.1 * q.2+q.1 * r.2) bp
 have p:=(cB (a:=r.1 * q.2+q.1 * r.2) bp).pos
 show r.1 * (df (r.1 * q.2+q.1 * r.2) (r.2 * q.2)).2 < (df (r.1 * q.2+q.1 * r.2) (r.2 * q.2)).1 * r.2
 generalize df (r.1 * q.2+q.1 * r.2) (r.2 * q.2)=z at c p ⊢
 refine Int.lt_of_mul_lt_mul_right (a:=r.2 * q.2) ?_ (Int.le_of_lt bp)
 have e1:z.1 * r.2 * (r.2 * q.2)=z.1 * (r.2 * q.2) * r.2:=by ac_rfl
 rw [e1,c,Int.add_mul,Int.add_mul]
 have e2:r.1 * q.2 * z.2 * r.2=r.1 * z.2 * (r.2 * q.2):=by ac_rfl
 have e3:=Int.mul_pos (Int.mul_pos (Int.mul_pos h hr.pos) p) hr.pos
 omega
theorem nU {a b:Int} (ha:0≤a):0≤(df a b).1:=Int.ediv_nonneg ha (by omega)
theorem oS {r q:R} (hr:cO r) (hq:cO q) (h1:0≤r.1) (h2:0≤q.1):0≤(aH r q).1:=
 nU (Int.add_nonneg (Int.mul_nonneg h1 (Int.le_of_lt hq.pos)) (Int.mul_nonneg h2 (Int.le_of_lt hr.pos)))
theorem mJ {r q:R} (hr:cO r) (hq:cO q) (h:av q r=true):(ai r q).1≠0:=fun z=>by
 have bp:=Int.mul_pos hr.pos hq.pos
 have c:=dt (a:=r.1 * q.2 - q.1 * r.2) bp
 have p:=(cB (a:=r.1 * q.2 - q.1 * r.2) bp).pos
 rw [show (df (r.1 * q.2 - q.1 * r.2) (r.2 * q.2)).1=0 from z,Int.zero_mul] at c
 rw [di] at h
 have:=Int.mul_pos (show 0 < r.1 * q.2 - q.1 * r.2 by omega) p
 omega
theorem fL {r:R}:av r (0,1)=false↔0≤r.1:=by
 rw [dX]
 show 0 * r.2≤r.1 * 1↔_
 omega
theorem rF {a b:Int} {s:R} (hb:0 < b) (hs:0 < s.2):ar (df a b) s=df (a * s.1) (b * s.2):=by
 have hr:=cB (a:=a) hb
 have hc:=dt (a:=a) hb
 unfold ar
 refine uL (Int.mul_pos hr.pos hs) (Int.mul_pos hb hs) ?_
 generalize df a b=m at hr hc ⊢
 have e1:m.1 * s.1 * (b * s.2)=m.1 * b * (s.1 * s.2):=by ac_rfl
 rw [e1,hc]
 ac_rfl
theorem xm (k:Int):df k 1=(k,1):=cG (by decide) (by decide) (by simp) rfl
end B
namespace B
open PySem PySem.Spec L2 PyProof.Rows
inductive Rl where
 | pow (k:Int)
 | tab (rows:List (R×R))
def cU:R×R:=((0,1),(0,1))
def bV (lo hi:R×R):R:=fO (ai hi.2 lo.2) (ai hi.1 lo.1)
def fx (rows:List (R×R)) (k:Nat):R:=bV (rows.getD k cU) (rows.getD (k+1) cU)
def cz (rows:List (R×R)) (s:R):Nat:=rows.countP fun r=>av r.1 s
def fc (rows:List (R×R)) (s:R):Nat:=rows.countP fun r=>!av s r.1
def dY (rows:List (R×R)) (s:R):R:=if cz rows s=0 then (0,1) else fx rows (cz rows s - 1)
def cZ (rows:List (R×R)) (s:R):Option R:=if fc rows s < rows.length then some (fx rows (fc rows s - 1)) else none
def hZ (k:Int) (s:R):R:=ar (k,1) (dj s (k - 1).toNat)
def bL:Rl->R->R×Option R
 | .pow k,s=>(hZ k s,some (hZ k s))
 | .tab rows,s=>(dY rows s,cZ rows s)
def CS (rows:List (R×R)):Prop:=rows.Pairwise fun a b=>av a.1 b.1=true
def qX (rows:List (R×R)):Prop:=∀ r∈rows,0 < r.1.2
theorem fh {s:R} (hs:0 < s.2):∀ {rows:List (R×R)},CS rows->qX rows->∀ {k:Nat} {r:R×R},rows[k]?=some r->av r.1 s=decide (k < cz rows s)
 | [],_,_,k,r,e=>by simp at e
 | x :: t,hi,hp,k,r,e=>by
  have hi':=List.pairwise_cons.mp hi
  have hpt:qX t:=fun y hy=>hp y (List.mem_cons_of_mem _ hy)
  unfold cz
  cases c:av x.1 s with
  | true=>
   rw [List.countP_cons_of_pos (p:=fun r:R×R=>av r.1 s) c]
   cases k with
   | zero=>
    simp at e
    rw [← e,c]
    simp
   | succ k=>
    rw [fh hs hi'.2 hpt (k:=k) (by simpa using e)]
    unfold cz
    simp
  | false=>
   have z:t.countP (fun r=>av r.1 s)=0:=by
    rw [List.countP_eq_zero]
    intro y hy
    have h1:=hi'.1 y hy
    have h2:av s y.1=true:=uO hs (hp x List.mem_cons_self) (hpt y hy) c h1
    rw [dJ h2]
    simp
   rw [List.countP_cons_of_neg (by rw [c];simp),z]
   cases k with
   | zero=>simp at e;rw [← e,c];simp
   | succ k=>
    have my:r∈t:=List.mem_of_getElem? (i:=k) (by simpa using e)
    have:=(List.countP_eq_zero.mp z) r my
    simp at this
    rw [this];simp
theorem ij {s:R} (hs:0 < s.2):∀ {rows:List (R×R)},CS rows->qX rows->∀ {k:Nat} {r:R×R},rows[k]?=some r->av s r.1=decide (fc rows s≤k)
 | [],_,_,k,r,e=>by simp at e
 | x :: t,hi,hp,k,r,e=>by
  have hi':=List.pairwise_cons.mp hi
  have hpt:qX t:=fun y hy=>hp y (List.mem_cons_of_mem _ hy)
  unfold fc
  cases c:av s x.1 with
  | false=>
   rw [List.countP_cons_of_pos (by rw [c];rfl)]
   cases k with
   | zero=>
    simp at e
    rw [← e,c]
    simp
   | succ k=>
    rw [ij hs hi'.2 hpt (k:=k) (by simpa using e)]
    unfold fc
    simp
  | true=>
   have all:∀ y∈t,av s y.1=true:=fun y hy=>o0 hs (hp x List.mem_cons_self) (hpt y hy) c (dJ (hi'.1 y hy))
   have z:t.countP (fun r=>!av s r.1)=0:=by
    rw [List.countP_eq_zero]
    intro y hy
    rw [all y hy]
    simp
   rw [List.countP_cons_of_neg (by rw [c];simp),z]
   cases k with
   | zero=>simp at e;rw [← e,c];simp
   | succ k=>
    have my:r∈t:=List.mem_of_getElem? (i:=k) (by simpa using e)
    rw [all r my];simp
abbrev D0:Nat:=5822723907000000000
abbrev N0:Nat:=1000000007
abbrev N1:Nat:=17179869184
abbrev NR:Nat:=11000000077
abbrev N2:Nat:=1180591620717411303424
structure aX (rows:List (R×R)):Prop where
 n2:2≤rows.length
 n12:rows.length≤12
 inc:CS rows
 zero:∃ y,rows[0]?=some ((0,1),y)
 sp:∀ r∈rows,Bq D0 NR r.1
 pw:∀ r∈rows,Bq (D0 * D0) N2 r.2
def dG:Rl->Prop
 | .pow k=>2≤k/\k≤4
 | .tab rows=>aX rows
structure ee (s:R):Prop where
 bq:Bq (D0 * 2) N1 s
 nn:0≤s.1
def cX:Rl->R->Prop
 | .pow _,_=>True
 | .tab rows,s=>∃ r,rows[rows.length - 1]?=some r/\av r.1 s=false
theorem ee.wf {s:R} (h:ee s):Wf 98 s:=h.bq.wf (by decide) (by decide) (by decide)
theorem yL {r:R} (h:Bq D0 NR r):Wf 98 r:=h.wf (by decide) (by decide) (by decide)
theorem Dq {r:R} (h:Bq (D0 * D0) N2 r):Wf 197 r:=h.wf (by decide) (by decide) (by decide)
theorem aX.allP {rows:List (R×R)} (h:aX rows):qX rows:=fun r hr=>(h.sp r hr).pos
theorem aX.slope {rows:List (R×R)} (h:aX rows) {i j:Nat} {a b:R×R} (hij:i < j) (ha:rows[i]?=some a) (hb:rows[j]?=some b) :
  (ai b.1 a.1).1≠0/\Wf 99 (ai b.1 a.1)/\Wf 198 (ai b.2 a.2)/\Wf 300 (bV a b):=by
 have ma:=List.mem_of_getElem? ha
 have mb:=List.mem_of_getElem? hb
 have lt:av a.1 b.1=true:=by
  obtain⟨h1,e1⟩:=List.getElem?_eq_some_iff.mp ha
  obtain⟨h2,e2⟩:=List.getElem?_eq_some_iff.mp hb
  have:=List.pairwise_iff_getElem.mp h.inc i j h1 h2 hij
  rw [e1,e2] at this
  exact this
 have ne:=mJ (h.sp b mb).red (h.sp a ma).red lt
 have w1:Wf 99 (ai b.1 a.1):=((h.sp b mb).minus (by decide) (h.sp a ma)).wf (by decide) (by decide) (by decide)
 have w2:Wf 198 (ai b.2 a.2):=((h.pw b mb).minus (by decide) (h.pw a ma)).wf (by decide) (by decide) (by decide)
 exact⟨ne,w1,w2,(xc w2 w1 ne).mono (by decide)⟩
theorem bF {rows:List (R×R)} {k:Nat} {a:R×R} (h:rows[k]?=some a):rows.getD k cU=a:=by rw [List.getD_eq_getElem?_getD,h];rfl
theorem jk {rows:List (R×R)} {k:Nat} {a b:R×R} (ha:rows[k]?=some a) (hb:rows[k+1]?=some b):fx rows k=bV a b:=by unfold fx;rw [bF ha,bF hb]
theorem aX.slpWf {rows:List (R×R)} (h:aX rows) {k:Nat} (hk:k+1 < rows.length):Wf 300 (fx rows k):=by
 have ha:rows[k]?=some (rows[k]'(by omega)):=List.getElem?_eq_getElem _
 have hb:rows[k+1]?=some (rows[k+1]'hk):=List.getElem?_eq_getElem _
 rw [jk ha hb]
 exact (h.slope (Nat.lt_succ_self k) ha hb).2.2.2
theorem aX.p_lt {rows:List (R×R)} (h:aX rows) {s:R} (hs:0 < s.2) (hb:cX (.tab rows) s):cz rows s < rows.length:=by
 obtain⟨r,e,c⟩:=hb
 have:=fh hs h.inc h.allP e
 rw [c] at this
 have z:=of_decide_eq_false this.symm
 have:=h.n2
 omega
theorem aX.pq {rows:List (R×R)} (h:aX rows) {s:R} (hs:0 < s.2) (hn:0≤s.1) (hp:cz rows s < rows.length) {r:R×R} (e:rows[cz rows s]?=some r) :
  (av s r.1=true->0 < cz rows s/\fc rows s=cz rows s)/\(av s r.1=false->fc rows s=cz rows s+1):=by
 have c1:=fh hs h.inc h.allP e
 have c2:=ij hs h.inc h.allP e
 have le:∀ k,k < cz rows s->k < fc rows s:=fun k hk=>by
  have ek:rows[k]?=some (rows[k]'(by omega)):=List.getElem?_eq_getElem _
  have d1:=fh hs h.inc h.allP ek
  have d2:=ij hs h.inc h.allP ek
  rw [decide_eq_true hk] at d1
  rw [dJ d1] at d2
  have:=of_decide_eq_false d2.symm
  omega
 constructor
 ·intro z
  rw [z] at c2
  have q:=of_decide_eq_true c2.symm
  have pp:0 < cz rows s:=by
   rcases Nat.eq_zero_or_pos (cz rows s) with w | w
   ·obtain⟨y,ey⟩:=h.zero
    rw [w] at e
    rw [ey] at e
    cases e
    have:=fL.mpr hn
    rw [z] at this
    cases this
   ·exact w
  refine⟨pp,?_⟩
  have:=le (cz rows s - 1) (by omega)
  omega
 ·intro z
  rw [z] at c2
  have q:=of_decide_eq_false c2.symm
  have up:fc rows s≤cz rows s+1:=by
   by_cases w:cz rows s+1 < rows.length
   ·have ek:rows[cz rows s+1]?=some (rows[cz rows s+1]'w):=List.getElem?_eq_getElem _
    have d2:=ij hs h.inc h.allP ek
    have lt:av r.1 (rows[cz rows s+1]'w).1=true:=by
     obtain⟨h1,e1⟩:=List.getElem?_eq_some_iff.mp e
     have:=List.pairwise_iff_getElem.mp h.inc _ _ h1 w (Nat.lt_succ_self _)
     rw [e1] at this
     exact this
    have c1':av r.1 s=false:=by rw [c1];simp
    have lt2:av s (rows[cz rows s+1]'w).1=true:=uO hs (h.allP r (List.mem_of_getElem? e)) (h.allP _ (List.getElem_mem _)) c1' lt
    rw [lt2] at d2
    exact of_decide_eq_true d2.symm
   ·have:fc rows s≤rows.length:=List.countP_le_length
    omega
  omega
theorem aX.q_pos {rows:List (R×R)} (h:aX rows) {s:R} (hs:0 < s.2) (hn:0≤s.1):0 < fc rows s:=by
 obtain⟨y,ey⟩:=h.zero
 have:=ij hs h.inc h.allP ey
 rw [fL.mpr hn] at this
 have:=of_decide_eq_false this.symm
 omega
theorem AK {k:Int} (h:2≤k/\k≤4):Wf 3 (k,1):=⟨by show (0:Int) < 1;decide,by show k.natAbs < 2 ^ 3;omega,by show (1:Int).natAbs < 2 ^ 3;decide,by show Int.gcd k 1=1;simp⟩
theorem lg {k:Int} {s:R} (h:2≤k/\k≤4) (w:Wf 98 s):Wf 300 (hZ k s):=by
 have a:=dP (AK h) (ld w (k - 1).toNat)
 refine a.mono ?_
 have:(k - 1).toNat≤3:=by omega
 have:(k - 1).toNat * 98≤3 * 98:=Nat.mul_le_mul_right _ this
 omega
theorem sd {rl:Rl} {s:R} (h:dG rl) (hs:ee s) (hb:cX rl s):Wf 300 (bL rl s).1/\∀ x,(bL rl s).2=some x->Wf 300 x:=by
 cases rl with
 | pow k=>
  refine⟨lg h hs.wf,fun x e=>?_⟩
  have e':some (hZ k s)=some x:=e
  cases e'
  exact lg h hs.wf
 | tab rows=>
  have h':aX rows:=h
  have pl:=h'.p_lt hs.bq.pos hb
  constructor
  ·show Wf 300 (dY rows s)
   unfold dY
   split
   ·exact oz.mono (by decide)
   ·exact h'.slpWf (by omega)
  ·intro x e
   have e':cZ rows s=some x:=e
   unfold cZ at e'
   split at e'
   ·cases e'
    have:=h'.q_pos hs.bq.pos hs.nn
    exact h'.slpWf (by omega)
   ·cases e'
def GI (rows:List (R×R)) (s:R) (i:Nat):R:=if 0 < cz rows s/\cz rows s - 1 < i then fx rows (cz rows s - 1) else (0,1)
def GG (rows:List (R×R)) (s:R) (i:Nat):Option R:=if 0 < fc rows s/\fc rows s - 1 < i then some (fx rows (fc rows s - 1)) else none
def fe (k:Int) (s:R) (j:Nat):R:=df (k * s.1 ^ j) (s.2 ^ j)
theorem nO (k:Int) (s:R):fe k s 0=(k,1):=by unfold fe;rw [Int.pow_zero,Int.pow_zero,Int.mul_one];exact xm k
theorem nP {k:Int} {s:R} (hs:0 < s.2) (j:Nat):ar (fe k s j) s=fe k s (j+1):=by
 unfold fe
 rw [rF (Int.pow_pos hs) hs,Int.pow_succ,Int.pow_succ,Int.mul_assoc]
theorem qm {k:Int} {s:R} (hr:cO s):fe k s (k - 1).toNat=hZ k s:=by
 unfold hZ fe ar
 rw [fI hr,Int.one_mul]
theorem ui {k:Int} {s:R} (h:2≤k/\k≤4) (w:Wf 98 s) {j:Nat} (hj:j≤3):Wf 300 (fe k s j):=by
 have e:=fI ⟨w.pos,w.cop⟩ j
 have pw:=ld w j
 have a:=dP (AK h) pw
 have z:ar (k,1) (dj s j)=fe k s j:=by
  unfold ar fe
  rw [e,Int.one_mul]
 rw [z] at a
 refine a.mono ?_
 have:j * 98≤3 * 98:=Nat.mul_le_mul_right _ hj
 omega
def gj (l:R) (r:Option R) (g:R):Bool:=!av g l && (match r with | none=>true | some x=>!av x g)
end B
namespace B
def val (r:R):Rat:=(r.1:Rat) / (r.2:Rat)
theorem cj {b:Int} (h:0 < b):(b:Rat)≠0:=fun z=>by
 have:b=0:=Rat.intCast_inj.mp (by rw [z];rfl)
 omega
theorem rA {r:R} {a b:Int} (hr:0 < r.2) (hb:(b:Rat)≠0) (h:r.1 * b=a * r.2):val r=(a:Rat) / (b:Rat):=by
 have h2:(r.1:Rat) * (b:Rat)=(a:Rat) * (r.2:Rat):=by rw [← Rat.intCast_mul,← Rat.intCast_mul,h]
 have h1:=cj hr
 unfold val
 generalize (r.1:Rat)=x at *
 generalize (r.2:Rat)=y at *
 generalize (a:Rat)=u at *
 generalize (b:Rat)=v at *
 grind
theorem kx {a b:Int} (hb:0 < b):val (df a b)=(a:Rat) / (b:Rat):=rA (cB hb).pos (cj hb) (dt hb)
theorem bA {r q:R} (hr:0 < r.2) (hq:0 < q.2):val (aH r q)=val r+val q:=by
 unfold aH
 rw [kx (Int.mul_pos hr hq)]
 have h1:=cj hr
 have h2:=cj hq
 unfold val
 rw [Rat.intCast_add,Rat.intCast_mul,Rat.intCast_mul,Rat.intCast_mul]
 generalize (r.1:Rat)=x at *
 generalize (r.2:Rat)=y at *
 generalize (q.1:Rat)=u at *
 generalize (q.2:Rat)=v at *
 grind
theorem dm {r q:R} (hr:0 < r.2) (hq:0 < q.2):val (ai r q)=val r - val q:=by
 unfold ai
 rw [kx (Int.mul_pos hr hq)]
 have h1:=cj hr
 have h2:=cj hq
 unfold val
 rw [Rat.intCast_sub,Rat.intCast_mul,Rat.intCast_mul,Rat.intCast_mul]
 generalize (r.1:Rat)=x at *
 generalize (r.2:Rat)=y at *
 generalize (q.1:Rat)=u at *
 generalize (q.2:Rat)=v at *
 grind
theorem bw {r q:R} (hr:0 < r.2) (hq:0 < q.2):val (ar r q)=val r * val q:=by
 unfold ar
 rw [kx (Int.mul_pos hr hq)]
 have h1:=cj hr
 have h2:=cj hq
 unfold val
 rw [Rat.intCast_mul,Rat.intCast_mul]
 generalize (r.1:Rat)=x at *
 generalize (r.2:Rat)=y at *
 generalize (q.1:Rat)=u at *
 generalize (q.2:Rat)=v at *
 grind
theorem mE {b:Int} (h:b≠0):(b:Rat)≠0:=fun z=>h (Rat.intCast_inj.mp (by rw [z];rfl))
theorem gT {r q:R} (hr:0 < r.2) (hq:0 < q.2) (h:q.1≠0):val (fO r q)=val r / val q:=by
 have hn:r.2 * q.1≠0:=Int.mul_ne_zero (by omega) h
 obtain⟨hs,es⟩:=jy (a:=r.1 * q.2) hn
 unfold fO
 rw [rA hs.pos (mE hn) es]
 have h1:=cj hr
 have h2:=cj hq
 have h3:=mE h
 unfold val
 rw [Rat.intCast_mul,Rat.intCast_mul]
 generalize (r.1:Rat)=x at *
 generalize (r.2:Rat)=y at *
 generalize (q.1:Rat)=u at *
 generalize (q.2:Rat)=v at *
 grind
theorem eu {r q:R} (hr:cO r) (hq:cO q) (h:val r=val q):r=q:=by
 have h1:=cj hr.pos
 have h2:=cj hq.pos
 have e:r.1 * q.2=q.1 * r.2:=by
  refine Rat.intCast_inj.mp ?_
  rw [Rat.intCast_mul,Rat.intCast_mul]
  unfold val at h
  generalize (r.1:Rat)=x at *
  generalize (r.2:Rat)=y at *
  generalize (q.1:Rat)=u at *
  generalize (q.2:Rat)=v at *
  grind
 have e1:df r.1 r.2=(r.1,r.2):=cG hr.pos hr.pos hr.cop rfl
 have e2:df r.1 r.2=(q.1,q.2):=cG hr.pos hq.pos hq.cop e.symm
 exact e1.symm.trans e2
theorem gR {r:R} (hr:0 < r.2):val r=0↔r.1=0:=by
 have h1:=cj hr
 unfold val
 constructor
 ·intro h
  refine Rat.intCast_inj.mp ?_
  show (r.1:Rat)=((0:Int):Rat)
  rw [show ((0:Int):Rat)=0 from rfl]
  generalize (r.1:Rat)=x at *
  generalize (r.2:Rat)=y at *
  grind
 ·intro h
  rw [h]
  show ((0:Int):Rat) / _=0
  rw [show ((0:Int):Rat)=0 from rfl]
  generalize (r.2:Rat)=y at *
  grind
theorem h8 {r q:R} (hr:0 < r.2) (h:q.1≠0):cO (fO r q):=(jy (a:=r.1 * q.2) (Int.mul_ne_zero (by omega) h)).1
theorem cH {r q:R} (hr:0 < r.2) (hq:0 < q.2):cO (ai r q):=cB (Int.mul_pos hr hq)
theorem uM {a b:R×R} (a0:cO a.1) (a1:cO a.2) (b0:cO b.1) (b1:cO b.2) (h:(ai b.1 a.1).1≠0):aH a.2 (ar (bV a b) (ai b.1 a.1))=b.2:=by
 have m0:=cH b0.pos a0.pos
 have m1:=cH b1.pos a1.pos
 have so:=h8 (r:=ai b.2 a.2) m1.pos h
 have st:=dn so m0
 refine eu (cR a1 st) b1 ?_
 unfold bV
 rw [bA a1.pos st.pos,bw so.pos m0.pos,gT m1.pos m0.pos h,dm b1.pos a1.pos]
 have hz:val (ai b.1 a.1)≠0:=fun z=>h ((gR m0.pos).mp z)
 generalize val (ai b.1 a.1)=d at *
 generalize val b.2=x at *
 generalize val a.2=y at *
 grind
theorem qC {a:R} {s x:R} (ha:cO a) (hs:cO s) (hx:cO x):aH a (ar s (ai x x))=a:=by
 have m0:=cH hx.pos hx.pos
 have st:=dn hs m0
 refine eu (cR ha st) ha ?_
 rw [bA ha.pos st.pos,bw hs.pos m0.pos,dm hx.pos hx.pos]
 generalize val x=d at *
 generalize val s=u at *
 generalize val a=y at *
 grind
end B
namespace B
def GC (rows:List (R×R)) (i:Nat):Rat:=(val (rows.getD (i+1) cU).2 - val (rows.getD i cU).2) / (val (rows.getD (i+1) cU).1 - val (rows.getD i cU).1)
section
variable {s p:Nat->Rat} {n:Nat}
def sl (s p:Nat->Rat) (i:Nat):Rat:=(p (i+1) - p i) / (s (i+1) - s i)
theorem rX {i:Nat} (h:s i < s (i+1)):p (i+1)=p i+sl s p i * (s (i+1) - s i):=by
 unfold sl
 have:s (i+1) - s i≠0:=by grind
 grind
theorem iz {i:Nat} (hc:∀ j,j+1 < n->sl s p j≤sl s p (j+1)):∀ d,i+d < n->sl s p i≤sl s p (i+d)
 | 0,_=>by simp only [Nat.add_zero];exact Rat.le_refl
 | d+1,h=>by
  have a:=iz (i:=i) hc d (by omega)
  have b:=hc (i+d) (by omega)
  have e:i+(d+1)=i+d+1:=by omega
  rw [e]
  grind
theorem oC {i:Nat} (hs:∀ j,j < n->s j < s (j+1)) (hc:∀ j,j+1 < n->sl s p j≤sl s p (j+1)):∀ d,i+d≤n->i < n->p i+sl s p i * (s (i+d) - s i)≤p (i+d)
 | 0,_,_=>by simp only [Nat.add_zero];grind
 | d+1,h,hi=>by
  have a:=oC (i:=i) hs hc d (by omega) hi
  have b:=rX (p:=p) (hs (i+d) (by omega))
  have c:=iz (i:=i) hc d (by omega)
  have g:=hs (i+d) (by omega)
  have e:i+(d+1)=i+d+1:=by omega
  rw [e]
  have m:sl s p i * (s (i+d+1) - s (i+d))≤sl s p (i+d) * (s (i+d+1) - s (i+d)):=Rat.mul_le_mul_of_nonneg_right c (by grind)
  generalize sl s p i=u at *
  generalize sl s p (i+d)=w at *
  grind
theorem ke {i:Nat} (hs:∀ j,j < n->s j < s (j+1)) (hc:∀ j,j+1 < n->sl s p j≤sl s p (j+1)):∀ d,d≤i->i < n->p i+sl s p i * (s (i - d) - s i)≤p (i - d)
 | 0,_,_=>by simp only [Nat.sub_zero];grind
 | d+1,h,hi=>by
  have a:=ke (i:=i) hs hc d (by omega) hi
  have e:i - d=(i - (d+1))+1:=by omega
  have g:=hs (i - (d+1)) (by omega)
  have b:=rX (p:=p) g
  have c:=iz hc (i:=i - (d+1)) (d+1) (by omega)
  rw [show i - (d+1)+(d+1)=i by omega] at c
  rw [e] at a
  generalize hj:i - (d+1)=j at *
  have m:sl s p j * (s (j+1) - s j)≤sl s p i * (s (j+1) - s j):=Rat.mul_le_mul_of_nonneg_right c (by grind)
  generalize sl s p i=u at *
  generalize sl s p j=w at *
  grind
theorem jv {i m:Nat} {x:Rat} (hs:∀ j,j < n->s j < s (j+1)) (hc:∀ j,j+1 < n->sl s p j≤sl s p (j+1)) (hi:i < n) (hm:m < n) (h1:s m≤x) (h2:x≤s (m+1)) :
  p i+sl s p i * (x - s i)≤p m+sl s p m * (x - s m):=by
 by_cases c:i≤m
 ·have a:=oC hs hc (i:=i) (m - i) (by omega) hi
  have b:=iz hc (i:=i) (m - i) (by omega)
  rw [show i+(m - i)=m by omega] at a b
  have q:sl s p i * (x - s m)≤sl s p m * (x - s m):=Rat.mul_le_mul_of_nonneg_right b (by grind)
  generalize sl s p i=u at *
  generalize sl s p m=w at *
  grind
 ·have a:=ke hs hc (i:=i) (i - (m+1)) (by omega) hi
  have b:=iz hc (i:=m) (i - m) (by omega)
  rw [show i - (i - (m+1))=m+1 by omega] at a
  rw [show m+(i - m)=i by omega] at b
  have e:=rX (p:=p) (hs m hm)
  have q:sl s p m * (s (m+1) - x)≤sl s p i * (s (m+1) - x):=Rat.mul_le_mul_of_nonneg_right b (by grind)
  generalize sl s p i=u at *
  generalize sl s p m=w at *
  grind
end
theorem qr (x s:Rat):s * s+2 * s * (x - s)≤x * x:=by
 have h:0≤(x - s) * (x - s):=by
  rcases Rat.le_total (a:=0) (b:=x - s) with h | h
  ·exact Rat.mul_nonneg h h
  ·have:=Rat.mul_nonneg (a:=-(x - s)) (b:=-(x - s)) (by grind) (by grind)
   grind
 grind
theorem oG (x:Rat):0≤x * x:=by
 rcases Rat.le_total (a:=0) (b:=x) with h | h
 ·exact Rat.mul_nonneg h h
 ·have:=Rat.mul_nonneg (a:=-x) (b:=-x) (by grind) (by grind)
  grind
theorem qq {x s:Rat} (hx:0≤x) (hs:0≤s):s * s * s+3 * (s * s) * (x - s)≤x * x * x:=by
 have h:=Rat.mul_nonneg (oG (x - s)) (show 0≤x+2 * s by grind)
 grind
theorem qo {x s:Rat} (hx:0≤x) (hs:0≤s):s * s * s * s+4 * (s * s * s) * (x - s)≤x * x * x * x:=by
 have h1:=Rat.mul_nonneg hx hs
 have h:=Rat.mul_nonneg (oG (x - s)) (show 0≤x * x+2 * (x * s)+3 * (s * s) by
  have:=oG x
  have:=oG s
  grind)
 grind
end B
namespace B
open PySem PySem.Spec L2 PyProof.Rows
structure QE (X:Cx) (e:Expr) (t:TE):Prop where
 p:PE X e t
structure QT (X:Cx) (e:Expr) (t:TT):Prop where
 p:PT X e t
structure QW (X:Cx) (e:Expr) (t:TT):Prop where
 p:PW X e t
structure QA (X:Cx) (es:List Expr) (t:TA):Prop where
 p:PA X es t
structure QS (X:Cx) (st:Stmt) (t:TS):Prop where
 p:PS X st t
structure eg (X:Cx) (st:List Stmt) (t:TS):Prop where
 p:nh X st t
structure QI (X:Cx) (tg iter:Expr) (wi:TI):Prop where
 p:PI X tg iter wi
structure QG (X:Cx) (target:Expr) (t:TG):Prop where
 p:PG X target t
structure Dk (X:Cx) (ts:List Expr) (t:vD):Prop where
 p:CK X ts t
theorem eg.ok {X:Cx} {b:List Stmt} {t:TS} {D:iq} {σ:L2.St} {H:Hp} (h:eg X b t) (r:t D σ H):∃ t:TS,nh X b t/\t D σ H:=⟨t,h.p,r⟩
structure QO (X:Cx) (o:Option Expr) (t:L2.TO):Prop where
 p:PO X o t
section
set_option autoImplicit true
set_option relaxedAutoImplicit true
theorem qv  (i:Nat) {x:Str} {pos:Pos} (hN:X.N[i]?=some x:=by rfl) (hv:CB X.env.scope x:=by first | exact Or.inl rfl | exact Or.inr (Or.inl rfl) | exact Or.inr (Or.inr rfl)) (hd:(x == ("__debug__" : Str))=false:=by decide) (hcd:(x == ("__classdict__" : Str))=false:=by decide):QE X (.Name x pos) (yN i):=⟨pv i hN hv hd hcd⟩
theorem ae  {i j pos}:QE X (.Constant (.int i) j pos) (tC (.int i)):=⟨Ai ⟩
theorem hX  {b j pos}:QE X (.Constant (.bool b) j pos) (tC (.bl b)):=⟨B7 ⟩
theorem fW  {j pos}:QE X (.Constant .none j pos) (tC .non):=⟨Ag ⟩
theorem jr  {x j pos}:QE X (.Constant (.str x) j pos) (tC (.str x)):=⟨Ac ⟩
theorem gx  {x:Str} {v:V} {u:Value} {pos:Pos} (hg:Gl X x) (hm:X.mg x=some u) (r:aY v u) (hd:(x == ("__debug__" : Str))=false:=by decide):QE X (.Name x pos) (tC v):=⟨wY hg hm r hd⟩
theorem bD  {x:Str} {v:V} {u:Value} {pos:Pos} (hg:Gl X x) (hm:X.mg x=none) (hv:bootBuiltins x=some u) (r:aY v u) (hn:x ≠ "__name__" := by decide) (hd:(x == ("__debug__" : Str))=false:=by decide):QE X (.Name x pos) (tC v):=⟨w8 hg hm hv r hn hd⟩
theorem dS  {op:UnaryOp} {r:V->Hp->VK->Prop} (ho:Df X (unaryOp op) r) (ha:QE X a ta):QE X (.UnaryOp op a pos) (Ev r ta):=⟨B3 ho ha.p⟩
theorem t0  (ha:QE X a ta):QE X (.UnaryOp .Not a pos) (xU ta):=⟨Af ha.p⟩
theorem aK  {op:Operator} {r:R2} (ho:fP X (binaryOp op) r) (ha:QE X a ta) (hb:QE X b tb):QE X (.BinOp a op b pos) (vW r ta tb):=⟨B4 ho ha.p hb.p⟩
theorem gK  {op} {t:TE} (h:QE X a t):QE X (.BoolOp op [a] pos) t:=⟨Ae h.p⟩
theorem fF {d7:List Expr} (ha:QE X a ta) (hb:QE X (.BoolOp .And (b :: d7) pos) tb):QE X (.BoolOp .And (a :: b :: d7) pos) (xZ ta tb):=⟨Aj ha.p hb.p⟩
theorem dB  {op:CmpOp} {r:R2} (ho:fP X (compareOp op) r) (ha:QE X a ta) (hb:QE X b tb) (hm:behindInMarks op b=false):QE X (.Compare a [op] [b] pos) (vW r ta tb):=⟨wZ ho ha.p hb.p hm⟩
theorem ub  {op op':CmpOp} {r r':R2} (ho:fP X (compareOp op) r) (ho':fP X (compareOp op') r') (ha:QE X a ta) (hb:QE X b tb) (hc:QE X c tc) (hm:lastMarks [op,op'] [b,c]=false:=by with_unfolding_all rfl):QE X (.Compare a [op,op'] [b,c] pos) (kF r r' ta tb tc):=⟨ux ho ho' ha.p hb.p hc.p hm⟩
theorem mv  {c:Expr} (hc:QT X c tA) (ha:QE X a ta) (hb:QE X b tb):QE X (.IfExp c a b pos) (EE tA ta tb):=⟨uu hc.p ha.p hb.p⟩
theorem cu  (h:QA X es t):QE X (.List es pos) (BH t):=⟨Ah h.p⟩
theorem aI  {x1} (h:QA X es t):QE X (.Tuple es x1 pos) (BC t):=⟨Ab h.p⟩
theorem fz {lo hi:Option Expr} {r:V->Option Int->Option Int->Hp->VK->Prop} (hr:qZ X r) (he:QE X e te) (hl:QO X lo tl) (hu:QO X hi th):QE X (.Subscript e (.Slice lo hi none p2) pos) (Ex r te tl th):=⟨ur hr he.p hl.p hu.p⟩
theorem gv   : QO X none oE:=⟨wR ⟩
theorem gu  (h:QE X e te):QO X (some e) (xT te):=⟨wQ h.p⟩
theorem cE  {r:R2} (hr:Bc X r) (ha:QE X a ta) (hb:QE X b tb) (hs:lI b):QE X (.Subscript a b pos) (vW r ta tb):=⟨B5 hr ha.p hb.p hs⟩
theorem cJ  (F:bO X.prog X.w X.K X.mg X.base CX k f fd ps sp) (hr:dF k X.A) (hg:Gl X x) (hm:X.mg x=some (.ref f)) (hk:PySem.W.keepIn X.K (.ref f)=true) (hb:ba X.K fd ps ds) (hd:bg dvs ds) (hx:lJ CX X E) (ha:QA X (e :: es) t) (hdb:(x == ("__debug__" : Str))=false:=by decide) (he:starEach (e :: es) X.env=(false,eval e X.env) :: starEach es X.env:=by rfl) (hpl:(backTo pos (starEach es X.env)).any (·.1)=false:=by rfl):QE X (.Call (.Name x p) (e :: es) [] pos) (rM sp dvs E t):=⟨w6 F hr hg hm hk hb hd hx ha.p hdb he hpl⟩
theorem aF {id:String} (hc:fj X (.builtin id) r) (hg:Gl X x) (hm:X.mg x=none) (hv:bootBuiltins x=some (.builtin id)) (ha:QA X (e :: es) t) (hn:x ≠ "__name__" := by decide) (hdb:(x == ("__debug__" : Str))=false:=by decide) (he:starEach (e :: es) X.env=(false,eval e X.env) :: starEach es X.env:=by rfl) (hpl:(backTo pos (starEach es X.env)).any (·.1)=false:=by rfl):QE X (.Call (.Name x p) (e :: es) [] pos) (CZ r t):=⟨uy hc hg hm hv ha.p hn hdb he hpl⟩
theorem fA  (hc:fj X (.type T) r) (hg:Gl X x) (hm:X.mg x=none) (hv:bootBuiltins x=some (.type T)) (ha:QA X (e :: es) t) (hn:x ≠ "__name__" := by decide) (hdb:(x == ("__debug__" : Str))=false:=by decide) (he:starEach (e :: es) X.env=(false,eval e X.env) :: starEach es X.env:=by rfl) (hpl:(backTo pos (starEach es X.env)).any (·.1)=false:=by rfl):QE X (.Call (.Name x p) (e :: es) [] pos) (CZ r t):=⟨qw hc hg hm hv ha.p hn hdb he hpl⟩
theorem iL {id:String} (pa:PlainAttrs T) (slot:Slot T name id) (hty:typeOf (.builtin id)=pure (.type "method_descriptor")) (hm:Fl X id r) (ho:QE X o to) (ha:QA X (e :: es) t) (hbase:attributeBase o name X.env (eval o X.env)=eval o X.env:=by rfl) (hfew:((backTo cpos (starEach (e :: es) X.env)).all (fun x=>!x.1) && (backToKw cpos (keywordEach [] X.env)).all (fun x=>x.1.isSome)
   && decide ((e :: es).length+([]:List Keyword).length+(if ([]:List Keyword).isEmpty then 0 else 1) < 30))=true:=by rfl) (hline:(apos.endLine == cpos.line)=true:=by rfl) (hs:starEach (e :: es) X.env=(false,eval e X.env) :: starEach es X.env:=by rfl) (hplain:(backTo cpos (starEach es X.env)).any (·.1)=false:=by rfl):QE X (.Call (.Attribute o name apos) (e :: es) [] cpos) (EJ X.K T r to t):=⟨B6 pa slot hty hm ho.p ha.p hbase hfew hline hs hplain⟩
theorem af   : QA X [] BG:=⟨Ak ⟩
theorem ac  (ha:QE X e te) (hr:QA X es t) (hs:starEach (e :: es) X.env=(false,eval e X.env) :: starEach es X.env:=by rfl):QA X (e :: es) (xX te t):=⟨w9 ha.p hr.p hs⟩
theorem aS  {op:CmpOp} {r:R2} (ho:fP X (compareOp op) r) (ha:QE X a ta) (hb:QE X b tb) (hm:behindInMarks op b=false):QT X (.Compare a [op] [b] pos) (oD (vW r ta tb)):=⟨wJ ho ha.p hb.p hm⟩
theorem tW  {op op':CmpOp} {r r':R2} (ho:fP X (compareOp op) r) (ho':fP X (compareOp op') r') (ha:QE X a ta) (hb:QE X b tb) (hc:QE X c tc) (hm:lastMarks [op,op'] [b,c]=false:=by with_unfolding_all rfl):QT X (.Compare a [op,op'] [b,c] pos) (oD (kF r r' ta tb tc)):=⟨ud ho ho' ha.p hb.p hc.p hm⟩
theorem cC  {e:Expr} {t:TE} (h:QE X e t) (he:∀ whole,isTrue e X.env whole=(do let v ← whole;standAt e.pos;holding [v] (truthy v)):=by intro _;rfl):QT X e (tB t):=⟨zO h.p he⟩
theorem nL  (ha:QT X a tA):QT X (.UnaryOp .Not a pos) (BF tA):=⟨zP ha.p⟩
theorem tV {d7:List Expr} (ha:QT X a tA) (hb:QW X (.BoolOp .And (b :: d7) pos) tB'):QW X (.BoolOp .And (a :: b :: d7) pos) (BL tA tB'):=⟨zM ha.p hb.p⟩
theorem oO  (ha:QT X a tA):QW X (.BoolOp .And [a] pos) tA:=⟨wG ha.p⟩
theorem tT {d7:List Expr} (ha:QT X a tA) (hb:QW X (.BoolOp .Or (b :: d7) pos) tB'):QW X (.BoolOp .Or (a :: b :: d7) pos) (EA tA tB'):=⟨B0 ha.p hb.p⟩
theorem nK  (ha:QT X a tA):QW X (.BoolOp .Or [a] pos) tA:=⟨zK ha.p⟩
theorem mo  {X:Cx} {e:Expr} {t:TT} (h:QW X e t):QT X e t:=⟨PW.pt h.p⟩
theorem zF  {i:Nat} {x:Str} {e:Expr} {te:TE} {pos':Pos} (hN:X.N.Nodup) (hi:X.N[i]?=some x) (hx:vG X.env.scope x) (he:QE X e te) (hs:swapsWith e (some (.Name x pos')) pos.line X.env=pure false:=by rfl) (hf:X.fn x=true∨X.env.scope.names.lookup x=some .local:=by first | exact .inl rfl | exact .inr rfl | assumption):QS X (.Assign [.Name x pos'] e pos) (ny te (jG i)):=⟨zQ hN hi hx he.p hs hf⟩
theorem k7  {i j:Nat} {x y:Str} {a b:Expr} {ta:TA} {px py pt:Pos} {kt k2 pt2} (hc:X.calm=true) (hN:X.N.Nodup) (hi:X.N[i]?=some x) (hj:X.N[j]?=some y) (hij:i≠j) (hx:X.env.scope.names.lookup x=some .local) (hy:X.env.scope.names.lookup y=some .local) (ha:QA X [a,b] ta) (hw:swappedStores [.Tuple [.Name x px,.Name y py] kt pt] (.Tuple [a,b] k2 pt2) X.env=pure (some [x,y])) (hs:swapsWithSole [.Tuple [.Name x px,.Name y py] kt pt] (.Tuple [a,b] k2 pt2) pos.line X.env=pure false:=by rfl):QS X (.Assign [.Tuple [.Name x px,.Name y py] kt pt] (.Tuple [a,b] k2 pt2) pos) (BE i j ta):=⟨zS hc hN hi hj hij hx hy ha.p hw hs⟩
theorem jq  {tg e:Expr} {te:TE} {g:TG} (he:QE X e te) (hg:QG X tg g) (hs:swapsWithSole [tg] e pos.line X.env=pure false:=by rfl) (hw:swappedStores [tg] e X.env=pure none:=by rfl) (h1:(assignEach [tg] X.env).map (·.2)=[assign tg X.env]:=by rfl):QS X (.Assign [tg] e pos) (ny te g):=⟨zV he.p hg.p hs hw h1⟩
theorem zH  {i:Nat} {x:Str} {e:Expr} {te:TE} {op:Operator} {ti:yJ} {pos':Pos} (hN:X.N.Nodup) (hi:X.N[i]?=some x) (hx:vG X.env.scope x) (he:QE X e te) (ho:CJ X op ti) (hf:X.fn x=true∨X.env.scope.names.lookup x=some .local:=by first | exact .inl rfl | exact .inr rfl | assumption):QS X (.AugAssign (.Name x pos') op e pos) (BK i te ti):=⟨zU hN hi hx he.p ho hf⟩
theorem bK  {c:Expr} {a b:List Stmt} {tc:TT} (hc:QT X c tc) (ha:eg X a t) (hb:eg X b u):QS X (.If c a b pos) (BI tc t u):=⟨B1 hc.p ha.p hb.p⟩
theorem hU  {c:Expr} {body:List Stmt} {tc:TT} {tb:TS} (hp:PassesOwn (model X.prog X.w) X.A X.env X.xe) (hc:QT X c tc) (hb:eg X body tb):QS X (.While c body [] pos) (rG tc tb):=⟨ug hp hc.p hb.p⟩
theorem cM  {iter:Expr} {body:List Stmt} {wi:TI} {g:TG} {tb:TS} {pos:Pos} (hp:PassesOwn (model X.prog X.w) X.A X.env X.xe) (hc:X.calm=true) (hi:QI X tg iter wi) (hg:QG X tg g) (hb:eg X body tb) (hs:∀ x,foldedSetIterable iter X.env x=pure x:=by intro _;rfl):QS X (.For tg iter body [] pos) (BJ wi g tb):=⟨zT hp hc hi.p hg.p hb.p hs⟩
theorem aJ  (he:QE X e te):QS X (.Return (some e) pos) (BD te):=⟨zR he.p⟩
theorem fb  (he:QE X e te) (hs:swapsWith e none pos.line X.env=pure false:=by rfl):QS X (.Expr e pos) (xW te):=⟨wN he.p hs⟩
theorem hV {st:Stmt}  : QS X st rJ:=⟨uh ⟩
theorem aP   : eg X [] xV:=⟨wL ⟩
theorem aq {st:Stmt} (h1:QS X st t):eg X [st] t:=⟨wK h1.p⟩
theorem tX {st:Stmt} {d7:List Stmt} (h1:QS X st t) (h2:eg X d7 u):eg X (st :: d7) (yP t u):=⟨ue h1.p h2.p⟩
theorem cK  {a:Expr} {ta:TA} {p pos:Pos} (hg:Gl X "range") (hm:X.mg "range" = none) (ha:QA X [a] ta) (hs:starEach [a] X.env=[(false,eval a X.env)]:=by rfl):QI X tg (.Call (.Name "range" p) [a] [] pos) (yj ta):=⟨qu hg hm ha.p hs⟩
theorem cN {tg:Expr} {l:Expr} {tl:TE} (hl:QE X l tl):QI X tg l (yk X.K tl):=⟨wU hl.p⟩
theorem k8  {l:Expr} {tl:TE} (hl:QE X l tl):QI X tg l (Co X.K tl):=⟨zX hl.p⟩
theorem aN  {i:Nat} {x:Str} (hN:X.N.Nodup) (hi:X.N[i]?=some x) (hx:vG X.env.scope x) (hf:X.fn x=true∨X.env.scope.names.lookup x=some .local:=by first | exact .inl rfl | exact .inr rfl | assumption):QG X (.Name x pos) (jG i):=⟨wW hN hi hx hf⟩
theorem iD  {es:List Expr} {k:Nat} {t:vD} {n:Nat} (hc:X.calm=true) (h:Dk X es t) (hn:(assignEach es X.env).length=n:=by rfl) (hst:(assignEach es X.env).findIdx? (·.1)=none:=by rfl):QG X (.Tuple es k pos) (Cs X.K n t):=⟨zZ hc h.p hn hst⟩
theorem nM  {o i:Expr} {to ti:TE} {t:ou} (ho:QE X o to) (hi:QE X i ti) (hs:vF X t) (ha:∀ v,assign (.Subscript o i pos) X.env v=(do
   let ov ← holding [v] (eval o X.env)
   let iv ← holding [v,ov] (eval i X.env)
   standAt pos
   holding [v,ov,iv] (setItem ov iv v)
   release [v,ov,iv] []):=by intro _;rfl):QG X (.Subscript o i pos) (Ct to ti t):=⟨z9 ho.p hi.p hs ha⟩
theorem gw   : Dk X [] Cu:=⟨wV ⟩
theorem cD  {e:Expr} {es:List Expr} {t:TG} {u:vD} (h1:QG X e t) (h2:Dk X es u) (hs:(assignEach (e :: es) X.env).map (·.2)=assign e X.env :: (assignEach es X.env).map (·.2):=by rfl):Dk X (e :: es) (yo t u):=⟨uo h1.p h2.p hs⟩
end
structure Dj (X:Cx) (ifs:List Expr) (t:TT):Prop where
 p:Bm X ifs t
section
set_option autoImplicit true
set_option relaxedAutoImplicit true
theorem gs  {X:Cx}:Dj X [] BB:=⟨wI ⟩
theorem e9  {X:Cx} {c:Expr} {t:TT} (h:QT X c t):Dj X [c] t:=⟨wH h.p⟩
theorem dU  (hc:X.calm=true) (hi:QI X tg iter wi) (hg:∀ C fp pins s H,QG (i7 X N' scope cl C fp pins s H) tg g) (ht:∀ C fp pins s H,Dj (i7 X N' scope cl C fp pins s H) ifs tt) (he:∀ C fp pins s H,QE (i7 X N' scope cl C fp pins s H) elt te) (hfree:dh X scope cl N' src) (hclos:closureFor scope X.env=pure cl) (hcell:∀ x∈scope.names,x.2≠.cell) (hkind:scope.kind=.function) (hnames:∀ x∈scope.names,x.2=.local->scope.names.lookup x.1=some .local) (hcl:fi X scope cl) (hs:∀ x,foldedSetIterable iter X.env x=pure x:=by intro _;rfl):QE X (.ListComp elt [⟨tg,iter,ifs,0⟩] scope pos) (lU wi src g tt te):=⟨ut hc hi.p (fun z0 z1 z2 z3 z4=>(hg z0 z1 z2 z3 z4).p) (fun z0 z1 z2 z3 z4=>(ht z0 z1 z2 z3 z4).p) (fun z0 z1 z2 z3 z4=>(he z0 z1 z2 z3 z4).p) hfree hclos hcell hkind hnames hcl hs⟩
theorem gt  {i:Nat} {x:Str} {pos' pos2:Pos} (hN:X.N.Nodup) (hi':X.N[i]?=some x) (hx:vG X.env.scope x) (hc:X.calm=true) (hi:QI X tg iter wi) (hg:∀ C fp pins s H,QG (i7 X N' scope cl C fp pins s H) tg g) (ht:∀ C fp pins s H,Dj (i7 X N' scope cl C fp pins s H) ifs tt) (he:∀ C fp pins s H,QE (i7 X N' scope cl C fp pins s H) elt te) (hfree:dh X scope cl N' src) (hclos:closureFor scope X.env=pure cl) (hcell:∀ x∈scope.names,x.2≠.cell) (hkind:scope.kind=.function) (hnames:∀ x∈scope.names,x.2=.local->scope.names.lookup x.1=some .local) (hcl:fi X scope cl) (hs:∀ x,foldedSetIterable iter X.env x=pure x:=by intro _;rfl) (hsw:swapsWith (.ListComp elt [⟨tg,iter,ifs,0⟩] scope pos) (some (.Name x pos')) pos2.line X.env=pure true:=by rfl) (hf:X.fn x=true∨X.env.scope.names.lookup x=some .local:=by first | exact .inl rfl | exact .inr rfl | assumption):QS X (.Assign [.Name x pos'] (.ListComp elt [⟨tg,iter,ifs,0⟩] scope pos) pos2) (ny (lU wi src g tt te) (jG i)):=⟨wM hN hi' hx hc hi.p (fun z0 z1 z2 z3 z4=>(hg z0 z1 z2 z3 z4).p) (fun z0 z1 z2 z3 z4=>(ht z0 z1 z2 z3 z4).p) (fun z0 z1 z2 z3 z4=>(he z0 z1 z2 z3 z4).p) hfree hclos hcell hkind hnames hcl hs hsw hf⟩
end
section
variable {X:Cx} {K:PySem.W.Frag}
theorem bH (hK:X.K=K):Bc X (zx K):=hK ▸ ap
theorem mN (hK:X.K=K):Bc X (zy K):=hK ▸ bE
def FX (K:PySem.W.Frag):List V->Hp->VK->Prop:=fun xs H Q=>∃ p ys,xs=[.ref p]/\(aW K H p ys∨bh K H p ys)/\Q (.int ys.length) H
end
theorem be {a b:Expr} {op:Operator} {pos:Pos} {es:List Expr} {env:Env}:starEach (.BinOp a op b pos :: es) env=(false,eval (.BinOp a op b pos) env) :: starEach es env:=rfl
theorem xA {K:PySem.W.Frag} {a b:Addr} {xs ys:List V} {n:Nat} {g:TG} {tb:TS} {D:iq} {σ:L2.St} {H:Hp} (Pv:Nat->L2.St->Hp->Prop) (h1:n≤xs.length) (h2:n≤ys.length) (h3:xs.length≤n∨ys.length≤n) (h0:Pv 0 σ H)
  (hl:∀ i σ H,i≤n->Pv i σ H->bh K H a xs/\bh K H b ys)
  (hs:∀ i x y p σ H,i < n->xs[i]?=some x->ys[i]?=some y->Pv i σ H->H p=none->g (.ref p) σ (ax H p (.tup [x,y])) fun σ2 H2=>tb { D with nx:=Pv (i+1),ct:=Pv (i+1),bk:=D.nx } σ2 H2) (hd:∀ σ H,Pv n σ H->D.nx σ H) :
  ∃ W:Nat->Nat->L2.St->Hp->Prop,(∃ m,W 0 m σ H)/\∀ i m σ H,W i m σ H→
   ((CP K a b).stop i H/\D.nx σ H)∨((CP K a b).go i H/\∃ N:L2.St->Hp->Prop,(∀ σ' H',N σ' H'->∃ m',m' < m/\W (i+1) m' σ' H')/\∀ x H',(CP K a b).yld i H x H'->g x σ H' fun σ2 H2=>tb { D with nx:=N,ct:=N,bk:=D.nx } σ2 H2):=by
 refine⟨fun i m σ H=>m=n - i/\i≤n/\Pv i σ H,⟨n,by simp,Nat.zero_le _,h0⟩,?_⟩
 rintro i m σ H ⟨rfl,hi,p⟩
 obtain⟨q1,q2⟩:=hl i σ H hi p
 by_cases hlt:i < n
 ·have e1:xs[i]?=some (xs[i]'(by omega)):=List.getElem?_eq_getElem _
  have e2:ys[i]?=some (ys[i]'(by omega)):=List.getElem?_eq_getElem _
  refine .inr ⟨⟨xs,ys,_,_,q1,q2,e1,e2⟩,Pv (i+1),fun σ' H' p'=>⟨n - (i+1),by omega,rfl,hlt,p'⟩,fun x H' y=>?_⟩
  obtain⟨pp,x0,y0,hp,rfl,rfl,y1,y2⟩:=y
  exact hs i x0 y0 pp σ _ hlt (y1 xs q1) (y2 ys q2) p hp
 ·have e:i=n:=by omega
  subst e
  exact .inl ⟨⟨xs,ys,q1,q2,h3⟩,hd σ H p⟩
end B
namespace B
open PySem
section
variable {es:List Expr} {env:Env}
theorem aG {a b c}:starEach (.Tuple a b c :: es) env=(false,eval (.Tuple a b c) env) :: starEach es env:=rfl
theorem aw {a b c}:starEach (.Subscript a b c :: es) env=(false,eval (.Subscript a b c) env) :: starEach es env:=rfl
theorem az {a b c d}:starEach (.Call a b c d :: es) env=(false,eval (.Call a b c d) env) :: starEach es env:=rfl
theorem ad {a b}:starEach (.Name a b :: es) env=(false,eval (.Name a b) env) :: starEach es env:=rfl
theorem ao {a b c}:starEach (.Constant a b c :: es) env=(false,eval (.Constant a b c) env) :: starEach es env:=rfl
theorem eB {a b c}:starEach (.UnaryOp a b c :: es) env=(false,eval (.UnaryOp a b c) env) :: starEach es env:=rfl
theorem gk {a b c d}:starEach (.ListComp a b c d :: es) env=(false,eval (.ListComp a b c d) env) :: starEach es env:=rfl
theorem oF {a b c d}:starEach (.IfExp a b c d :: es) env=(false,eval (.IfExp a b c d) env) :: starEach es env:=rfl
end
end B
namespace B
open PySem L2 PyProof.Rows
inductive bU {α:Type} (P:V->α->Prop):List V->List α->Prop where
 | nil:bU P [] []
 | cons {x:V} {d:α} {xs:List V} {ds:List α} (h:P x d) (t:bU P xs ds):bU P (x :: xs) (d :: ds)
theorem bU.len {α:Type} {P:V->α->Prop}:∀ {xs:List V} {ds:List α},bU P xs ds->xs.length=ds.length
 | _,_,.nil=>rfl
 | _,_,.cons _ t=>congrArg (·+1) t.len
theorem bU.mono {α:Type} {P P':V->α->Prop} (m:∀ v d,P v d->P' v d):∀ {xs:List V} {ds:List α},bU P xs ds->bU P' xs ds
 | _,_,.nil=>.nil
 | _,_,.cons h t=>.cons (m _ _ h) (t.mono m)
theorem bU.snoc {α:Type} {P:V->α->Prop} {x:V} {d:α} (k:P x d):∀ {xs:List V} {ds:List α},bU P xs ds->bU P (xs++[x]) (ds++[d])
 | _,_,.nil=>.cons k .nil
 | _,_,.cons h t=>.cons h (t.snoc k)
theorem bU.at {α:Type} {P:V->α->Prop}:∀ {xs:List V} {ds:List α},bU P xs ds->∀ {i:Nat} {x:V},xs[i]?=some x->∃ d,ds[i]?=some d/\P x d
 | _,_,.cons h _,0,x,e=>by
  rw [List.getElem?_cons_zero] at e
  cases e
  exact⟨_,rfl,h⟩
 | _,_,.cons _ t,i+1,x,e=>t.at (i:=i) (by rw [List.getElem?_cons_succ] at e;exact e)
 | _,_,.nil,_,_,e=>by cases e
theorem bU.deep {α:Type} {K:PySem.W.Frag} {H:Hp} {P:V->α->Prop} {f:α->PyData} (m:∀ v d,P v d->cI K H v (f d)):∀ {xs:List V} {ds:List α},bU P xs ds->bv K H xs (ds.map f)
 | _,_,.nil=>.nil
 | _,_,.cons h t=>.cons (m _ _ h) (t.deep m)
end B
namespace B
open PySem PySem.Spec L2 PyProof.Rows
theorem bU.last {α:Type} {P:V->α->Prop} {xs:List V} {ds:List α} {n:Nat} (h:bU P xs ds) (hn:ds.length=n+1):∃ x d,jS xs (-1)=some x/\ds[n]?=some d/\P x d/\xs[n]?=some x:=by
 have hl:=h.len
 have hx:xs[n]?=some (xs[n]'(by omega)):=List.getElem?_eq_getElem _
 obtain⟨d,hd,p⟩:=h.at hx
 refine⟨_,d,?_,hd,p,hx⟩
 have e:xs=xs.take n++[xs[n]'(by omega)]:=by
  have:=List.take_append_drop n xs
  rw [List.drop_eq_getElem_cons (by omega)] at this
  rw [List.drop_eq_nil_of_le (by omega)] at this
  exact this.symm
 have:=vt (xs.take n) (xs[n]'(by omega))
 rw [← e] at this
 exact this
theorem vn {xs:List V} (h:1≤xs.length):fQ xs (some 1) none=xs.drop 1:=by
 unfold fQ
 rw [show (some (1:Int))=some (((1:Nat):Int)) from rfl,HT.sIx_nat,HT.sIx_none,Nat.min_eq_left h]
 exact List.take_of_length_le (by rw [List.length_drop];omega)
section
set_option autoImplicit true
set_option relaxedAutoImplicit true
theorem zI  {X:Cx} {elts:List Expr} {x1} {tp p pos:Pos} {a b:Expr} {ta:TA} (hg:Gl X "zip") (hm:X.mg "zip" = none) (ha:QA X [a,b] ta) (hs:starEach [a,b] X.env=[(false,eval a X.env),(false,eval b X.env)]:=by rfl) (hs2:starEach [b] X.env=[(false,eval b X.env)]:=by rfl):QI X (.Tuple elts x1 tp) (.Call (.Name "zip" p) [a,b] [] pos) (Cn X.K ta):=⟨zW hg hm ha.p hs hs2⟩
theorem zJ  {X:Cx} {tg l:Expr} {tl:TE} (hl:QE X l tl):QI X tg l (Cp X.K tl):=⟨zY hl.p⟩
end
def DK (K:PySem.W.Frag):R2:=fun x y H Q=>∃ d d',cI K H x d/\cI K H y d'/\d.canLay0=true/\d'.canLay0=true/\d.depth≤32/\Q (.bl (PyData.eqv d d')) H
theorem uz {X:Cx} {k:Nat} (hr:dF k X.A):fP X (compareOp .Eq) (DK X.K):=by
 intro pins s σ H x y v u Q I rx ry h
 obtain⟨d,d',hd,hd',c,c',dp,q⟩:=h
 obtain⟨as,ra⟩:=cI.reads I hd rx
 obtain⟨bs,rb⟩:=cI.reads I hd' ry
 exact SeqAt.compareEq_reads ra rb c c' (by have:=hr.units;omega) ⟨.bl _,H,I,rfl,q⟩
theorem pE {r q:R}:PyData.eqv (dR r) (dR q)=decide (r=q):=by
 by_cases h:r=q
 ·rw [decide_eq_true h,h];exact ie q
 ·rw [decide_eq_false h]
  cases c:PyData.eqv (dR r) (dR q) with
  | false=>rfl
  | true=>exact absurd (vc c) h
def BX (K:PySem.W.Frag):List V->Hp->VK->Prop:=fun xs H Q=>∃ a ys n b,xs=[.ref a,.ty n]/\bh K H a ys/\gc "tuple" n=some b/\Q (.bl b) H
theorem qT {X:Cx}:fj X (.builtin "isinstance") (BX X.K):=by
 intro pins s σ H xs us Q I r h
 obtain⟨a,ys,n,b,rfl,hS,e,q⟩:=h
 obtain⟨u,u2,rfl,rx,ry⟩:=lN r
 obtain rfl:u2=Value.type n:=ry
 cases (show u=Value.ref a from rx)
 obtain⟨its,_,⟨o,h1,h2,_⟩,_⟩:=I.tuple hS
 exact PySem.W.kia_one PySem.W.kitx_tuple I.kIn ⟨o,h1,h2⟩ (nZ e) (fun z=>nomatch z) fun tk=>⟨.bl b,H,I.tok tk,rfl,q⟩
section
set_option autoImplicit true
set_option relaxedAutoImplicit true
end
end B
namespace L2
open PySem PySem.Spec PyProof.Rows
section
variable {κ:Type} [DecidableEq κ]
def iu (kvs:List (κ×V)) (k:κ):Option V:=(kvs.find? fun kv=>decide (kv.1=k)).map (·.2)
def fG (kvs:List (κ×V)) (k:κ) (v:V):List (κ×V):=
 if (kvs.any fun kv=>decide (kv.1=k))=true then kvs.map (fun kv=>if kv.1=k then (kv.1,v) else kv) else kvs++[(k,v)]
def Fb (kvs:List (κ×V)) (k:κ):List (κ×V):=kvs.filter fun kv=>decide (kv.1≠k)
theorem gU {p:κ×V} {r:List (κ×V)} {k:κ} (e:p.1=k):iu (p :: r) k=some p.2:=by simp [iu,List.find?_cons,e]
theorem gW {p:κ×V} {r:List (κ×V)} {k:κ} (e:¬ p.1=k):iu (p :: r) k=iu r k:=by simp [iu,List.find?_cons,e]
theorem lP (k:κ):∀ kvs:List (κ×V),(kvs.any fun kv=>decide (kv.1=k))=(iu kvs k).isSome
 | []=>rfl
 | p :: r=>by
  rw [List.any_cons]
  by_cases e:p.1=k
  ·simp only [gU e,decide_eq_true e,Bool.true_or,Option.isSome_some]
  ·rw [gW e,decide_eq_false e,Bool.false_or];exact lP k r
theorem iM (kvs:List (κ×V)) (k:κ) (v:V):(fG kvs k v).length≤kvs.length+1:=by
 unfold fG
 split
 ·rw [List.length_map];omega
 ·rw [List.length_append,List.length_cons,List.length_nil];omega
theorem jV.isSome_eq {o:Option V} {u:Option Value} (r:jV o u):o.isSome=u.isSome:=by
 cases o with
 | none=>cases u with
  | none=>rfl
  | some _=>exact (show False from r).elim
 | some _=>cases u with
  | none=>exact (show False from r).elim
  | some _=>rfl
theorem jV.getD {o:Option V} {u:Option Value} {d:V} {d':Value} (r:jV o u) (rd:aY d d'):aY (o.getD d) (u.getD d'):=by
 cases o with
 | none=>cases u with
  | none=>exact rd
  | some _=>exact (show False from r).elim
 | some _=>cases u with
  | none=>exact (show False from r).elim
  | some _=>exact r
theorem KV.val {kvs:List (κ×V)} {vs:List (κ×Value)} (r:KV kvs vs) (k:κ):jV (iu kvs k) (valueAt vs k):=by
 unfold KV at r
 induction r with
 | nil=>exact True.intro
 | @cons p q ps qs h t ih=>
  obtain⟨h1,h2⟩:=h
  by_cases e:p.1=k
  ·have e':q.1=k:=h1.symm.trans e
   have b:valueAt (q :: qs) k=some q.2:=by simp [valueAt,List.find?_cons,e']
   rw [gU e,b];exact h2
  ·have e':¬ q.1=k:=fun z=>e (h1.trans z)
   have b:valueAt (q :: qs) k=valueAt qs k:=by simp [valueAt,List.find?_cons,e']
   rw [gW e,b];exact ih
theorem KV.any {kvs:List (κ×V)} {vs:List (κ×Value)} (r:KV kvs vs) (k:κ):(kvs.any fun kv=>decide (kv.1=k))=vs.any fun kv=>decide (kv.1=k):=by
 unfold KV at r
 induction r with
 | nil=>rfl
 | cons h t ih=>rw [List.any_cons,List.any_cons,ih,h.1]
theorem KV.repl {kvs:List (κ×V)} {vs:List (κ×Value)} (r:KV kvs vs) (k:κ) {y:V} {u:Value} (ry:aY y u) :
  KV (kvs.map fun kv=>if kv.1=k then (kv.1,y) else kv) (vs.map fun kv=>if kv.1=k then (kv.1,u) else kv):=by
 unfold KV at r ⊢
 induction r with
 | nil=>exact .nil
 | @cons p q ps qs h t ih=>
  rw [List.map_cons,List.map_cons]
  refine .cons ?_ ih
  obtain⟨h1,h2⟩:=h
  by_cases e:p.1=k
  ·rw [if_pos e,if_pos (h1.symm.trans e)];exact⟨h1,ry⟩
  ·rw [if_neg e,if_neg (fun z=>e (h1.trans z))];exact⟨h1,h2⟩
theorem KV.put {kvs:List (κ×V)} {vs:List (κ×Value)} (r:KV kvs vs) (k:κ) {y:V} {u:Value} (ry:aY y u):KV (fG kvs k y) (stored vs k u):=by
 unfold fG stored
 rw [r.any k]
 by_cases e:(vs.any fun kv=>decide (kv.1=k))=true
 ·rw [if_pos e,if_pos e];exact r.repl k ry
 ·rw [if_neg e,if_neg e];exact Paired.snoc r ⟨rfl,ry⟩
theorem KV.length {kvs:List (κ×V)} {vs:List (κ×Value)} (r:KV kvs vs):kvs.length=vs.length:=Paired.length r
end
theorem uU {P:Program} {w:World} {k:cV} {u:Value} (r:aY (kV k) u):(bQ P w).is k u=true:=by
 cases k with
 | inl i=>obtain⟨t,e⟩:=(show ∃ t,u=Value.int i t from r);subst e;exact mH P w i t
 | inr x=>obtain⟨t,e⟩:=(show ∃ t,u=Value.str x t from r);subst e;exact mG P w x t
theorem ka {P:Program} {w:World}:∀ {ks:List cV} {us:List Value},bg (ks.map kV) us->ItemsAre (bQ P w) ks us
 | [],_,r=>by rw [List.map_nil] at r;cases r;exact .nil
 | k :: ks,_,r=>by
  rw [List.map_cons] at r
  cases r with
  | cons h t=>exact .cons (uU h) (ka t)
abbrev KT (H:Hp):List (List cV×V)->List (List cV×Addr×Value)->Prop:=Paired fun p q=>p.1=q.1/\H q.2.1=some (.tup (p.1.map kV))/\aY p.2 q.2.2
theorem KT.val {H:Hp} {kvs:List (List cV×V)} {xs:List (List cV×Addr×Value)} (r:KT H kvs xs) (k:List cV):jV (iu kvs k) ((atKey xs k).map (·.2)):=by
 induction r with
 | nil=>exact True.intro
 | @cons p q ps qs h t ih=>
  obtain⟨h1,_,h2⟩:=h
  by_cases e:p.1=k
  ·have e':q.1=k:=h1.symm.trans e
   have b:atKey (q :: qs) k=some q.2:=by simp [atKey,List.find?_cons,e']
   rw [gU e,b];exact h2
  ·have e':¬ q.1=k:=fun z=>e (h1.trans z)
   have b:atKey (q :: qs) k=atKey qs k:=by simp [atKey,List.find?_cons,e']
   rw [gW e,b];exact ih
theorem KT.repl {H:Hp} {kvs:List (List cV×V)} {xs:List (List cV×Addr×Value)} (r:KT H kvs xs) (k:List cV) {y:V} {u:Value} (ry:aY y u) :
  KT H (kvs.map fun kv=>if kv.1=k then (kv.1,y) else kv) (xs.map (putAt k u)):=by
 induction r with
 | nil=>exact .nil
 | @cons p q ps qs h t ih=>
  rw [List.map_cons,List.map_cons]
  refine .cons ?_ ih
  obtain⟨h1,h2,h3⟩:=h
  unfold putAt
  by_cases e:p.1=k
  ·rw [if_pos e,if_pos (h1.symm.trans e)];exact⟨h1,h2,ry⟩
  ·rw [if_neg e,if_neg (fun z=>e (h1.trans z))];exact⟨h1,h2,h3⟩
theorem KT.put {H:Hp} {kvs:List (List cV×V)} {xs:List (List cV×Addr×Value)} (r:KT H kvs xs) (k:List cV) {b:Addr} {y:V} {u:Value} (hb:H b=some (.tup (k.map kV))) (ry:aY y u) :
  KT H (fG kvs k y) (storedH xs k b u):=by
 have e:(kvs.any fun kv=>decide (kv.1=k))=(atKey xs k).isSome:=by
  rw [lP,(r.val k).isSome_eq,Option.isSome_map]
 unfold fG storedH
 rw [e]
 by_cases q:(atKey xs k).isSome=true
 ·rw [if_pos q,if_pos q];exact r.repl k ry
 ·rw [if_neg q,if_neg q];exact Paired.snoc r ⟨rfl,hb,ry⟩
theorem KT.keeps {H H':Hp} {kvs:List (List cV×V)} {xs:List (List cV×Addr×Value)} (r:KT H kvs xs) (ht:∀ b ys,H b=some (.tup ys)->H' b=some (.tup ys)):KT H' kvs xs:=
 Paired.mapP r fun _ _ z=>⟨z.1,ht _ _ z.2.1,z.2.2⟩
section
variable {P:Program} {w:World} {H:Hp} {h:Heap} {a:Addr}
theorem yg {u:HO} (ok:gD P w H h) (e:Rd H a u):bJ P w H h a u:=e.ok ok
theorem ve {kvs:List (cV×V)} (ok:gD P w H h) (e:Rd H a (.dK kvs)):kvs.length≤sizeLine/\(a == sysModules)=false/\∃ vs,KV kvs vs/\h.DictOf (bQ P w) a vs:=
 show bJ P w H h a (.dK kvs) from yg ok e
theorem yF {kvs:List (cV×V)} (ok:gD P w H h) (e:H a=some (.dK kvs)):kvs.length≤sizeLine/\(a == sysModules)=false/\∃ vs,KV kvs vs/\h.DictOf (bQ P w) a vs:=ve ok (.inl e)
theorem n4 {ks:List cV} (ok:gD P w H h) (e:H a=some (.tup (ks.map kV))):(tupleKind (bQ P w)).is h ks a:=by
 obtain⟨_,its,r,o,h1,h2,n,h3⟩:=(show bJ P w H h a (.tup (ks.map kV)) from ok a _ e)
 exact⟨o,its.toArray,n,h1,h2,h3,by simpa using ka r⟩
theorem vd {kvs:List (List cV×V)} (ok:gD P w H h) (e:Rd H a (.dT kvs)):kvs.length≤sizeLine/\(a == sysModules)=false∧
  ∃ xs,KT H kvs xs/\h.DictOfH (tupleKind (bQ P w)) a xs:=by
 obtain⟨z,y,xs,r,o,es,ep,h1,h2,h3,h4,h5⟩:=(show bJ P w H h a (.dT kvs) from yg ok e)
 refine⟨z,y,xs,r,o,es,ep,h1,h2,h3,h4,fun x hx=>?_,h5⟩
 have all:∀ {l:List (List cV×V)} {m:List (List cV×Addr×Value)},KT H l m->∀ x∈m,(tupleKind (bQ P w)).is h x.1 x.2.1:=by
  intro l m q
  induction q with
  | nil=>intro x hx;exact nomatch hx
  | @cons p q ps qs hq t ih=>
   intro x hx
   rcases List.mem_cons.mp hx with e | hx
   ·subst e
    exact n4 ok (by rw [← hq.1];exact hq.2.1)
   ·exact ih x hx
 exact all r x hx
theorem Cz {kvs:List (List cV×V)} (ok:gD P w H h) (e:H a=some (.dT kvs)):kvs.length≤sizeLine/\(a == sysModules)=false∧
  ∃ xs,KT H kvs xs/\h.DictOfH (tupleKind (bQ P w)) a xs:=vd ok (.inl e)
end
def jW (H:Hp) (a:Addr) (y:V) (r:Option V):Prop:=
 (∃ kvs k,Rd H a (.dK kvs)/\y=kV k/\r=iu kvs k)∨∃ kvs k b,Rd H a (.dT kvs)/\y=.ref b/\H b=some (.tup (k.map kV))/\r=iu kvs k
def qV (H:Hp) (a:Addr) (y v:V) (H':Hp):Prop:=
 (∃ kvs k,H a=some (.dK kvs)/\y=kV k/\kvs.length < sizeLine/\H'=ax H a (.dK (fG kvs k v)))∨
 ∃ kvs k b,H a=some (.dT kvs)/\y=.ref b/\H b=some (.tup (k.map kV))/\kvs.length < sizeLine/\H'=ax H a (.dT (fG kvs k v))
theorem jW.k {H:Hp} {a:Addr} {kvs:List (cV×V)} {k:cV} (e:H a=some (.dK kvs)):jW H a (kV k) (iu kvs k):=.inl ⟨kvs,k,.inl e,rfl,rfl⟩
theorem qV.k {H:Hp} {a:Addr} {kvs:List (cV×V)} {k:cV} {v:V} (e:H a=some (.dK kvs)) (hl:kvs.length < sizeLine):qV H a (kV k) v (ax H a (.dK (fG kvs k v))):=.inl ⟨kvs,k,e,rfl,hl,rfl⟩
section
variable {X:Cx} {pins:List (Addr×Obj)} {σ:St} {H:Hp} {s:Shared} {a:Addr} {y v:V} {u r:Value} {o:Option V} {A:Around} {E:Value->Shared->Prop}
theorem Inv.big (I:Inv X pins σ H s):sysModules < s.heap.objs.size:=by
 have h:mainGlobals < s.heap.objs.size:=(I.mod.glob.keeps I.bk).lt
 exact Nat.lt_trans (by decide) h
theorem lA {h':Heap} {t':Nat} {ob:HO} (I:Inv X pins σ H s) (mu:CM (H a)) (hs:Heap.SameBut a s.heap h') (he:∃ q,h'.get? a=some q) (new:bJ X.prog X.w (ax H a ob) h' a ob) :
  Inv X pins σ (ax H a ob) { s with heap:=h',toks:=t' }:=
 I.write (x:=a) (e:=a) mu (.inl rfl) (fun b q hb z=>(hs.2 b hb).trans z) he new
theorem AS {P:Program} {w:World} {H':Hp} {h':Heap} {kvs:List (cV×V)} {vs:List (cV×Value)} (z:kvs.length≤sizeLine) (hd:(a == sysModules)=false) (rel:KV kvs vs) (dd:h'.DictOf (bQ P w) a vs) :
  bJ P w H' h' a (.dK kvs):=⟨z,hd,vs,rel,dd⟩
theorem qO {H':Hp} {Q:Unit->Shared->Prop} (hu:A.units+1 < cLine) (I:Inv X pins σ H s) (g:qV H a y v H') (ry:aY y u) (rv:aY v r) (h:∀ s',Inv X pins σ H' s'->Q () s') :
  wpAny (model X.prog X.w) A (setItem (.ref a) u r) Q E s:=by
 rcases g with ⟨kvs,k,e,ey,l,eH⟩ | ⟨kvs,k,b,e,ey,eb,l,eH⟩
 ·subst ey eH
  obtain⟨z,hd,vs,rel,dd⟩:=yF I.hok e
  have hz:vs.length≤sizeLine:=by rw [← rel.length];exact z
  have hl:(fG kvs k v).length≤sizeLine:=by have:=iM kvs k v;omega
  refine wpAny_setItem_pairs (hsz:=hz) (uU ry) dd fun h' dd' hs=>h _ ?_
  have he:∃ q,h'.get? a=some q:=let ⟨q,_,_,hq,_⟩:=dd';⟨q,hq⟩
  exact lA I (by rw [e];exact True.intro) hs he (AS hl hd (rel.put k rv) dd')
 ·subst ey eH
  cases (show u=Value.ref b from ry)
  obtain⟨z,hd,xs,rel,dd⟩:=Cz I.hok e
  have hz:xs.length≤sizeLine:=by rw [← Paired.length rel];exact z
  have hl:(fG kvs k v).length≤sizeLine:=by have:=iM kvs k v;omega
  refine wpAny_setItem_heap (hsz:=hz) (tupleKind_room_in1 hu) (n4 I.hok eb) dd fun h' dd' hs=>h _ ?_
  obtain⟨q,es,ep,hq,h2,h3,h4,_,h5⟩:=dd'
  refine lA I (by rw [e];exact True.intro) hs ⟨q,hq⟩ ⟨hl,hd,_,(rel.put k eb rv).keeps fun c ys ec=>?_,q,es,ep,hq,h2,h3,h4,h5⟩
  rw [aD (Cj ec e (fun z=>nomatch z))]
  exact ec
end
section
variable {X:Cx} {pins:List (Addr×Obj)} {σ:St} {H:Hp} {s:Shared} {a:Addr} {kvs:List (cV×V)} {k:cV} {u:Value} {A:Around} {E:Value->Shared->Prop}
end
def Gi (i:Expr):Prop:=∀ ov iv,subscripted i false ov iv=operate [ov,iv] (getItem ov iv)
def EH (td ty:TE):TE:=fun σ H Q=>td σ H fun x H1=>ty σ H1 fun y H2=>∃ a v,x=.ref a/\jW H2 a y (some v)/\Q v H2
def FI (ty td:TE):TE:=fun σ H Q=>ty σ H fun y H1=>td σ H1 fun x H2=>∃ a o,x=.ref a/\jW H2 a y o/\Q (.bl o.isSome) H2
def CW (ty td:TE):TE:=fun σ H Q=>ty σ H fun y H1=>td σ H1 fun x H2=>∃ a o,x=.ref a/\jW H2 a y o/\Q (.bl (!o.isSome)) H2
def ye (td ty tv:TE):TS:=fun D σ H=>tv σ H fun v H1=>td σ H1 fun x H2=>ty σ H2 fun y H3=>∃ a H4,x=.ref a/\qV H3 a y v H4/\D.nx σ H4
def EO (td ty tv:TE) (rd:V->V->Hp->VK->Prop):TS:=fun D σ H=>td σ H fun x H1=>ty σ H1 fun y H2=>∃ a v,x=.ref a/\jW H2 a y (some v)∧
 tv σ H2 fun y2 H3=>rd v y2 H3 fun z H4=>∃ H5,qV H4 a y z H5/\D.nx σ H5
section
variable {X:Cx} {o i e value:Expr} {pos pos' tpos:Pos} {td ty tv:TE}
theorem wO (hu:X.A.units+1 < cLine) (ho:PE X o td) (hi:PE X i ty) (hv:PE X value tv) (hs:swapsWith value (some (.Subscript o i pos')) pos.line X.env=pure false) :
  PS X (.Assign [.Subscript o i pos'] value pos) (ye td ty tv):=by
 intro pins s σ H D I h
 refine wpAny_Assign_Subscript (cb (hv pins s σ H _ I h) fun r s1 ⟨v,H1,I1,rv,q1⟩=>cb (ho pins s1 σ H1 _ I1 q1) fun u s2 ⟨x,H2,I2,rx,q2⟩=>cb (hi pins s2 σ H2 _ I2 q2) fun iv s3 ⟨y,H3,I3,ry,a,H4,ex,g,q3⟩=>?_) hs
 subst ex
 obtain rfl:u=Value.ref a:=rx
 exact qO hu I3 g ry rv fun s4 I4=>⟨σ,H4,I4,q3⟩
end
theorem vf {P:Program} {w:World} {H:Hp} (h:Heap) (hb:sysModules < h.objs.size):bJ P w H (h.push { cls:=.type "dict", data:=.dict #[] }) h.objs.size (.dK []):=
 ⟨Nat.zero_le _,beq_eq_false_iff_ne.mpr (Ne.symm (Nat.ne_of_lt hb)),[],.nil,Heap.DictOf.new h⟩
def rK:TE:=fun _ H Q=>∀ p,H p=none->Q (.ref p) (ax H p (.dK []))
section
variable {X:Cx} {pos:Pos}
theorem uv:PE X (.Dict [] [] pos) rK:=fun pins s σ H Q I h=>
 wpAny_Dict_empty ⟨.ref s.heap.objs.size,_,I.laid (a:=s.heap.objs.size) (o:=.dK []) (t':=s.toks) (fun _ _ q=>Heap.get?_push_of_some _ q) (Nat.le_refl _) (vf s.heap I.big),rfl,h _ (I.hok.fresh (Nat.le_refl _))⟩
end
def nw:List (TE×TE)->St->Hp->(List (V×V)->Hp->Prop)->Prop
 | [],_,H,Q=>Q [] H
 | (tk,tv) :: r,σ,H,Q=>tk σ H fun x H1=>tv σ H1 fun y H2=>nw r σ H2 fun ps H3=>Q ((x,y) :: ps) H3
abbrev VV:List (V×V)->List (Value×Value)->Prop:=Paired fun p q=>aY p.1 q.1/\aY p.2 q.2
def GR (X:Cx) (pos:Pos) (keys:List (Option Expr)) (values:List Expr) (trs:List (TE×TE)):Prop:=
 ∀ (pins:List (Addr×Obj)) (s:Shared) (σ:St) (H:Hp) (Q:List (V×V)->Hp->Prop),Inv X pins σ H s->nw trs σ H Q→
  wpAny (model X.prog X.w) X.A (evalPairs (pairTrees keys values X.env pos)) (fun vs s'=>∃ ps H',Inv X pins σ H' s'/\VV ps vs/\Q ps H') X.xe s
def AE (kvs more:List (cV×V)):List (cV×V):=more.foldl (fun acc kv=>fG acc kv.1 kv.2) kvs
def EG (trs:List (TE×TE)):TE:=fun σ H Q=>∀ p,H p=none->nw trs σ (ax H p (.dK [])) fun ps H2=>H2 p=some (.dK [])/\∃ kvs:List (cV×V),ps=kvs.map (fun kv=>(kV kv.1,kv.2))/\kvs.length≤15/\Q (.ref p) (ax H2 p (.dK (AE [] kvs)))
structure M1 (X:Cx) (o:Expr) (m:Str) (apos:Pos) (e:Expr) (cpos:Pos):Prop where
 base:attributeBase o m X.env (eval o X.env)=eval o X.env
 few:((backTo cpos (starEach [e] X.env)).all (fun x=>!x.1) && (backToKw cpos (keywordEach [] X.env)).all (fun x=>x.1.isSome)
  && decide (([e]:List Expr).length+([]:List Keyword).length+(if ([]:List Keyword).isEmpty then 0 else 1) < 30))=true
 line:(apos.endLine == cpos.line)=true
 trees:backTo cpos (starEach [e] X.env)=[(false,eval e X.env)]
structure M2 (X:Cx) (o:Expr) (m:Str) (apos:Pos) (e f:Expr) (cpos:Pos):Prop where
 base:attributeBase o m X.env (eval o X.env)=eval o X.env
 few:((backTo cpos (starEach [e,f] X.env)).all (fun x=>!x.1) && (backToKw cpos (keywordEach [] X.env)).all (fun x=>x.1.isSome)
  && decide (([e,f]:List Expr).length+([]:List Keyword).length+(if ([]:List Keyword).isEmpty then 0 else 1) < 30))=true
 line:(apos.endLine == cpos.line)=true
 trees:backTo cpos (starEach [e,f] X.env)=[(false,eval e X.env),(false,eval f X.env)]
def Ek (H:Hp) (a:Addr):Prop:=(∃ kvs,Rd H a (.dK kvs))∨∃ kvs,Rd H a (.dT kvs)
theorem uX {X:Cx} {pins:List (Addr×Obj)} {σ:St} {H:Hp} {s:Shared} {a:Addr} (I:Inv X pins σ H s) (d:Ek H a) :
  s.TypeIs (.ref a) "dict" /\ (∀ b,Value.ref a=.ref b->∃ ob,s.heap.get? b=some ob/\ob.dict=none)/\(a == sysModules)=false:=by
 rcases d with ⟨kvs,e⟩ | ⟨kvs,e⟩
 ·obtain⟨_,hd,vs,_,dd⟩:=ve I.hok e
  refine⟨dd.typeIs,fun b q=>?_,hd⟩
  cases q
  obtain⟨ob,_,_,h1,h2,_⟩:=dd
  exact⟨ob,h1,h2.2.1⟩
 ·obtain⟨_,hd,xs,_,dd⟩:=vd I.hok e
  refine⟨dd.typeIs,fun b q=>?_,hd⟩
  cases q
  obtain⟨ob,_,_,h1,h2,_⟩:=dd
  exact⟨ob,h1,h2.2.1⟩
section
variable {X:Cx} {pins:List (Addr×Obj)} {σ:St} {H:Hp} {s:Shared} {a:Addr} {y d:V} {u r:Value} {o:Option V} {A:Around} {E:Value->Shared->Prop}
theorem AU {Q:Value->Shared->Prop} (hu:A.units+1 < cLine) (I:Inv X pins σ H s) (g:jW H a y o) (ry:aY y u) (rd:aY d r) (h:∀ w' s',Inv X pins σ H s'->aY (o.getD d) w'->Q w' s') :
  wpAny (model X.prog X.w) A (call (.builtin "dict.get") [.ref a,u,r]) Q E s:=by
 rcases g with ⟨kvs,k,e,ey,l⟩ | ⟨kvs,k,b,e,ey,eb,l⟩
 ·subst ey
  obtain⟨z,hd,vs,rel,dd⟩:=ve I.hok e
  refine call_meetsIn PySem.F.slot_dict_get dd.typeIs PySem.F.entry_dict_get (PySem.F.args_dict_get_3 _ _ _) (meets_dict_get_default (bQ X.prog X.w) a (uU ry) hd r) ⟨_,dd.mapOf,h _ _ (I.tok _) ?_⟩
  rw [l]
  exact (rel.val k).getD rd
 ·subst ey
  cases (show u=Value.ref b from ry)
  obtain⟨z,hd,xs,rel,dd⟩:=vd I.hok e
  refine call_meetsIn PySem.F.slot_dict_get dd.typeIs PySem.F.entry_dict_get (PySem.F.args_dict_get_3 _ _ _) (meetsH_dict_get_default (tupleKind (bQ X.prog X.w)) a b hd r) ⟨tupleKind_room_in1 hu,k,xs,n4 I.hok eb,dd,h _ _ (I.tok _) ?_⟩
  rw [l]
  exact (rel.val k).getD rd
end
def Dx (td ty:TE):TE:=fun σ H Q=>td σ H fun x H1=>∃ a,x=.ref a/\Ek H1 a/\ty σ H1 fun y H2=>∃ o,jW H2 a y o/\Q (o.getD .non) H2
def rL (td ty tx:TE):TE:=fun σ H Q=>td σ H fun x H1=>∃ a,x=.ref a/\Ek H1 a/\ty σ H1 fun y H2=>tx σ H2 fun z H3=>∃ o,jW H3 a y o/\Q (o.getD z) H3
section
variable {X:Cx} {o e f:Expr} {apos cpos:Pos} {td ty tx:TE}
theorem uw (hu:X.A.units+1 < cLine) (ho:PE X o td) (he:PE X e ty) (hf:PE X f tx) (m:M2 X o "get" apos e f cpos):PE X (.Call (.Attribute o "get" apos) [e,f] [] cpos) (rL td ty tx):=by
 intro pins s σ H Q I h
 refine wpAny_Call_method m.base m.few m.line PySem.F.plainAttrs_dict PySem.F.slot_dict_get PySem.F.type_dict_get (cb (ho pins s σ H _ I h) fun u s1 ⟨x,H1,I1,rx,a,ex,d,q1⟩=>?_)
 subst ex
 obtain rfl:u=Value.ref a:=rx
 obtain⟨t1,t2,_⟩:=uX I1 d
 refine⟨t1,t2,?_⟩
 rw [m.trees]
 refine Calls.callWith_builtin rfl (Calls.evalArgs_plain (Calls.spliced_cons (cb (he pins s1 σ H1 _ I1 q1) fun iv s2 ⟨y,H2,I2,ry,q2⟩=>
  Calls.spliced_cons (cb (hf pins s2 σ H2 _ I2 q2) fun fv s3 ⟨z,H3,I3,rz,ov,g,q3⟩=>Calls.spliced_nil ?_))))
 exact AU hu I3 g ry rz fun w' s4 I4 rw'=>⟨_,H3,I4,rw',q3⟩
end
end L2
namespace B
open PySem PySem.Spec L2 PyProof.Rows
theorem qP {α β:Type} {K:PySem.W.Frag} {H:Hp} {D a:Addr} {xs:List V} {ds:List α} {P:Hp->V->β->Prop} {f:α->β} {src:List (Option Nat)} {σ:L2.St} {g:TG} {tt:TT} {te:TE} {Q:Hp->Prop}
  (mono:∀ H H' v d,au K H H'->P H v d->P H' v d) (hD:H D=none) (hS:bh K H a xs) (hl:xs.length=ds.length) (hn:ds.length≤1000)
  (turn:∀ (i:Nat) (x:V) (d:α) (H':Hp),xs[i]?=some x->ds[i]?=some d->aO H H'->∀ (R:VK) (E:Hp->Prop),(∀ v H'',aO H' H''->P H'' v (f d)->R v H'')→
   g x (cn src σ) H' fun σ2 H2=>iK (cn src σ) σ2/\tt σ2 H2 fun ok H3=>if ok=true then te σ2 H3 R else E H3)
  (fin:∀ H' ys,aO H H'->H' D=some (.lst ys)->bU (P H') ys (ds.map f)->Q H') :
  ∃ W:Nat->Nat->List V->Hp->Prop,(∃ m,W 0 m [] (ax H D (.lst [])))/\∀ i m ys H,W i m ys H->((vI K a).stop i H/\Q H)∨((vI K a).go i H/\∀ x H',(vI K a).yld i H x H'→
   g x (cn src σ) H' fun σ2 H2=>iK (cn src σ) σ2/\tt σ2 H2 fun ok H3=>
    if ok=true then te σ2 H3 fun y H4=>H4 D=some (.lst ys)/\ys.length < sizeLine/\∃ m',m' < m/\W (i+1) m' (ys++[y]) (ax H4 D (.lst (ys++[y]))) else ∃ m',m' < m/\W (i+1) m' ys H3):=by
 refine⟨fun i m ys H'=>i≤ds.length/\m=ds.length - i/\H' D=some (.lst ys)/\aO H H'/\bU (P H') ys ((ds.take i).map f),⟨_,Nat.zero_le _,rfl,ah,aj hD _,.nil⟩,?_⟩
 rintro i m ys H1 ⟨hi,rfl,d1,s1,al1⟩
 have hS1:bh K H1 a xs:=au.same s1 _ _ hS
 by_cases hix:i < ds.length
 ·have hx0:xs[i]?=some (xs[i]'(by omega)):=List.getElem?_eq_getElem _
  refine .inr ⟨⟨xs,_,hS1,hx0⟩,?_⟩
  rintro x H2 ⟨rfl,hy⟩
  have hx:=hy xs hS1
  obtain⟨d,hd⟩:∃ d,ds[i]?=some d:=⟨_,List.getElem?_eq_getElem hix⟩
  refine turn i x d _ hx hd s1 _ _ fun v H3 s3 p3=>?_
  have d3:H3 D=some (.lst ys):=s3 _ _ d1
  have tm:au K H2 (ax H3 D (.lst (ys++[v]))):=(au.same s3).trans (au.up d3 _)
  refine⟨d3,aZ (by rw [al1.len,List.length_map,List.length_take];omega),ds.length - (i+1),by omega,hix,rfl,ah,fun b o q=>?_,?_⟩
  ·rw [aD (aB q hD)]
   exact s3 _ _ (s1 _ _ q)
  ·rw [List.take_add_one,hd,List.map_append]
   exact (al1.mono fun v d p=>mono _ _ _ _ tm p).snoc (mono _ _ _ _ (au.up d3 _) p3)
 ·have e:i=ds.length:=by omega
  subst e
  rw [List.take_length] at al1
  exact .inl ⟨⟨xs,hS1,by omega⟩,fin H1 ys s1 d1 al1⟩
def Fv:PyData->String
 | .none => "NoneType"
 | .bool _ => "bool"
 | .int _ => "int"
 | .str _ => "str"
 | .list _ => "list"
 | .tuple _ => "tuple"
 | .dict _ => "dict"
def BY (K:PySem.W.Frag):List V->Hp->VK->Prop:=fun xs H Q=>∃ v d n b,xs=[v,.ty n]/\cI K H v d/\gc (Fv d) n=some b/\Q (.bl b) H
theorem aV {X:Cx}:fj X (.builtin "isinstance") (BY X.K):=by
 intro pins s σ H xs us Q I r h
 obtain⟨v,d,n,b,rfl,hD,e,q⟩:=h
 cases hD with
 | non=>exact il pins s σ H _ us Q I r ⟨_,n,_,b,rfl,.non,e,q⟩
 | bl c=>exact il pins s σ H _ us Q I r ⟨_,n,_,b,rfl,.bl c,e,q⟩
 | int i=>exact il pins s σ H _ us Q I r ⟨_,n,_,b,rfl,.int i,e,q⟩
 | str x=>exact il pins s σ H _ us Q I r ⟨_,n,_,b,rfl,.str x,e,q⟩
 | @tup a ys ds hS hA=>exact qT pins s σ H _ us Q I r ⟨a,ys,n,b,rfl,hS,e,q⟩
 | @lst a ys ds hS hA=>
  obtain⟨u,u2,rfl,rx,ry⟩:=lN r
  obtain rfl:u2=Value.type n:=ry
  cases (show u=Value.ref a from rx)
  obtain⟨its,_,⟨o,k,h1,h2,_⟩,_⟩:=I.list hS
  exact PySem.W.kia_one PySem.W.kitx_list I.kIn ⟨o,h1,h2⟩ (nZ e) (fun z=>nomatch z) fun tk=>⟨.bl b,H,I.tok tk,rfl,q⟩
def Dp:PyData->Bool
 | .int _=>true
 | _=>false
def Fx (n:Nat):PyData->Bool
 | .tuple xs=>decide (xs.length=n)
 | _=>false
def BR:PyData->Bool
 | .tuple [.int a,.int b]=>decide (1≤b) && decide (Int.gcd a b=1)
 | _=>false
def E1:PyData->Bool
 | .tuple [x,y]=>BR x && BR y
 | _=>false
structure Sh (k n:Nat) (d:PyData):Prop where
 sh:d.showable=true
 nd:d.hasDict=false
 dp:d.depth≤k
 sz:d.shown.length≤n
theorem Sh.mono {k n k' n':Nat} {d:PyData} (h:Sh k n d) (hk:k≤k') (hn:n≤n'):Sh k' n' d:=⟨h.sh,h.nd,Nat.le_trans h.dp hk,Nat.le_trans h.sz hn⟩
theorem Sh.all {k n:Nat}:∀ {ds:List PyData},(∀ d∈ds,Sh k n d)->PyData.showableAll ds=true/\PyData.hasDictAll ds=false/\PyData.depthAll ds≤k/\((PyData.shownAll ds).map (·.length)).sum≤n * ds.length/\(PyData.shownAll ds).length=ds.length
 | [],_=>⟨rfl,rfl,Nat.zero_le _,Nat.zero_le _,rfl⟩
 | d :: ds,h=>by
  obtain⟨a,b,c,e,f⟩:=Sh.all (ds:=ds) fun x hx=>h x (List.mem_cons_of_mem _ hx)
  have z:=h d List.mem_cons_self
  refine⟨?_,?_,?_,?_,?_⟩
  ·show (d.showable && PyData.showableAll ds)=true
   rw [z.sh,a];rfl
  ·show (d.hasDict || PyData.hasDictAll ds)=false
   rw [z.nd,b];rfl
  ·show max d.depth (PyData.depthAll ds)≤k
   exact Nat.max_le.mpr ⟨z.dp,c⟩
  ·show d.shown.length+((PyData.shownAll ds).map (·.length)).sum≤n * (ds.length+1)
   have:=z.sz
   rw [Nat.mul_succ];omega
  ·show (PyData.shownAll ds).length+1=ds.length+1
   rw [f]
theorem Sh.tup {k n m N:Nat} {ds:List PyData} (h:∀ d∈ds,Sh k n d) (hm:ds.length≤m) (hN:(n+3) * m+8≤N):Sh (k+1) N (.tuple ds):=by
 obtain⟨a,b,c,e,f⟩:=Sh.all h
 refine⟨a,b,Nat.succ_le_succ c,?_⟩
 show (tupleText (PyData.shownAll ds)).length≤N
 have q:=tupleText_len_le (PyData.shownAll ds)
 have l:n * ds.length+3 * ds.length≤(n+3) * m:=by
  rw [← Nat.add_mul]
  exact Nat.mul_le_mul_left _ hm
 omega
theorem Sh.shows {k n:Nat} {d:PyData} (h:Sh k n d) (hk:k≤16) (hn:n≤16777216):m7 d:=⟨h.sh,h.nd,Nat.le_trans h.sz (Nat.le_trans hn (by decide)),Nat.le_trans h.dp hk⟩
theorem yc {r:R} {n:Nat} (h:Wf n r) (hn:n≤1900):Sh 1 5000 (dR r):=⟨(mk h hn).sh,rfl,(by show max 0 (max 0 0)+1≤1;decide),(mk h hn).sz⟩
mutual
theorem cI.same {K:PySem.W.Frag} {H H':Hp} (s:aO H H'):∀ {v:V} {d:PyData},cI K H v d->cI K H' v d
 | _,_,.non=>.non
 | _,_,.bl b=>.bl b
 | _,_,.int i=>.int i
 | _,_,.str x=>.str x
 | _,_,.lst e t=>.lst (s.seq e) (bv.same s t)
 | _,_,.tup e t=>.tup (au.same s _ _ e) (bv.same s t)
theorem bv.same {K:PySem.W.Frag} {H H':Hp} (s:aO H H'):∀ {vs:List V} {ds:List PyData},bv K H vs ds->bv K H' vs ds
 | _,_,.nil=>.nil
 | _,_,.cons h t=>.cons (cI.same s h) (bv.same s t)
end
end B
namespace B
open PySem PySem.Spec L2 PyProof.Rows
def EY (K:PySem.W.Frag):R2:=fun x y H Q=>∃ a b xs ys,x=.ref a/\y=.ref b/\bh K H a xs/\bh K H b ys/\xs.length+ys.length≤sizeLine/\∀ p H',aO H H'->bh K H' p (xs++ys)->Q (.ref p) H'
def DE (K:PySem.W.Frag):V->Option Int->Option Int->Hp->VK->Prop:=fun x lo hi H Q=>∃ a xs,x=.ref a/\bh K H a xs/\∀ p H',aO H H'->bh K H' p (fQ xs lo hi)->Q (.ref p) H'
theorem v9 {X:Cx}:qZ X (DE X.K):=by
 intro pins s σ H x v vl vu lo hi sl Q I rx hs pl pu h
 obtain⟨a,xs,rfl,hx,q⟩:=h
 refine wb pins s σ H _ v vl vu lo hi sl Q I rx hs pl pu ?_
 by_cases c:HT.sIx xs.length 0 lo=0/\HT.sIx xs.length xs.length hi=xs.length
 ·refine .inl ⟨a,xs,rfl,hx,c.1,c.2,q a H (aO.refl H) ?_⟩
  have e:fQ xs lo hi=xs:=by
   unfold fQ
   rw [c.1,c.2,List.drop_zero,Nat.sub_zero,List.take_length]
  rw [e]
  exact hx
 ·exact .inr ⟨a,xs,rfl,hx,c,fun p hp=>q p _ (aj hp _) (bh.of ah)⟩
theorem vk {xs:List V} {n:Nat} (h:n≤xs.length):fQ xs none (some (n:Int))=xs.take n:=by
 unfold fQ
 rw [HT.sIx_nat,HT.sIx_none,Nat.min_eq_left h,Nat.sub_zero,List.drop_zero]
def CD (K:PySem.W.Frag) (s:Addr):Prop:=∃ ns:List Int,ns.length≤63/\∀ H:Hp,aW K H s (ns.map V.int)
structure bG (K:PySem.W.Frag) (H:Hp) (t s:Addr):Prop where
 ex:∃ (ns:List Int) (p q:Int),H t=some (.lst [.ref s,.int p,.int q])/\((Rd H s (.lst (ns.map V.int))/\s≠t)∨∀ H',aW K H' s (ns.map V.int))/\ns.length≤63/\0≤p/\0≤q
theorem wx {H H':Hp} {a:Addr} {u:HO} (h:Rd H a u) (z:aO H H'):Rd H' a u:=by
 rcases h with h | ⟨o,h⟩
 ·exact .inl (z _ _ h)
 ·exact .inr ⟨o,z _ _ h⟩
theorem k6 {H:Hp} {a l:Addr} {u o:HO} (h:Rd H a u) (n:l≠a):Rd (ax H l o) a u:=by
 unfold Rd
 rw [aD n.symm]
 exact h
theorem tQ {H:Hp} {a l:Addr} {u:HO} (h:Rd H a u) (n:H l=none):l≠a:=fun e=>by
 subst e
 rcases h with h | ⟨o,h⟩
 ·rw [n] at h;cases h
 ·rw [n] at h;cases h
theorem bG.lst {K:PySem.W.Frag} {H:Hp} {t s:Addr} (h:bG K H t s):∃ xs,H t=some (.lst xs):=let ⟨_,_,_,e,_⟩:=h.ex;⟨_,e⟩
theorem bG.same {K:PySem.W.Frag} {H H':Hp} {t s:Addr} (h:bG K H t s) (z:aO H H'):bG K H' t s:=by
 obtain⟨ns,p,q,h1,h2,h3⟩:=h.ex
 refine⟨ns,p,q,z _ _ h1,?_,h3⟩
 rcases h2 with ⟨a,b⟩ | a
 ·exact .inl ⟨wx a z,b⟩
 ·exact .inr a
theorem bG.new {K:PySem.W.Frag} {H:Hp} {t s p:Addr} (h:bG K H t s) (n:H p=none) (o:HO):bG K (ax H p o) t s:=h.same (aj n o)
theorem bG.off {K:PySem.W.Frag} {H:Hp} {t s D:Addr} (h:bG K H t s) (n:H D=none):D≠s∨CD K s:=by
 obtain⟨ns,p,q,_,h2,h3,_⟩:=h.ex
 rcases h2 with ⟨a,_⟩ | a
 ·exact .inl (tQ a n)
 ·exact .inr ⟨ns,h3,a⟩
theorem bG.upl {K:PySem.W.Frag} {H:Hp} {t s l:Addr} (h:bG K H t s) (a:l≠t) (b:l≠s∨CD K s) (o:HO):bG K (ax H l o) t s:=by
 obtain⟨ns,p,q,h1,h2,h3⟩:=h.ex
 rcases b with b | ⟨ms,m3,m⟩
 ·refine⟨ns,p,q,by rw [aD a.symm];exact h1,?_,h3⟩
  rcases h2 with ⟨c,d⟩ | c
  ·exact .inl ⟨k6 c b,d⟩
  ·exact .inr c
 ·exact⟨ms,p,q,by rw [aD a.symm];exact h1,.inr m,m3,h3.2⟩
def rR (K:PySem.W.Frag):Sp:=fun vs H Q _=>∃ (a:Addr) (ns:List Int),vs=[.ref a]/\aW K H a (ns.map V.int)/\ns.length≤63/\∀ (t:Addr) (H':Hp),aO H H'->H t=none->bG K H' t a->Q (.ref t) H'
def rV (K:PySem.W.Frag):Sp:=fun vs H Q _=>∃ (t s:Addr) (m:Int),vs=[.ref t,.int m]/\bG K H t s/\0 < m/\m < 1073741824/\∀ (r:Int) (xs:List V),0≤r->r < m->bG K (ax H t (.lst xs)) t s->Q (.int r) (ax H t (.lst xs))
theorem bG.mk3 {K:PySem.W.Frag} {H:Hp} {t a:Addr} {ns:List Int} (hS:aW K H a (ns.map V.int)) (hl:ns.length≤63) (ht:H t=none):bG K (ax H t (.lst [.ref a,.int 0,.int 0])) t a:=by
 refine⟨ns,0,0,ah,?_,hl,Int.le_refl _,Int.le_refl _⟩
 rcases hS with h | h
 ·exact .inl ⟨k6 h (tQ h ht),(tQ h ht).symm⟩
 ·exact .inr fun _=>.inr h
section
set_option autoImplicit true
set_option relaxedAutoImplicit true
end
theorem pj:∀ {ns:List Int} {us:List Value},bg (ns.map V.int) us->IntsAre us ns
 | [],_,.nil=>.nil
 | n :: ns,_,.cons r t=>by
  obtain⟨tk,rfl⟩:=(show ∃ t,_=Value.int n t from r)
  exact .cons _ _ (pj t)
theorem qS {X:Cx} (hc:X.calm=true):fj X (.builtin "sum") (fun xs H Q=>∃ (p:Addr) (ns:List Int),xs=[.ref p]/\aW X.K H p (ns.map V.int)/\Q (.int ns.sum) H):=by
 intro pins s σ H xs us Q I r h
 obtain⟨p,ns,rfl,hq,q⟩:=h
 obtain⟨u,rfl,rx⟩:=gQ r
 cases rx
 obtain⟨its,rv,pl,hz⟩:=I.list hq
 have hi:=pj rv
 obtain⟨zs,ez⟩:=hi.allInts.items
 have hl:=pl.isList
 rw [ez] at hl
 have en:numsOf its=ns:=hi.numsOf
 rw [show its=its.toArray.toList from rfl,ez,nums_intItems] at en
 refine sum_intListG (I.ok.hd hc) hl fun h' tk t' hk=>?_
 rw [preSum_eq,List.take_of_length_le (by simp),en]
 exact⟨.int ns.sum,H,I.kept (t':=tk) hk,⟨_,rfl⟩,q⟩
theorem m4:∀ {bs:List Bool} {us:List Value},bg (bs.map V.bl) us->∀ {i:Nat} {v:Value},us[i]?=some v->v=.bool (bs.getD i true)
 | [],_,.nil,i,v,e=>by cases e
 | b :: bs,_,.cons r t,0,v,e=>by
  rw [List.getElem?_cons_zero] at e
  cases e
  exact (show _=Value.bool b from r)
 | b :: bs,_,.cons r t,i+1,v,e=>by
  rw [List.getElem?_cons_succ] at e
  exact m4 t e
theorem kq:∀ (bs:List Bool),(List.range bs.length).all (fun i=>bs.getD i true)=bs.all id
 | []=>rfl
 | b :: bs=>by
  rw [List.length_cons,List.range_succ_eq_map,List.all_cons,List.all_map,List.all_cons]
  have:=kq bs
  show (b && (List.range bs.length).all (fun i=>bs.getD i true))=(id b && bs.all id)
  rw [this];rfl
theorem qU {X:Cx} (hc:X.calm=true):fj X (.builtin "all") (fun xs H Q=>∃ (p:Addr) (bs:List Bool),xs=[.ref p]/\aW X.K H p (bs.map V.bl)/\Q (.bl (bs.all id)) H):=by
 intro pins s σ H xs us Q I r h
 obtain⟨p,bs,rfl,hq,q⟩:=h
 obtain⟨u,rfl,rx⟩:=gQ r
 cases rx
 obtain⟨its,rv,pl,hz⟩:=I.list hq
 have ne:p≠s.heap.objs.size:=by
  obtain⟨o,ho,_⟩:=pl.isList
  exact Nat.ne_of_lt (Heap.lt_size ho)
 have hlen:its.toArray.size=bs.length:=by rw [List.size_toArray,← rv.length,List.length_map]
 refine call_all_walk (wpAny_pyIter_list pl.isList ?_)
 refine⟨_,_,_,_,_,_,fun i=>bs.getD i true,rfl,Walks.list (A:=X.A.in1) (I.ok.hd hc) _ p ne its.toArray,⟨⟨_,Heap.get?_push_size _ rfl,rfl,rfl⟩,pl.isList.push _⟩,fun i v s' Q' E' hv hQ=>?_,fun h' tk hk=>?_⟩
 ·have e:=m4 rv (i:=i) (v:=v) (by simpa using hv)
  subst e
  exact wpAny_truthy_bool hQ
 ·rw [hlen,kq]
  refine⟨.bl _,H,I.kept (t':=tk) fun b o e=>hk b o (fun z=>?_) (Heap.get?_push_of_some _ e),rfl,q⟩
  rw [List.mem_singleton.mp z] at e
  exact absurd (Heap.lt_size e) (Nat.lt_irrefl _)
section
variable {prog:Program} {w:World} {A:Around} {E:Value->Shared->Prop} {s:Shared}
end
def Ft (n:Nat):List Int:=(List.range n).map fun i:Nat=>(i:Int)
def xR (ta:TA):TE:=fun σ H Q=>ta σ H fun vs H1=>∃ j:Int,vs=[.int j]/\∀ p,H1 p=none->Q (.ref p) (ax H1 p (.rng 0 j))
theorem wX {X:Cx} {a:Expr} {ta:TA} {p pos:Pos} (hg:Gl X "range") (hm:X.mg "range" = none) (ha:PA X [a] ta) (hs:starEach [a] X.env=[(false,eval a X.env)]:=by rfl) :
  PE X (.Call (.Name "range" p) [a] [] pos) (xR ta):=by
 intro pins s σ H Q I h
 refine Call_ (fZ I hg hm boot_range (PyProof.Rows.callWith_type1 (cb (ha pos pins s σ H _ I h) fun us s1 ⟨vs,H1,I1,r1,q1⟩=>?_) hs rfl))
 obtain⟨j,e,q⟩:=q1
 subst e
 obtain⟨u,rfl,t,rfl⟩:=gQ r1
 refine call_range_1 ?_
 exact⟨.ref s1.heap.objs.size,_,I1.laid (o:=.rng 0 j) (fun b o e=>Heap.get?_push_of_some _ e) (Nat.le_refl _) ⟨_,t,_,Heap.get?_push_size _ rfl⟩,rfl,q _ (I1.hok.fresh (Nat.le_refl _))⟩
def Gn (hi:Int) (n:Nat):It:=⟨fun i _=>i < n,fun i H x H'=>H'=H/\x=.int (hi - i),fun i _=>n≤i⟩
def E9 (ta:TA):TI:=fun σ H R=>ta σ H fun vs H1=>∃ i j:Int,vs=[.int i,.int j,.int (-1)]/\(-1000≤i/\i≤1000/\-1000≤j/\j≤1000)/\R (Gn i (i - j).toNat) H1
section
set_option autoImplicit true
set_option relaxedAutoImplicit true
theorem wF  {X:Cx} {a:Expr} {ta:TA} {p pos:Pos} (hg:Gl X "range") (hm:X.mg "range" = none) (ha:QA X [a] ta) (hs:starEach [a] X.env=[(false,eval a X.env)]:=by rfl):QE X (.Call (.Name "range" p) [a] [] pos) (xR ta):=⟨wX hg hm ha.p hs⟩
end
structure D9 (J:It) (H:Hp) (n:Nat) (P:Nat->V->Hp->Prop):Prop where
 go:∀ i H',i < n->aO H H'->J.go i H'
 stop:∀ H',aO H H'->J.stop n H'
 yld:∀ i H' x H'',i < n->aO H H'->J.yld i H' x H''->aO H' H''/\P i x H''
theorem oB {K:PySem.W.Frag} {H:Hp} {a:Addr} {xs:List V} (h:aW K H a xs):D9 (rc K a) H xs.length (fun i x _=>xs[i]?=some x) where
 go:=fun i H' hi s=>⟨xs,_,s.seq h,List.getElem?_eq_getElem hi⟩
 stop:=fun H' s=>⟨xs,s.seq h,Nat.le_refl _⟩
 yld:=fun i H' x H'' hi s y=>by obtain⟨rfl,hy⟩:=y;exact⟨aO.refl _,hy xs (s.seq h)⟩
theorem vQ {H:Hp} {lo:Int} {n:Nat}:D9 (vJ lo n) H n (fun i x _=>x=.int (lo+i)) where
 go:=fun i H' hi s=>hi
 stop:=fun H' s=>Nat.le_refl _
 yld:=fun i H' x H'' hi s y=>by obtain⟨rfl,rfl⟩:=y;exact⟨aO.refl _,rfl⟩
theorem lB {J:It} {H:Hp} {D:Addr} {n:Nat} {P:Nat->V->Hp->Prop} (w:D9 J H n P) (c:Nat->Bool) (f:Nat->V) {src:List (Option Nat)} {σ:L2.St} {g:TG} {tt:TT} {te:TE} {Q:Hp->Prop} (hD:H D=none) (hn:n≤1000)
  (turn:∀ (i:Nat) (x:V) (H':Hp),i < n->aO H H'->P i x H'->∀ (R:VK) (E:Hp->Prop),(c i=true->∀ H'',aO H' H''->R (f i) H'')->(c i=false->∀ H'',aO H' H''->E H'')→
   g x (cn src σ) H' fun σ2 H2=>iK (cn src σ) σ2/\tt σ2 H2 fun ok H3=>if ok=true then te σ2 H3 R else E H3)
  (fin:∀ H',aO H H'->H' D=some (.lst (((List.range n).filter c).map f))->Q H') :
  ∃ W:Nat->Nat->List V->Hp->Prop,(∃ m,W 0 m [] (ax H D (.lst [])))/\∀ i m ys H,W i m ys H->(J.stop i H/\Q H)∨(J.go i H/\∀ x H',J.yld i H x H'→
   g x (cn src σ) H' fun σ2 H2=>iK (cn src σ) σ2/\tt σ2 H2 fun ok H3=>
    if ok=true then te σ2 H3 fun y H4=>H4 D=some (.lst ys)/\ys.length < sizeLine/\∃ m',m' < m/\W (i+1) m' (ys++[y]) (ax H4 D (.lst (ys++[y]))) else ∃ m',m' < m/\W (i+1) m' ys H3):=by
 refine⟨fun i m ys H'=>i≤n/\m=n - i/\ys=((List.range i).filter c).map f/\aO H H'/\H' D=some (.lst ys),⟨_,Nat.zero_le _,rfl,rfl,aj hD _,ah⟩,?_⟩
 rintro i m ys H1 ⟨hi,rfl,rfl,s1,d1⟩
 by_cases hix:i < n
 ·refine .inr ⟨w.go i H1 hix s1,fun x H2 y=>?_⟩
  obtain⟨s2,p⟩:=w.yld i H1 x H2 hix s1 y
  have d2:=s2 _ _ d1
  have len:(((List.range i).filter c).map f).length≤i:=by
   rw [List.length_map]
   exact Nat.le_trans (List.length_filter_le _ _) (by rw [List.length_range];exact Nat.le_refl _)
  refine turn i x H2 hix (s1.trans s2) p _ _ (fun hc H3 s3=>?_) fun hc H3 s3=>?_
  ·have d3:=s3 _ _ d2
   refine⟨d3,aZ (by omega),n - (i+1),by omega,hix,rfl,?_,fun b o q=>?_,ah⟩
   ·rw [List.range_succ,List.filter_append,List.map_append]
    simp [hc]
   ·rw [aD (aB q hD)]
    exact s3 _ _ (s2 _ _ (s1 _ _ q))
  ·refine⟨n - (i+1),by omega,hix,rfl,?_,(s1.trans s2).trans s3,s3 _ _ d2⟩
   rw [List.range_succ,List.filter_append,List.map_append]
   simp [hc]
 ·have e:i=n:=by omega
  subst e
  exact .inl ⟨w.stop H1 s1,fin H1 s1 d1⟩
theorem jJ {α β:Type} (d:α) (p:α->Bool) (f:α->β):∀ l:List α,((List.range l.length).filter fun i=>p (l.getD i d)).map (fun i=>f (l.getD i d))=(l.filter p).map f
 | []=>rfl
 | x :: l=>by
  have ih:=jJ d p f l
  rw [List.length_cons,List.range_succ_eq_map,List.filter_cons,List.filter_cons]
  have e:(((List.range l.length).map Nat.succ).filter fun i=>p ((x :: l).getD i d)).map (fun i=>f ((x :: l).getD i d))=(l.filter p).map f:=by
   rw [List.filter_map,List.map_map]
   exact ih
  show (if p x=true then _ else _:List Nat).map _=_
  cases hp:p x with
  | true=>
   simp only [if_true,List.map_cons]
   rw [e];rfl
  | false=>
   simp only [Bool.false_eq_true,if_false]
   exact e
theorem lE {α β:Type} (d:α) (f:α->β) (l:List α):((List.range l.length).filter fun _=>true).map (fun i=>f (l.getD i d))=l.map f:=by
 have:=jJ d (fun _=>true) f l
 rw [this,List.filter_eq_self.mpr (by intros;rfl)]
theorem dC {α:Type} {l:List α} {i:Nat} {x:α} (d:α) (h:l[i]?=some x):l.getD i d=x:=by rw [List.getD_eq_getElem?_getD,h];rfl
section
variable {prog:Program} {w:World} {A:Around} {E:Value->Shared->Prop} {s:Shared}
theorem tO {l:Addr} {items:Array Value} {k:Nat} {x:Int} {u:Tok} {Q:Value->Shared->Prop} (hl:s.heap.get? l=some { cls:=.type "list", dict:=none,data:=.seq items k,slots:=#[] })
  (hlo:-(2 ^ 63:Int)≤x) (hhi:x < 2 ^ 63) (hsz:items.size * x.toNat≤2 ^ 24)
  (h:Q (.ref s.heap.objs.size) { s with heap:=s.heap.push { cls:=.type "list", data:=.seq (List.foldl (fun x1 x2=>x1++x2) #[] (List.replicate (if items.isEmpty=true then 0 else x.toNat) items)) } }) :
  wpAny (model prog w) A (binaryOp .Mult (.ref l) (.int x u)) Q E s:=
 wpAny_binaryOp_repeat_ref (T := "list") (U := "int") (by decide) ⟨_,hl,rfl⟩ (fun s'=>typeIs_int s' x u) noFill_list_mul F.fills_int_mul F.slot_int_rmul repeat_list F.slot_int_index.lookup
  (call_meets F.slot_int_rmul (typeIs_int s x u) F.entry_int_rmul (F.args_int_rmul_2 _ _) (int___rmul___int_list x u l items k)
   ⟨hl,rfl,⟨_,hl,rfl⟩,call_meets F.slot_list_mul ⟨_,hl,rfl⟩ F.entry_list_mul (F.args_list_mul_2 _ _)
    (AutoListH.list___mul___list_int_3 l items k x u (by simp [Builtin.List.listFitsIndex];omega) (by omega) (by simp [Builtin.List.listTooLong,sizeLine];omega))
    ⟨hl,h⟩⟩)
end
theorem mR (u:Value):∀ (n:Nat) (acc:Array Value),(List.foldl (fun x1 x2=>x1++x2) acc (List.replicate n #[u])).toList=acc.toList++List.replicate n u
 | 0,acc=>by simp
 | n+1,acc=>by
  rw [List.replicate_succ,List.foldl_cons,mR u n,List.replicate_succ]
  simp
theorem lM {v:V} {u:Value} (r:aY v u):∀ n:Nat,bg (List.replicate n v) (List.replicate n u)
 | 0=>.nil
 | n+1=>.cons r (lM r n)
theorem oU {X:Cx}:fP X (binaryOp .Mult) (fun x y H Q=>∃ (p:Addr) (v:V) (n:Nat),x=.ref p/\y=.int n/\H p=some (.lst [v])/\n≤1000/\∀ l,H l=none->Q (.ref l) (ax H l (.lst (List.replicate n v)))):=by
 intro pins s σ H x y xv yv Q I rx ry h
 obtain⟨p,v,n,rfl,rfl,hp,hn,q⟩:=h
 cases (show xv=Value.ref p from rx)
 obtain⟨t,rfl⟩:=(show ∃ t,yv=Value.int n t from ry)
 obtain⟨_,its,c,rv,e⟩:=(show bJ X.prog X.w H s.heap p (.lst [v]) from I.hok p _ hp)
 cases rv with
 | @cons _ u _ _ r0 rr=>
 cases rr
 refine tO e (by omega) (by omega) (by simp;omega) ?_
 have el:(List.foldl (fun x1 x2=>x1++x2) #[] (List.replicate (if ([u]:List Value).toArray.isEmpty=true then 0 else (n:Int).toNat) [u].toArray))=(List.replicate n u).toArray:=by
  apply Array.ext'
  have:=mR u n #[]
  simpa using this
 rw [el]
 have I2:Inv X pins σ (ax H s.heap.objs.size (.lst (List.replicate n v))) { s with heap:=s.heap.push { cls:=.type "list", data:=.seq (List.replicate n u).toArray } }:=
  I.laid (t':=s.toks) (fun b o e=>Heap.get?_push_of_some _ e) (Nat.le_refl _) (show bJ X.prog X.w _ _ _ (.lst (List.replicate n v)) from ⟨by rw [List.length_replicate,sizeLine_eq];omega,List.replicate n u,_,lM r0 n,Heap.get?_push_size _ rfl⟩)
 exact⟨.ref s.heap.objs.size,_,I2,rfl,q _ (I.hok.fresh (Nat.le_refl _))⟩
theorem AL {h:Heap} {x y:Value} {d e:PyData} {as bs:List Addr} (rx:Reads h x d as) (ry:Reads h y e bs) (cd:d.canLay0=true) (ce:e.canLay0=true) (dp:e.depth≤32) (rf:PyData.eqv d d=true):jE h x d y=PyData.eqv e d:=by
 unfold jE
 by_cases q:y=x
 ·subst q
  rw [if_pos rfl,SeqAt.Reads.unique _ _ _ _ _ ce ry rx,rf]
 ·have z:∃ d',d'.canLay0=true/\d'.depth≤32/\∃ as,Reads h y d' as:=⟨e,ce,dp,bs,ry⟩
  rw [if_neg q,dif_pos z]
  obtain⟨c,_,cs,r⟩:=z.choose_spec
  rw [SeqAt.Reads.unique _ _ _ _ _ ce ry r]
def oy (ds:List PyData):Prop:=∀ e∈ds,e.canLay0=true/\e.depth≤32
theorem mO {X:Cx} {pins:List (Addr×Obj)} {σ:L2.St} {H:Hp} {s:Shared} (I:Inv X pins σ H s) {v:Value} {d:PyData} {as:List Addr} (rx:Reads s.heap v d as) (cd:d.canLay0=true) (rf:PyData.eqv d d=true) :
  ∀ {xs:List V} {us:List Value} {ds:List PyData},bg xs us->bv X.K H xs ds->oy ds->us.map (jE s.heap v d)=ds.map fun e=>PyData.eqv e d
 | _,_,_,.nil,.nil,_=>rfl
 | _,_,_,.cons r t,.cons h k,l=>by
  obtain⟨bs,ry⟩:=cI.reads I h r
  obtain⟨ce,dp⟩:=l _ List.mem_cons_self
  rw [List.map_cons,List.map_cons,AL rx ry cd ce dp rf,mO I rx cd rf t k fun e he=>l e (List.mem_cons_of_mem _ he)]
theorem bv.known {K:PySem.W.Frag} {H:Hp}:∀ {xs:List V} {ds:List PyData},bv K H xs ds->oy ds->pP K H xs
 | _,_,.nil,_,x,hx=>by cases hx
 | _,_,.cons h t,l,x,hx=>by
  rcases List.mem_cons.mp hx with rfl | hx
  ·obtain⟨a,b⟩:=l _ List.mem_cons_self
   exact⟨_,h,a,b⟩
  ·exact bv.known t (fun e he=>l e (List.mem_cons_of_mem _ he)) x hx
def F0 (K:PySem.W.Frag):R2:=fun x y H Q=>∃ p xs ds d,y=.ref p/\aW K H p xs/\bv K H xs ds/\oy ds/\cI K H x d/\d.canLay0=true/\PyData.eqv d d=true/\Q (.bl (ds.any fun e=>PyData.eqv e d)) H
def wy (K:PySem.W.Frag):R2:=fun x y H Q=>∃ p xs ds d,y=.ref p/\aW K H p xs/\bv K H xs ds/\oy ds/\cI K H x d/\d.canLay0=true/\PyData.eqv d d=true/\Q (.bl (!ds.any fun e=>PyData.eqv e d)) H
theorem jK {α β:Type} {f:α->Bool} {g:β->Bool}:∀ {l:List α} {m:List β},l.map f=m.map g->l.any f=m.any g
 | [],[],_=>rfl
 | [],_ :: _,h=>by simp at h
 | _ :: _,[],h=>by simp at h
 | a :: l,b :: m,h=>by
  rw [List.map_cons,List.map_cons] at h
  injection h with h1 h2
  rw [List.any_cons,List.any_cons,h1,jK h2]
theorem qx {X:Cx} {k:Nat} (hr:dF k X.A):fP X (compareOp .NotIn) (wy X.K):=by
 intro pins s σ H x y v u Q I rx ry h
 obtain⟨p,xs,ds,d,rfl,hq,hd,ls,hx,cd,rf,q⟩:=h
 cases ry
 obtain⟨its,r,pl,hz⟩:=I.list hq
 obtain⟨as,ra⟩:=cI.reads I hx rx
 refine SeqAt.notIn_listAt (jE s.heap v d) pl.isList (fun w hw=>u3 ra cd (by show X.A.units+1+32 < cLine;have:=hr.units;omega) (iO I r (hd.known ls) w (by simpa using hw))) ⟨_,H,I,?_,q⟩
 show Value.bool (!its.toArray.any (jE s.heap v d))=Value.bool (!ds.any fun e=>PyData.eqv e d)
 rw [List.any_toArray,jK (mO I ra cd rf r hd ls)]
def EW (K:PySem.W.Frag):R2:=fun x y H Q=>∃ p xs ds d,y=.ref p/\bh K H p xs/\bv K H xs ds/\oy ds/\cI K H x d/\d.canLay0=true/\PyData.eqv d d=true/\Q (.bl (ds.any fun e=>PyData.eqv e d)) H
def C8 (K:PySem.W.Frag):V->List V->Hp->VK->Prop:=fun x vs H Q=>∃ p xs ds w d,x=.ref p/\vs=[w]/\aW K H p xs/\bv K H xs ds/\oy ds/\cI K H w d/\d.canLay0=true/\PyData.eqv d d=true/\(∃ e∈ds,PyData.eqv e d=true)∧
 ∀ (j:Nat) (e:PyData),ds[j]?=some e->PyData.eqv e d=true->(∀ m f,m < j->ds[m]?=some f->PyData.eqv f d=false)->Q (.int j) H
theorem xB {j:Nat} (h:j≤16777216):Builtin.List.listFitsIndex (j:Int)=true:=by
 unfold Builtin.List.listFitsIndex
 have e:(2:Int) ^ 63=9223372036854775808:=by decide
 rw [e,Bool.and_eq_true,decide_eq_true_iff,decide_eq_true_iff]
 omega
theorem qK (l:Addr) (its:Array Value) (n:Nat) (x:Int) (tk:Tok) (u2:Value) (hc:Builtin.List.listFitsIndex x=true) (hsz:its.size≤sizeLine) :
  Meets (Builtin.«list.insert» ⟨[.ref l,.int x tk,u2],[]⟩) (fun _ R s=>s.heap.get? l=some { cls:=.type "list", dict:=none,data:=.seq its n,slots:=#[] }/\R (.ok (.ret Value.none)) { s with heap:=s.heap.update l (Obj.mapSeq fun xs=>have k:=if x < 0 then (x+((xs.size:Nat):Int)).toNat else min x.toNat xs.size;(xs.extract 0 k).push u2++xs.extract k),toks:=s.toks }):=by
 apply AutoListH.list_insert_list_int_val_1
 ·rw [hc];simp
 ·exact hsz
def wA:V->List V->Hp->VK->Prop:=fun x vs H Q=>∃ (l:Addr) (xs:List V) (j:Nat) (y:V),x=.ref l/\vs=[.int j,y]/\H l=some (.lst xs)/\j≤xs.length/\xs.length < sizeLine/\Q .non (ax H l (.lst (xs.take j++y :: xs.drop j)))
theorem j9 {X:Cx}:Fm X "list.insert" wA:=by
 intro pins s σ H x vs v us Q I rx rv h
 obtain⟨l,xs,j,y,rfl,rfl,hH,hj,hz,q⟩:=h
 cases rx
 obtain⟨u,u2,rfl,ru,ru2⟩:=lN rv
 obtain⟨tk,rfl⟩:=(show ∃ t,u=Value.int j t from ru)
 obtain⟨z,its,n,r,hl,e⟩:=I.lstM hH
 have hlen:=r.length
 have sl:sizeLine=16777216:=by decide
 have hsz:its.toArray.size≤sizeLine:=by rw [List.size_toArray];omega
 have hfi:Builtin.List.listFitsIndex (j:Int)=true:=xB (show j≤16777216 by omega)
 generalize hx:(j:Int)=x at hfi
 have M:=qK l its.toArray n x tk u2 hfi hsz
 refine call_meets PySem.F.slot_list_insert ⟨_,e,rfl⟩ PySem.F.entry_list_insert (PySem.F.args_list_insert_3 _ _ _) M ⟨e,?_⟩
 have hv:bg (xs.take j++y :: xs.drop j) (its.take j++u2 :: its.drop j):=(r.take j).append (.cons ru2 (r.drop j))
 refine⟨.non,_,I.lset (its':=its.take j++u2 :: its.drop j) hH e ?_ hv ?_,rfl,q⟩
 ·subst hx
  have e1:¬ ((j:Int) < 0):=by omega
  have e2:min j its.length=j:=by omega
  simp [e1,e2,List.take_of_length_le]
 ·rw [List.length_append,List.length_cons,List.length_take,List.length_drop]
  omega
mutual
def E8:PyData->Bool
 | .int i=>decide (i.natAbs < 2 ^ 230)
 | .tuple ds=>n8 ds
 | .list ds=>n8 ds
 | .dict _=>false
 | _=>true
def n8:List PyData->Bool
 | []=>true
 | d :: ds=>E8 d && n8 ds
end
structure Gd (k n:Nat) (d:PyData):Prop where
 sh:Sh k n d
 lay:d.canLay0=true
 bd:E8 d=true
def CA:PyData->R
 | .tuple [.int a,.int b]=>(a,b)
 | _=>(0,1)
def D4:PyData->R×R
 | .tuple [x,y]=>(CA x,CA y)
 | _=>cU
end B
namespace B
open PySem PySem.Spec L2 PyProof.Rows
theorem ii {J:It} {H:Hp} {D:Addr} {n:Nat} (Pv:Nat->List V->Hp->Prop) {src:List (Option Nat)} {σ:L2.St} {g:TG} {tt:TT} {te:TE} {Q:Hp->Prop} (h0:Pv 0 [] (ax H D (.lst [])))
  (go:∀ i ys H',i < n->Pv i ys H'->J.go i H') (stop:∀ ys H',Pv n ys H'->J.stop n H'/\Q H')
  (turn:∀ i ys H' x H'',i < n->Pv i ys H'->J.yld i H' x H''->∀ (R:VK) (E:Hp->Prop),(∀ y H4,H4 D=some (.lst ys)->ys.length < sizeLine->Pv (i+1) (ys++[y]) (ax H4 D (.lst (ys++[y])))->R y H4)->(∀ H3,Pv (i+1) ys H3->E H3)→
   g x (cn src σ) H'' fun σ2 H2=>iK (cn src σ) σ2/\tt σ2 H2 fun ok H3=>if ok=true then te σ2 H3 R else E H3) :
  ∃ W:Nat->Nat->List V->Hp->Prop,(∃ m,W 0 m [] (ax H D (.lst [])))/\∀ i m ys H,W i m ys H->(J.stop i H/\Q H)∨(J.go i H/\∀ x H',J.yld i H x H'→
   g x (cn src σ) H' fun σ2 H2=>iK (cn src σ) σ2/\tt σ2 H2 fun ok H3=>
    if ok=true then te σ2 H3 fun y H4=>H4 D=some (.lst ys)/\ys.length < sizeLine/\∃ m',m' < m/\W (i+1) m' (ys++[y]) (ax H4 D (.lst (ys++[y]))) else ∃ m',m' < m/\W (i+1) m' ys H3):=by
 refine⟨fun i m ys H'=>i≤n/\m=n - i/\Pv i ys H',⟨_,Nat.zero_le _,rfl,h0⟩,?_⟩
 rintro i m ys H1 ⟨hi,rfl,p⟩
 by_cases hix:i < n
 ·refine .inr ⟨go i ys H1 hix p,fun x H2 y=>?_⟩
  refine turn i ys H1 x H2 hix p y _ _ (fun y H4 a b c=>⟨a,b,n - (i+1),by omega,hix,rfl,c⟩) fun H3 c=>⟨n - (i+1),by omega,hix,rfl,c⟩
 ·have e:i=n:=by omega
  subst e
  exact .inl (stop ys H1 p)
def Dy (t:TS):TS:=fun D σ H=>∃ M:L2.St->Hp->Prop,t { D with nx:=M } σ H/\∀ σ' H',M σ' H'->D.nx σ' H'
theorem zG {X:Cx} {st:Stmt} {t:TS} (h:QS X st t):QS X st (Dy t):=⟨by
 intro pins s σ H D I q
 obtain⟨M,q,k⟩:=q
 refine cb (h.p pins s σ H _ I q) fun f s' z=>?_
 cases f with
 | next=>obtain⟨σ',H',I',m⟩:=z;exact⟨σ',H',I',k _ _ m⟩
 | brk=>exact z
 | cont=>exact z
 | ret u=>exact z⟩
end B
namespace B
abbrev Ln:=Nat×Nat
inductive xJ (es:List Ln):Nat->Nat->Prop where
 | one {a b:Nat} (h:(a,b)∈es):xJ es a b
 | step {a b c:Nat} (h:(a,b)∈es) (t:xJ es b c):xJ es a c
def Gq (n:Nat) (es:List Ln):Prop:=∀ e∈es,e.1 < n/\e.2 < n
def GT (n:Nat) (es:List Ln) (L:Nat->Nat->Bool):Prop:=∀ i j,i < n->j < n->(L i j=true↔xJ es j i)
def Gb (L:Nat->Nat->Bool) (a b:Nat):Nat->Nat->Bool:=fun i j=>L i j || ((decide (i=b) || L i b) && (decide (j=a) || L a j))
structure Rx (n:Nat) (es:List Ln) (v:Nat->Int) (ps:Nat->Nat) (r k:Nat) (F:Nat->Int):Prop where
 bas:∀ i,i < n->v i≤F i
 att:∀ i,i < n->∃ j,j < n/\(j=i∨xJ es j i)/\F i=v j
 don:∀ i,i < n->ps i < r->∀ j,j < n->(j=i∨xJ es j i)->v j≤F i
 cur:∀ m a b,m < k->es[m]?=some (a,b)->ps b≤r->∀ j,j < n->(j=a∨xJ es j a)->v j≤F b
def FO (F:Nat->Int) (a b:Nat):Nat->Int:=fun i=>if i=b then max (F b) (F a) else F i
structure GP (n:Nat) (es:List Ln) (v:Nat->Int) (F:Nat->Int):Prop where
 up:∀ i j,i < n->j < n->(j=i∨xJ es j i)->v j≤F i
 att:∀ i,i < n->∃ j,j < n/\(j=i∨xJ es j i)/\F i=v j
def GB (es:List Ln):List Ln:=es.map fun e=>(e.2,e.1)
end B
namespace B
open PySem PySem.Spec L2 PyProof.Rows
def CY (r r' r'':R2) (ta tb tc td:TE):TE:=fun σ H Q=>ta σ H fun x H1=>tb σ H1 fun y H2=>r x y H2 fun z H3=>∃ k,z=.bl k∧
 (if k=true then tc σ H3 fun w' H4=>r' y w' H4 fun z' H5=>∃ k',z'=.bl k'/\(if k'=true then td σ H5 fun u' H6=>r'' w' u' H6 Q else Q (.bl false) H5) else Q (.bl false) H3)
theorem AR {t p:Addr} {H:Hp} {o:HO} (g:H p=none) (h:∃ xs,H t=some (.lst xs)):yG (ax H p o) t p=some o:=by
 have n:p≠t:=fun z=>by subst z;obtain⟨xs,e⟩:=h;rw [g] at e;cases e
 unfold yG
 rw [if_neg n,ah]
theorem i8 {xs:List V} {n:Nat}:fQ xs none (some (n:Int))=xs.take n:=by
 by_cases h:n≤xs.length
 ·exact vk h
 ·unfold fQ
  rw [HT.sIx_nat,HT.sIx_none,Nat.sub_zero,List.drop_zero,Nat.min_eq_right (by omega),List.take_of_length_le (Nat.le_refl _),List.take_of_length_le (by omega)]
section
variable {prog:Program} {w:World} {A:Around} {E:Value->Shared->Prop} {s:Shared}
end
def FB (K:PySem.W.Frag) (te:TE):TE:=fun σ H Q=>te σ H fun x H1=>∃ a xs,x=.ref a/\bh K H1 a xs/\∀ p,H1 p=none->Q (.ref p) (ax H1 p (.tup xs.reverse))
end B
namespace B
theorem mZ {b:Int} (h:0 < b):(0:Rat) < (b:Rat):=by
 have:=Rat.intCast_lt_intCast.mpr h
 exact this
theorem dA {r q:R} (hr:0 < r.2) (hq:0 < q.2):av r q=true↔val r < val q:=by
 rw [di,← Rat.intCast_lt_intCast,Rat.intCast_mul,Rat.intCast_mul]
 have h1:=mZ hr
 have h2:=mZ hq
 have e1:(r.1:Rat)=val r * (r.2:Rat):=by
  have:=cj hr
  unfold val
  generalize (r.1:Rat)=x at *
  generalize (r.2:Rat)=y at *
  grind
 have e2:(q.1:Rat)=val q * (q.2:Rat):=by
  have:=cj hq
  unfold val
  generalize (q.1:Rat)=x at *
  generalize (q.2:Rat)=y at *
  grind
 rw [e1,e2]
 generalize val r=x at *
 generalize val q=y at *
 generalize (r.2:Rat)=u at *
 generalize (q.2:Rat)=v at *
 have c:0 < u * v:=Rat.mul_pos h1 h2
 constructor
 ·intro h
  have h':x * (u * v) < y * (u * v):=by grind
  by_cases w:x < y
  ·exact w
  ·have z:y≤x:=Rat.not_lt.mp w
   have:=Rat.mul_le_mul_of_nonneg_right z (Rat.le_of_lt c)
   grind
 ·intro h
  have:=Rat.mul_lt_mul_of_pos_right h c
  grind
theorem cc {r q:R} (hr:0 < r.2) (hq:0 < q.2):av r q=false↔val q≤val r:=by
 have a:=dA hr hq
 cases c:av r q with
 | true=>
  have:=a.mp c
  constructor
  ·intro z;cases z
  ·intro z;grind
 | false=>
  constructor
  ·intro _
   by_cases w:val r < val q
   ·rw [a.mpr w] at c;cases c
   ·exact Rat.not_lt.mp w
  ·intro _;rfl
end B
namespace B
open PySem PySem.Spec L2 PyProof.Rows
theorem gz {α:Type} {K:PySem.W.Frag} {H:Hp} {D a:Addr} {xs:List V} {ds:List α} {P:Hp->V->α->Prop} {p:α->Bool} {src:List (Option Nat)} {σ:L2.St} {g:TG} {tt:TT} {te:TE} {Q:Hp->Prop}
  (mono:∀ H H' v d,au K H H'->P H v d->P H' v d) (hD:H D=none) (hS:aW K H a xs) (als:bU (P H) xs ds) (hn:ds.length≤1000)
  (turn:∀ (i:Nat) (x:V) (d:α) (H':Hp),xs[i]?=some x->ds[i]?=some d->aO H H'->P H' x d->∀ (R:VK) (E:Hp->Prop),(∀ H'',aO H' H''->p d=true->R x H'')->(∀ H'',aO H' H''->p d=false->E H'')→
   g x (cn src σ) H' fun σ2 H2=>iK (cn src σ) σ2/\tt σ2 H2 fun ok H3=>if ok=true then te σ2 H3 R else E H3)
  (fin:∀ H' ys,aO H H'->H' D=some (.lst ys)->bU (P H') ys (ds.filter p)->Q H') :
  ∃ W:Nat->Nat->List V->Hp->Prop,(∃ m,W 0 m [] (ax H D (.lst [])))/\∀ i m ys H,W i m ys H->((rc K a).stop i H/\Q H)∨((rc K a).go i H/\∀ x H',(rc K a).yld i H x H'→
   g x (cn src σ) H' fun σ2 H2=>iK (cn src σ) σ2/\tt σ2 H2 fun ok H3=>
    if ok=true then te σ2 H3 fun y H4=>H4 D=some (.lst ys)/\ys.length < sizeLine/\∃ m',m' < m/\W (i+1) m' (ys++[y]) (ax H4 D (.lst (ys++[y]))) else ∃ m',m' < m/\W (i+1) m' ys H3):=by
 refine⟨fun i m ys H'=>i≤ds.length/\m=ds.length - i/\H' D=some (.lst ys)/\aO H H'/\bU (P H') ys ((ds.take i).filter p),⟨_,Nat.zero_le _,rfl,ah,aj hD _,.nil⟩,?_⟩
 rintro i m ys H1 ⟨hi,rfl,d1,s1,al1⟩
 have hS1:aW K H1 a xs:=s1.seq hS
 by_cases hix:i < ds.length
 ·have hx0:xs[i]?=some (xs[i]'(by rw [als.len];exact hix)):=List.getElem?_eq_getElem _
  refine .inr ⟨⟨xs,_,hS1,hx0⟩,?_⟩
  rintro x H2 ⟨rfl,hy⟩
  have hx:=hy xs hS1
  obtain⟨d,hd,pd⟩:=als.at hx
  have tk:ds.take (i+1)=ds.take i++[d]:=by rw [List.take_add_one,hd];rfl
  refine turn i x d _ hx hd s1 (mono _ _ _ _ (au.same s1) pd) _ _ (fun H3 s3 o3=>?_) fun H3 s3 n3=>?_
  ·have d3:H3 D=some (.lst ys):=s3 _ _ d1
   have tm:au K H2 (ax H3 D (.lst (ys++[x]))):=(au.same s3).trans (au.up d3 _)
   have ly:ys.length≤1000:=by
    rw [al1.len]
    exact Nat.le_trans (List.length_filter_le _ _) (by rw [List.length_take];omega)
   refine⟨d3,aZ ly,ds.length - (i+1),by omega,hix,rfl,ah,fun b o q=>?_,?_⟩
   ·rw [aD (aB q hD)]
    exact s3 _ _ (s1 _ _ q)
   ·rw [tk,List.filter_append,List.filter_cons_of_pos o3,List.filter_nil]
    exact (al1.mono fun v d p=>mono _ _ _ _ tm p).snoc (mono _ _ _ _ ((au.same s1).trans tm) pd)
  ·refine⟨ds.length - (i+1),by omega,hix,rfl,s3 _ _ d1,s1.trans s3,?_⟩
   rw [tk,List.filter_append,List.filter_cons_of_neg (by rw [n3];decide),List.filter_nil,List.append_nil]
   exact al1.mono fun v d p=>mono _ _ _ _ (au.same s3) p
 ·have e:i=ds.length:=by omega
  subst e
  rw [List.take_length] at al1
  exact .inl ⟨⟨xs,hS1,by rw [als.len];exact Nat.le_refl _⟩,fin H1 ys s1 d1 al1⟩
def Bl (zs:List R):Prop:=zs.Pairwise fun a b=>av a b=true
theorem zu {zs:List R} {s:R} (hz:∀ z∈zs,cO z) (hs:cO s) (pw:Bl zs) {j:Nat} {z:R} (e:zs[j]?=some z):av z s=decide (j < (zs.filter (av · s)).length):=by
 have inc:CS (zs.map fun z=>(z,z)):=List.pairwise_map.mpr pw
 have al:qX (zs.map fun z=>(z,z)):=fun r hr=>by
  obtain⟨z,hm,rfl⟩:=List.mem_map.mp hr
  exact (hz z hm).pos
 have e':(zs.map fun z=>(z,z))[j]?=some (z,z):=by rw [List.getElem?_map,e];rfl
 have c:=fh hs.pos inc al e'
 have n:cz (zs.map fun z=>(z,z)) s=(zs.filter (av · s)).length:=by
  unfold cz
  rw [List.countP_map,List.countP_eq_length_filter]
  rfl
 rw [n] at c
 exact c
theorem xo {z s:R} (hz:cO z) (hs:cO s) (n:av z s=false) (ne:z≠s):av s z=true:=by
 have le:=(cc hz.pos hs.pos).mp n
 refine (dA hs.pos hz.pos).mpr ?_
 have nv:val z≠val s:=fun q=>ne (eu hz hs q)
 grind
theorem wo {zs:List R} {s:R} (hz:∀ z∈zs,cO z) (hs:cO s) (pw:Bl zs) (no:¬ s∈zs):Bl (zs.take (zs.filter (av · s)).length++s :: zs.drop (zs.filter (av · s)).length):=by
 have at_:=fun j z=>zu (j:=j) (z:=z) hz hs pw
 generalize (zs.filter (av · s)).length=n at at_
 have lo:∀ a∈zs.take n,av a s=true:=fun a ha=>by
  obtain⟨j,hj⟩:=List.getElem?_of_mem ha
  rw [List.getElem?_take] at hj
  split at hj
  ·rename_i c
   rw [at_ j a hj,decide_eq_true c]
  ·cases hj
 have hi:∀ a∈zs.drop n,av s a=true:=fun a ha=>by
  have ma:=List.mem_of_mem_drop ha
  obtain⟨j,hj⟩:=List.getElem?_of_mem ha
  rw [List.getElem?_drop] at hj
  have c:=at_ (n+j) a hj
  rw [decide_eq_false (by omega)] at c
  exact xo (hz a ma) hs c fun q=>no (by rw [← q];exact ma)
 have both:(zs.take n++zs.drop n).Pairwise fun a b=>av a b=true:=by rw [List.take_append_drop];exact pw
 obtain⟨p1,p2,p3⟩:=List.pairwise_append.mp both
 refine List.pairwise_append.mpr ⟨p1,List.pairwise_cons.mpr ⟨hi,p2⟩,fun a ha b hb=>?_⟩
 rcases List.mem_cons.mp hb with rfl | hb
 ·exact lo a ha
 ·exact p3 a ha b hb
theorem A5 {zs:List R} {s:R}:((zs.map dR).any fun e=>PyData.eqv e (dR s))=decide (s∈zs):=by
 rw [List.any_map]
 by_cases c:s∈zs
 ·rw [decide_eq_true c,List.any_eq_true]
  exact⟨s,c,ie s⟩
 ·rw [decide_eq_false c,List.any_eq_false]
  intro z hz
  show ¬ PyData.eqv (dR z) (dR s)=true
  rw [pE,decide_eq_true_iff]
  intro q
  exact c (by rw [← q];exact hz)
theorem xu (zs:List R):oy (zs.map dR):=fun e he=>by
 obtain⟨z,_,rfl⟩:=List.mem_map.mp he
 exact⟨iH z,mT z⟩
theorem bU.take {α:Type} {P:V->α->Prop}:∀ {xs:List V} {ds:List α} (n:Nat),bU P xs ds->bU P (xs.take n) (ds.take n)
 | _,_,0,_=>by rw [List.take_zero,List.take_zero];exact .nil
 | _,_,_+1,.nil=>.nil
 | _,_,n+1,.cons h t=>.cons h (bU.take n t)
theorem bU.drop {α:Type} {P:V->α->Prop}:∀ {xs:List V} {ds:List α} (n:Nat),bU P xs ds->bU P (xs.drop n) (ds.drop n)
 | _,_,0,h=>h
 | _,_,_+1,.nil=>.nil
 | _,_,n+1,.cons _ t=>bU.drop n t
theorem bU.join {α:Type} {P:V->α->Prop}:∀ {xs ys:List V} {ds es:List α},bU P xs ds->bU P ys es->bU P (xs++ys) (ds++es)
 | _,_,_,_,.nil,k=>k
 | _,_,_,_,.cons h t,k=>.cons h (bU.join t k)
end B
namespace L2
open PySem PySem.Spec PyProof.Rows
structure CH (k:Nat) (A:Around):Prop where
 dp:A.depth+3 * k+5 < recursionLimit
 un:A.units+16 * k+200 < cLine
 gd:A.guards=some []
structure Fn (P:Program) (w:World) (K:PySem.W.Frag) (mg:Str->Option Value) (base:Heap) (CX:ni) (k:Nat) (f:Addr) (fd:FuncData) (ps:List Str) (sp:Sp):Prop where
 len:∀ vs H Q E,sp vs H Q E->vs.length=ps.length
 run:∀ (A:Around) (outer:List Env) (s:Shared) (H:Hp) (args:Args) (us:List Value) (vs:List V) (Q:VK) (E:XK),CH k A->vK P w K mg base A outer s H->BindsTo s fd args (ps.zip us)->bg vs us->sp vs H Q E→
  codeAny (model P w) A (.call (.ref f) args) (CR CX outer P w H s Q E) s
def GM (CX:ni) (P:Program) (w:World) (K:PySem.W.Frag) (mg:Str->Option Value) (base:Heap) (N:List Str) (qual:Str) (scope:Scope) (f:Addr) (cd:Value) (A:Around) (outer:List Env) (s:Shared) (H:Hp) (E:XK):Cx:={ bX CX P w K mg base N qual scope f cd A outer s H E with calm:=false }
section
variable {X:Cx} {CX:ni} {k:Nat} {f C:Addr} {fd:FuncData} {ps:List Str} {sp:Sp} {dvs:List V} {ds:List Value} {E:XK} {x m:Str} {p pos apos:Pos} {e o:Expr} {es:List Expr} {ta:TE} {t:TA}
end
section
variable {P:Program} {w:World} {K:PySem.W.Frag} {mg:Str->Option Value} {base:Heap}
end
end L2
namespace B
open PySem PySem.Spec L2 PyProof.Rows
section
set_option autoImplicit true
set_option relaxedAutoImplicit true
end
def CQ (d:Addr) (ob:Obj) (kvs:List (cV×V)):It:=
 ⟨fun i H=>H d=some (.frz ob (.dK kvs))/\i < kvs.length,
  fun i H x H'=>∃ p k v,H p=none/\x=.ref p/\kvs[i]?=some (k,v)/\H'=ax H p (.tup [kV k,v]),
  fun i H=>H d=some (.frz ob (.dK kvs))/\kvs.length≤i⟩
theorem KV.get:∀ {kvs:List (cV×V)} {vs:List (cV×Value)},KV kvs vs->∀ {i:Nat} {k:cV} {v:V},kvs[i]?=some (k,v)->∃ u,vs[i]?=some (k,u)/\aY v u
 | _,_,.nil,i,k,v,h=>by simp at h
 | (a,b) :: r,(c,d) :: t,.cons h z,0,k,v,e=>by
  have e':(a,b)=(k,v):=by simpa using e
  cases e'
  obtain⟨h1,h2⟩:=h
  have h1':a=c:=h1
  subst h1'
  exact⟨d,rfl,h2⟩
 | _ :: r,_ :: t,.cons h z,i+1,k,v,e=>by
  obtain⟨u,q,w⟩:=KV.get z (i:=i) (by simpa using e)
  exact⟨u,by simpa using q,w⟩
theorem Ck {k:cV} {u:Value} (h:jC k u=true):aY (kV k) u:=by
 rcases bR h with ⟨i,t,rfl,rfl⟩ | ⟨x,t,rfl,rfl⟩
 ·exact⟨t,rfl⟩
 ·exact⟨t,rfl⟩
theorem AQ:entryFor table "dict_itemiterator.__iter__" = some Builtin.«dict_keyiterator.__iter__»:=
 entryFor_alias (by kernel_rfl) (by first | rfl | decide +kernel | (unfold String.splitOn;simp +decide [String.splitOnAux])) (by decide +kernel) (by kernel_rfl) (id' := "dict_keyiterator.__iter__")
theorem nq {P:Program} {w:World} {K:PySem.W.Frag} {elts:List Expr} {x1} {pos:Pos} {it d:Addr} {ob:Obj} {kvs:List (cV×V)} {es:Array DictEntry} {ep:Nat} (hob:ob.data=.dict es ep) :
  oq P w K (.Tuple elts x1 pos) (CQ d ob kvs) [it] it (fun i h=>∃ ok ov,IsItemIter h it d i kvs.length ep ok ov) where
 mem:=by simp
 obj:=fun i h st c hc=>by
  obtain⟨ok,ov,e⟩:=st
  rw [List.mem_singleton] at hc
  subst hc
  exact⟨_,e,fun v q=>by cases (show Data.fields _=Data.cell v from q)⟩
 keep:=fun i h h' ⟨ok,ov,e⟩ k=>⟨ok,ov,k it (by simp) _ e⟩
 item:=by
  intro X hP hw hK hc i pins s σ H E I hf st hg
  subst hP hw hK
  obtain⟨hd,hi⟩:=hg
  obtain⟨ok,ov,e⟩:=st
  obtain⟨q0,z,hds,vs,rel,o,es',ep',d1,d2,d3,d4⟩:=(show bJ X.prog X.w H s.heap d (.frz ob (.dK kvs)) from I.hok d _ hd)
  have eo:o=ob:=Option.some.inj (d1.symm.trans q0)
  subst eo
  rw [hob] at d3
  cases d3
  have dat:s.heap.DictAt (bQ X.prog X.w) d vs ep:=⟨o,es,d1,d2,hob,d4⟩
  obtain⟨k,v,hkv'⟩:∃ k v,kvs[i]?=some (k,v):=⟨(kvs[i]'hi).1,(kvs[i]'hi).2,List.getElem?_eq_getElem hi⟩
  obtain⟨u,hu,ru⟩:=KV.get rel hkv'
  have ndi:it≠d:=fun q=>by rw [q] at hf;have:=(hf d (by simp)).1;rw [hd] at this;cases this
  have itl:it < s.heap.objs.size:=Heap.lt_size e
  rw [rel.length] at e
  refine wpAny_pyNext_items_item e dat hu fun key h1 hkey eo tup hz hk=>⟨_,rfl,wpAny_letOwnedTupleGo_items eo fun h2 e2 sb=>?_⟩
  have nt:s.heap.objs.size≠it:=Nat.ne_of_gt itl
  have P:bJ X.prog X.w (ax H s.heap.objs.size (.tup [kV k,v])) h2 s.heap.objs.size (.tup [kV k,v]):=
   ⟨by show 2≤sizeLine;decide,[key,u],.cons (Ck hkey) (.cons ru .nil),⟨_,sb.extBut _ _ nt tup,rfl,_,rfl⟩⟩
  have I2:Inv X pins σ (ax H s.heap.objs.size (.tup [kV k,v])) { s with heap:=h2,toks:=s.toks }:=ky I (fun c o' n q=>by
   have n':c≠it:=fun r=>n (by simp [r])
   exact sb.extBut _ _ n' (hk c o' n' q)) hf (Nat.le_refl _) P
  refine⟨.ref s.heap.objs.size,_,I2,rfl,⟨_,k,v,I.fresh,rfl,hkv',rfl⟩,⟨key,u,by rw [rel.length];exact e2⟩,fun c hc=>?_⟩
  have hc':c=it:=by simpa using hc
  rw [hc',aD (Ne.symm nt)]
  exact (hf it (by simp)).1
 done:=by
  intro X hP hw hK hc i pins s σ H E I hf st hg
  subst hP hw hK
  obtain⟨hd,hi⟩:=hg
  obtain⟨ok,ov,e⟩:=st
  obtain⟨q0,z,hds,vs,rel,o,es',ep',d1,d2,d3,d4⟩:=(show bJ X.prog X.w H s.heap d (.frz ob (.dK kvs)) from I.hok d _ hd)
  have eo:o=ob:=Option.some.inj (d1.symm.trans q0)
  subst eo
  rw [hob] at d3
  cases d3
  have dat:s.heap.DictAt (bQ X.prog X.w) d vs ep:=⟨o,es,d1,d2,hob,d4⟩
  have hh:X.A.in1.handled=none:=I.ok.hd hc
  rw [rel.length] at e hi
  refine wpAny_pyNext_items_end hh e dat (List.getElem?_eq_none hi) fun h1 ex=>⟨rfl,?_⟩
  exact kB (t':=s.toks) I (fun c o' n q=>ex c o' (fun r=>n (by simp [r])) q) hf
 self:=fun A i s Q E st h=>by
  obtain⟨ok,ov,e⟩:=st
  have hT:s.TypeIs (.ref it) "dict_itemiterator" := ⟨_,e,rfl⟩
  refine wpAny_pyIter_slot hT PySem.F.slot_dict_itemiterator_iter (wpAny_call_entry PySem.F.slot_dict_itemiterator_iter hT AQ ?_ (PySem.F.args_dict_itemiterator_iter_1 _))
  show wpAny _ _ (ret (.ref it)) _ _ s
  exact wpAny_pure ⟨_,rfl, "dict_itemiterator", _,hT,PySem.F.slot_dict_itemiterator_next.lookup,h⟩
def u0 (td:TE):TI:=fun σ H R=>td σ H fun x H1=>∃ d kvs,x=.ref d/\H1 d=some (.dK kvs)/\∀ ob,R (CQ d ob kvs) (ax H1 d (.frz ob (.dK kvs)))
theorem um {X:Cx} {elts:List Expr} {x1} {tp apos pos:Pos} {o:Expr} {td:TE} (ho:PE X o td) (hb:attributeBase o "items" X.env (eval o X.env)=eval o X.env:=by rfl) (hl:(apos.endLine == pos.line)=true:=by rfl) :
  PI X (.Tuple elts x1 tp) (.Call (.Attribute o "items" apos) [] [] pos) (u0 td):=by
 intro pins s σ H R I h
 refine wpAny_Call_method (T := "dict") (id := "dict.items") hb rfl hl PySem.F.plainAttrs_dict PySem.F.slot_dict_items PySem.F.type_dict_items (cb (ho pins s σ H _ I h) fun u s1 ⟨x,H1,I1,rx,d,kvs,ex,e,q⟩=>?_)
 subst ex
 obtain rfl:u=Value.ref d:=rx
 obtain⟨z,hds,vs,rel,dd⟩:=yF I1.hok e
 obtain⟨t1,t2,_⟩:=uX I1 (.inl ⟨kvs,.inl e⟩)
 refine⟨t1,t2,?_⟩
 show wpAny _ _ (callWith pos (.builtin "dict.items") [.ref d] [] []) _ _ _
 refine method_meetsIn PySem.F.slot_dict_items PySem.F.entry_dict_items rfl (PySem.evalArgs_none ⟨rfl,t1,PySem.F.args_dict_items_1 _,_,meets_dict_items (bQ X.prog X.w) d hds,⟨vs,dd⟩,?_⟩)
 obtain⟨o',es,ep,d1,d2,d3,d4⟩:=id dd
 have dat:s1.heap.DictAt (bQ X.prog X.w) d vs ep:=⟨o',es,d1,d2,d3,d4⟩
 refine wpAny_pyIter_items (d:=d) (kvs:=vs) (ep:=ep) ⟨_,Heap.get?_push_size _ rfl,rfl,rfl⟩ (dat.push _) ?_
 have sz:(s1.heap.push { cls:=.type "dict_items", data:=.fields #[.ref d] }).objs.size=s1.heap.objs.size+1:=Heap.size_push ..
 have I2:=I1.kept (t':=s1.toks) (h':=(s1.heap.push { cls:=.type "dict_items", data:=.fields #[.ref d] }).push { cls:=.type "dict_itemiterator", data:=.fields #[.none,.bool false,.ref d,.int 0 0,.int vs.length 0,.int ep 0,.none,.none] }) fun b o q=>Heap.get?_push_of_some _ (Heap.get?_push_of_some _ q)
 have hit:=Heap.get?_push_size (s1.heap.push { cls:=.type "dict_items", data:=.fields #[.ref d] }) (o:={ cls:=.type "dict_itemiterator", data:=.fields #[.none,.bool false,.ref d,.int 0 0,.int vs.length 0,.int ep 0,.none,.none] }) rfl
 have dl:d < s1.heap.objs.size:=Heap.lt_size d1
 have k2:∀ b o,s1.heap.get? b=some o->((s1.heap.push { cls:=.type "dict_items", data:=.fields #[.ref d] }).push { cls:=.type "dict_itemiterator", data:=.fields #[.none,.bool false,.ref d,.int 0 0,.int vs.length 0,.int ep 0,.none,.none] }).get? b=some o:=fun b o q=>Heap.get?_push_of_some _ (Heap.get?_push_of_some _ q)
 generalize (s1.heap.push { cls:=.type "dict_items", data:=.fields #[.ref d] }).push { cls:=.type "dict_itemiterator", data:=.fields #[.none,.bool false,.ref d,.int 0 0,.int vs.length 0,.int ep 0,.none,.none] }=hE at I2 hit k2 ⊢
 rw [sz] at hit ⊢
 have I3:=lA (h':=hE) (t':=s1.toks) (ob:=.frz o' (.dK kvs)) I2 (by rw [e];exact True.intro) ⟨rfl,fun _ _=>rfl⟩ ⟨_,k2 _ _ d1⟩ ⟨k2 _ _ d1,z,hds,vs,rel,o',es,ep,k2 _ _ d1,d2,d3,d4⟩
 have nd:s1.heap.objs.size+1≠d:=Nat.ne_of_gt (Nat.lt_succ_of_lt dl)
 refine⟨_,[s1.heap.objs.size+1],_,_,_,rfl,I3,nq d3,⟨.none,.none,by rw [rel.length];exact hit⟩,fun c hc=>?_,q o'⟩
 have hc':c=s1.heap.objs.size+1:=by simpa using hc
 subst hc'
 exact I1.fpOk (Nat.le_succ _) (by rw [aD nd];exact I1.hok.fresh (Nat.le_succ _))
theorem qN {d:Addr} {ob:Obj} {kvs:List (cV×V)} {g:TG} {tb:TS} {D:iq} {σ:L2.St} {H:Hp} (Pv:Nat->L2.St->Hp->Prop) (h0:Pv 0 σ H)
  (hl:∀ i σ H,Pv i σ H->H d=some (.frz ob (.dK kvs)))
  (hs:∀ i k v p σ H,kvs[i]?=some (k,v)->Pv i σ H->H p=none->g (.ref p) σ (ax H p (.tup [kV k,v])) fun σ2 H2=>tb { D with nx:=Pv (i+1),ct:=Pv (i+1),bk:=D.nx } σ2 H2) (hd:∀ σ H,Pv kvs.length σ H->D.nx σ H) :
  ∃ W:Nat->Nat->L2.St->Hp->Prop,(∃ m,W 0 m σ H)/\∀ i m σ H,W i m σ H→
   ((CQ d ob kvs).stop i H/\D.nx σ H)∨((CQ d ob kvs).go i H/\∃ N:L2.St->Hp->Prop,(∀ σ' H',N σ' H'->∃ m',m' < m/\W (i+1) m' σ' H')/\∀ x H',(CQ d ob kvs).yld i H x H'->g x σ H' fun σ2 H2=>tb { D with nx:=N,ct:=N,bk:=D.nx } σ2 H2):=by
 refine⟨fun i m σ H=>m=kvs.length - i/\i≤kvs.length/\Pv i σ H,⟨_,rfl,Nat.zero_le _,h0⟩,?_⟩
 rintro i m σ H ⟨rfl,hi,p⟩
 have q:=hl i σ H p
 by_cases hlt:i < kvs.length
 ·refine .inr ⟨⟨q,hlt⟩,Pv (i+1),fun σ' H' p'=>⟨kvs.length - (i+1),by omega,rfl,hlt,p'⟩,fun x H' y=>?_⟩
  obtain⟨pp,k,v,hp,rfl,hkv,rfl⟩:=y
  exact hs i k v pp σ _ hkv p hp
 ·have e:i=kvs.length:=by omega
  subst e
  exact .inl ⟨⟨q,Nat.le_refl _⟩,hd σ H p⟩
def og (ps:List (Int×Int)):List (cV×V):=ps.map fun p=>(Sum.inl p.1,V.int p.2)
def pX:List (Int×Int)->Int->Int
 | [],_=>0
 | (c,u) :: r,b=>if c=b then u else pX r b
def fB:List (Int×Int)->Int->Int->List (Int×Int)
 | [],b,t=>[(b,0+t)]
 | (c,u) :: r,b,t=>if c=b then (c,u+t) :: r else (c,u) :: fB r b t
theorem uc {p:cV×V} {r:List (cV×V)} {k:cV} {v:V} (e:p.1=k) (n:∀ q∈r,q.1≠k):fG (p :: r) k v=(k,v) :: r:=by
 unfold fG
 rw [if_pos (by simp [e]),List.map_cons,if_pos e,e]
 congr 1
 exact (List.map_congr_left (g:=id) (fun q hq=>by rw [if_neg (n q hq)];rfl)).trans (List.map_id r)
theorem qk {p:cV×V} {r:List (cV×V)} {k:cV} {v:V} (e:¬ p.1=k):fG (p :: r) k v=p :: fG r k v:=by
 unfold fG
 rw [List.any_cons,decide_eq_false e,Bool.false_or]
 split
 ·rw [List.map_cons,if_neg e]
 ·rfl
theorem pA:∀ (ps:List (Int×Int)) (b:Int),(iu (og ps) (Sum.inl b)).getD (V.int 0)=V.int (pX ps b)
 | [],b=>rfl
 | (c,u) :: r,b=>by
  show (iu ((Sum.inl c,V.int u) :: og r) (Sum.inl b)).getD (V.int 0)=V.int (if c=b then u else pX r b)
  by_cases e:c=b
  ·rw [if_pos e,gU (by rw [e])];rfl
  ·rw [if_neg e,gW (fun z=>e (by injection z)),pA r b]
theorem oP:∀ (ps:List (Int×Int)) (b t:Int),(ps.map (·.1)).Nodup->fG (og ps) (Sum.inl b) (V.int (pX ps b+t))=og (fB ps b t)
 | [],b,t,_=>rfl
 | (c,u) :: r,b,t,nd=>by
  have nd':=List.nodup_cons.mp nd
  show fG ((Sum.inl c,V.int u) :: og r) (Sum.inl b) (V.int ((if c=b then u else pX r b)+t))=og (if c=b then (c,u+t) :: r else (c,u) :: fB r b t)
  by_cases e:c=b
  ·rw [if_pos e,if_pos e,uc (by rw [e]) (fun q hq z=>?_)]
   ·show _=(Sum.inl c,V.int (u+t)) :: og r
    rw [e]
   ·obtain⟨p,hp,rfl⟩:=List.mem_map.mp hq
    have z':p.1=b:=by injection z
    exact nd'.1 (List.mem_map.mpr ⟨p,hp,z'.trans e.symm⟩)
  ·rw [if_neg e,if_neg e,qk (fun z=>e (by injection z)),oP r b t nd'.2]
   rfl
def gX:List (Int×Int)->Rat
 | []=>0
 | p :: r=>(p.2:Rat) / (p.1:Rat)+gX r
theorem xH {a b c:Rat}:(a+b) / c=a / c+b / c:=by rw [Rat.div_def,Rat.div_def,Rat.div_def,Rat.add_mul]
theorem lV:∀ (ps:List (Int×Int)) (b t:Int),gX (fB ps b t)=gX ps+(t:Rat) / (b:Rat)
 | [],b,t=>by
  show ((0+t:Int):Rat) / (b:Rat)+0=0+(t:Rat) / (b:Rat)
  rw [Int.zero_add];grind
 | (c,u) :: r,b,t=>by
  show gX (if c=b then (c,u+t) :: r else (c,u) :: fB r b t)=(u:Rat) / (c:Rat)+gX r+(t:Rat) / (b:Rat)
  by_cases e:c=b
  ·rw [if_pos e]
   show ((u+t:Int):Rat) / (c:Rat)+gX r=_
   rw [Rat.intCast_add,xH,e]
   grind
  ·rw [if_neg e]
   show (u:Rat) / (c:Rat)+gX (fB r b t)=_
   rw [lV r b t]
   grind
theorem j0:∀ (ps:List (Int×Int)) (p:Int×Int),gX (ps++[p])=gX ps+(p.2:Rat) / (p.1:Rat)
 | [],p=>by show (p.2:Rat) / (p.1:Rat)+0=0+_;grind
 | q :: r,p=>by
  show (q.2:Rat) / (q.1:Rat)+gX (r++[p])=(q.2:Rat) / (q.1:Rat)+gX r+_
  rw [j0 r p];grind
structure iS (n i:Nat) (ps:List (Int×Int)):Prop where
 nd:(ps.map (·.1)).Nodup
 len:ps.length≤i
 bot:∀ p∈ps,0 < p.1/\p.1.natAbs < 2 ^ n
 top:∀ p∈ps,p.2.natAbs≤i * 2 ^ n
theorem io:∀ (ps:List (Int×Int)) (b t:Int) (c:Int),c∈(fB ps b t).map (·.1)↔c∈ps.map (·.1)∨c=b
 | [],b,t,c=>by simp [fB]
 | (d,u) :: r,b,t,c=>by
  show c∈(if d=b then (d,u+t) :: r else (d,u) :: fB r b t).map (·.1)↔_
  by_cases e:d=b
  ·rw [if_pos e]
   constructor
   ·intro h;exact .inl h
   ·rintro (h | h)
    ·exact h
    ·exact List.mem_cons.mpr (.inl (h.trans e.symm))
  ·rw [if_neg e,List.map_cons,List.map_cons,List.mem_cons,List.mem_cons,io r b t c]
   exact or_assoc.symm
theorem vA:∀ (ps:List (Int×Int)) (b t:Int),(ps.map (·.1)).Nodup->((fB ps b t).map (·.1)).Nodup
 | [],b,t,_=>by simp [fB]
 | (d,u) :: r,b,t,nd=>by
  have nd':=List.nodup_cons.mp nd
  show ((if d=b then (d,u+t) :: r else (d,u) :: fB r b t).map (·.1)).Nodup
  by_cases e:d=b
  ·rw [if_pos e];exact nd
  ·rw [if_neg e,List.map_cons,List.nodup_cons]
   refine⟨fun z=>?_,vA r b t nd'.2⟩
   rcases (io r b t d).mp z with h | h
   ·exact nd'.1 h
   ·exact e h
theorem pO:∀ (ps:List (Int×Int)) (b t:Int),(fB ps b t).length≤ps.length+1
 | [],b,t=>Nat.le_refl 1
 | (d,u) :: r,b,t=>by
  show (if d=b then (d,u+t) :: r else (d,u) :: fB r b t).length≤_
  split
  ·exact Nat.le_succ _
  ·exact Nat.succ_le_succ (pO r b t)
theorem pN:∀ (ps:List (Int×Int)) (b t:Int) (M N:Nat),(∀ p∈ps,p.2.natAbs≤M)->t.natAbs≤N->∀ p∈fB ps b t,p.2.natAbs≤M+N
 | [],b,t,M,N,_,ht,p,hp=>by
  have e:p=(b,0+t):=by simpa [fB] using hp
  rw [e]
  show (0+t).natAbs≤M+N
  omega
 | (d,u) :: r,b,t,M,N,h,ht,p,hp=>by
  have hu:u.natAbs≤M:=h (d,u) List.mem_cons_self
  have hr:∀ q∈r,q.2.natAbs≤M:=fun q hq=>h q (List.mem_cons_of_mem _ hq)
  have hp':p∈(if d=b then (d,u+t) :: r else (d,u) :: fB r b t):=hp
  split at hp'
  ·rcases List.mem_cons.mp hp' with e | e
   ·rw [e]
    show (u+t).natAbs≤M+N
    omega
   ·have:=hr p e
    omega
  ·rcases List.mem_cons.mp hp' with e | e
   ·rw [e]
    show u.natAbs≤M+N
    omega
   ·exact pN r b t M N hr ht p e
theorem iS.add {n i:Nat} {ps:List (Int×Int)} (h:iS n i ps) {r:R} (w:Wf n r):iS n (i+1) (fB ps r.2 r.1) where
 nd:=vA ps r.2 r.1 h.nd
 len:=Nat.le_trans (pO ps r.2 r.1) (Nat.succ_le_succ h.len)
 bot:=fun p hp=>by
  rcases (io ps r.2 r.1 p.1).mp (List.mem_map.mpr ⟨p,hp,rfl⟩) with z | z
  ·obtain⟨q,hq,e⟩:=List.mem_map.mp z
   rw [← e]
   exact h.bot q hq
  ·rw [z];exact⟨w.pos,w.bot⟩
 top:=fun p hp=>by
  have:=pN ps r.2 r.1 (i * 2 ^ n) (2 ^ n) h.top (Nat.le_of_lt w.top) p hp
  rw [Nat.add_mul,Nat.one_mul]
  exact this
theorem iS.nil (n:Nat):iS n 0 []:=⟨List.nodup_nil,Nat.le_refl _,(fun _ h=>nomatch h),(fun _ h=>nomatch h)⟩
theorem iS.wf {n i:Nat} {ps:List (Int×Int)} (h:iS n i ps) (hi:i≤255) {p:Int×Int} (hp:p∈ps):Wf (n+8) (df p.2 p.1):=by
 refine gO (h.bot p hp).1 ?_ (Nat.lt_of_lt_of_le (h.bot p hp).2 (Nat.pow_le_pow_right (by decide) (by omega)))
 have a:=h.top p hp
 have b:i * 2 ^ n≤255 * 2 ^ n:=Nat.mul_le_mul_right _ hi
 have c:0 < 2 ^ n:=Nat.pow_pos (by decide)
 rw [Nat.pow_add]
 omega
def gA:List R->Rat
 | []=>0
 | r :: t=>val r+gA t
theorem jX:∀ (rs:List R) (r:R),gA (rs++[r])=gA rs+val r
 | [],r=>by show val r+0=0+val r;grind
 | q :: t,r=>by show val q+gA (t++[r])=val q+gA t+val r;rw [jX t r];grind
theorem lO:∀ (rs:List R) (acc:R),cO acc->(∀ r∈rs,cO r)->cO (rs.foldl aH acc)/\val (rs.foldl aH acc)=val acc+gA rs
 | [],acc,ha,_=>⟨ha,by show val acc=val acc+0;grind⟩
 | r :: t,acc,ha,h=>by
  have hr:=h r List.mem_cons_self
  obtain⟨a,b⟩:=lO t (aH acc r) (cR ha hr) fun q hq=>h q (List.mem_cons_of_mem _ hq)
  refine⟨a,?_⟩
  rw [List.foldl_cons,b,bA ha.pos hr.pos]
  show val acc+val r+gA t=val acc+(val r+gA t)
  grind
theorem eI:val (0,1)=0:=by decide +kernel
theorem nJ:cO (0,1):=⟨by decide,by decide⟩
theorem iU {rs:List R} (h:∀ r∈rs,cO r):cO (eY rs)/\val (eY rs)=gA rs:=by
 obtain⟨a,b⟩:=lO rs (0,1) nJ h
 refine⟨a,b.trans ?_⟩
 rw [eI];grind
theorem rN {rs:List R} {x:R} (h:∀ r∈rs,cO r) (hx:cO x) (e:val x=gA rs):x=eY rs:=
 eu hx (iU h).1 (e.trans (iU h).2.symm)
theorem Wf.red {n:Nat} {r:R} (h:Wf n r):cO r:=⟨h.pos,h.cop⟩
section
set_option autoImplicit true
set_option relaxedAutoImplicit true
theorem t6   : QE X (.Dict [] [] pos) rK:=⟨uv ⟩
theorem ua  (hu:X.A.units+1 < cLine) (ho:QE X o td) (he:QE X e ty) (hf:QE X f tx) (m:M2 X o "get" apos e f cpos):QE X (.Call (.Attribute o "get" apos) [e,f] [] cpos) (rL td ty tx):=⟨uw hu ho.p he.p hf.p m⟩
theorem wC  (hu:X.A.units+1 < cLine) (ho:QE X o td) (hi:QE X i ty) (hv:QE X value tv) (hs:swapsWith value (some (.Subscript o i pos')) pos.line X.env=pure false):QS X (.Assign [.Subscript o i pos'] value pos) (ye td ty tv):=⟨wO hu ho.p hi.p hv.p hs⟩
theorem tY  {X:Cx} {elts:List Expr} {x1} {tp apos pos:Pos} {o:Expr} {td:TE} (ho:QE X o td) (hb:attributeBase o "items" X.env (eval o X.env)=eval o X.env:=by rfl) (hl:(apos.endLine == pos.line)=true:=by rfl):QI X (.Tuple elts x1 tp) (.Call (.Attribute o "items" apos) [] [] pos) (u0 td):=⟨um ho.p hb hl⟩
end
end B
namespace B
abbrev Pl:=Nat×Nat
def xp (p:Pl):Int:=(p.2:Int) - p.1+1
def Bi (p q:Pl):Prop:=p.1 < q.1∨(p.1=q.1/\q.2≤p.2)
structure GW (S:Pl->Prop) (L:Pl->Int) (p:Pl):Prop where
 inn:S p
 all:∀ q,S q->L q * xp p < L p * xp q∨(L q * xp p=L p * xp q/\Bi p q)
def Fi (n:Nat) (p:Pl):Prop:=p.1≤p.2/\p.2 < n
def Fh (n b e:Nat) (p:Pl):Prop:=Fi n p/\(p.1 < b∨(p.1=b/\e≤p.2))
def Fg (n b e:Nat) (p:Pl):Prop:=Fi n p/\(p.1 < b∨(p.1=b/\p.2 < e))
abbrev Wn:=Option (Nat×Nat)
def Cq (b e:Nat):Wn->Bool
 | none=>false
 | some (x,y)=>decide (b≤x) && decide (y≤e)
def Cr (ws:List Wn) (p:Pl):List Nat:=(List.range ws.length).filter fun i=>Cq p.1 p.2 (ws.getD i none)
def E2 (ws:List Wn) (A:Nat->Int) (p:Pl):Int:=((Cr ws p).map A).sum
end B
namespace B
open PySem PySem.Spec L2 PyProof.Rows
def lh (ns:List Int):List Int:=ns.foldl step_dedup []
def ET (K:PySem.W.Frag):List V->Hp->VK->Prop:=fun xs H Q=>∃ p ns,xs=[.ref p]/\aW K H p (ns.map V.int)/\ns.length≤1000/\∀ l,H l=none->Q (.ref l) (ax H l (.set (fun k=>(lh ns).any (· == k)) (lh ns).length))
def EV:List V->Hp->VK->Prop:=fun xs H Q=>∃ p S n,xs=[.ref p]/\H p=some (.set S n)/\Q (.int n) H
def Ee (xs:Array Nat):Prop:=∀ i j (_:i < j) (hj:j < xs.size),xs[i]'(by omega) < xs[j]
def Eb (t:SetTable):Prop:=t.plain=true->t.dummies=#[]/\Ee t.place
section
variable {prog:Program} {w:World} {A:Around} {E:Value->Shared->Prop} {s:Shared}
def Dr:Value->Int
 | .int n _=>n
 | _=>0
def Bd (w:World) (h:Heap) (a:Addr) (ks:List Int):Prop:=∃ o es ep t,h.get? a=some o/\o.ExactSet/\o.data=.set es ep t/\(∀ e∈es.toList,∃ n u,e=(hashInt n,Value.int n u))∧
 (es.toList.map fun e=>Dr e.2).Perm ks/\t.fits es.size=true/\Eb t/\t.led=!w.params.followText "set-order"
end
section
variable {prog:Program} {w:World} {A:Around} {E:Value->Shared->Prop} {s:Shared}
def Bj (w:World):Obj:={ cls:=.type "set", dict:=none,data:=.set #[] 0 (.fresh 0 0 (!w.params.followText "set-order")) }
variable {R:Result->Shared->Prop} {I:Addr} {fp wr:List Addr} {G:Array GenState->Array GenState->Prop} {n:Nat} {P:Nat->Value->Prop} {St:Nat->Shared->Prop}
end
section
variable {prog:Program} {w:World} {A:Around} {E:Value->Shared->Prop} {s:Shared}
end
namespace FS
end FS
section
variable {prog:Program} {w:World} {A:Around} {E:Value->Shared->Prop} {s:Shared}
def FM (first:Value) (i:Nat) (a:Addr) (n ep:Nat):Obj:={ cls:=.type "set_iterator", data:=.fields #[first,.int i 0,.ref a,.int n 0,.int ep 0] }
end
end B
namespace B
open PySem PySem.Spec L2 PyProof.Rows
section
variable {prog:Program} {w:World} {A:Around} {E:Value->Shared->Prop} {s:Shared}
end
section
variable {prog:Program} {w:World} {A:Around} {E:Value->Shared->Prop} {s:Shared}
def Ea (prog:Program) (w:World) (a:Addr) (ks:List Int) (s:Shared) (It:Addr) (s1:Shared):Prop:=
 ∃ (fp:List Addr) (items:Array Value) (St:Nat->Shared->Prop),(∀ A':Around,A'.handled=none->WalksS prog w A' It fp [It] (fun a b=>b=a) items.size (fun i v=>items[i]?=some v) St)/\St 0 s1/\It∈fp/\(∀ b∈fp,b < s1.heap.objs.size/\(b=a∨s.heap.objs.size≤b))∧
  s.heap.objs.size≤It/\∃ ms,IntsAre items.toList ms/\ms.Perm ks
def EL (t:SetTable):Nat->Nat
 | 0=>0
 | k+1=>t.place.getD k 0+1
end
def EX (K:PySem.W.Frag):V->List V->Hp->VK->Prop:=fun x vs H Q=>∃ l b xs zs,x=.ref l/\vs=[.ref b]/\H l=some (.lst xs)/\bh K H b zs/\xs.length+zs.length≤1000/\Q .non (ax H l (.lst (xs++zs)))
def ER (K:PySem.W.Frag):List V->Hp->VK->Prop:=fun xs H Q=>∃ p ns,xs=[.ref p]/\(aW K H p (ns.map V.int)∨bh K H p (ns.map V.int))/\ns.length < 64/\∀ (l:Addr) (ms:List Int),ms.Perm ns->ms.Pairwise (·≤·)->H l=none->Q (.ref l) (ax H l (.lst (ms.map V.int)))
section
variable {prog:Program} {w:World} {A:Around} {E:Value->Shared->Prop} {s:Shared}
end
def BO (w:World) (a:Addr) (ks:List Int):HO:=.ext fun h=>Bd w h a ks
def ES (w:World) (K:PySem.W.Frag):List V->Hp->VK->Prop:=fun xs H Q=>∃ p ns,xs=[.ref p]/\(aW K H p (ns.map V.int)∨bh K H p (ns.map V.int))/\ns.length≤1000/\∀ l,H l=none->Q (.ref l) (ax H l (BO w l (lh ns)))
def DD (w:World):List V->Hp->VK->Prop:=fun xs H Q=>∃ p ks,xs=[.ref p]/\H p=some (BO w p ks)/\ks.length < 64/\∀ (l:Addr) (ms:List Int),ms.Perm ks->ms.Pairwise (·≤·)->H l=none->Q (.ref l) (ax H l (.lst (ms.map V.int)))
def Ey (ta:TA):TE:=fun σ H Q=>ta σ H fun vs H1=>∃ i j:Int,vs=[.int i,.int j]/\∀ p,H1 p=none->Q (.ref p) (ax H1 p (.rng i j))
def C6:R2:=fun x y H Q=>∃ (i:Int) (p:Addr) (lo hi:Int),x=.int i/\y=.ref p/\H p=some (.rng lo hi)/\Q (.bl (!(decide (lo≤i) && decide (i < hi)))) H
section
set_option autoImplicit true
set_option relaxedAutoImplicit true
end
def Cw (lo n:Nat):List Nat:=(List.range n).map fun i=>lo+i
def FW:List V->Hp->VK->Prop:=fun xs H Q=>∃ p,∃ lo n:Nat,xs=[.ref p]/\H p=some (.rng (lo:Int) ((lo+n:Nat):Int))/\lo+n≤1000/\∀ l,H l=none->Q (.ref l) (ax H l (.lst ((Cw lo n).map fun i:Nat=>V.int i)))
def EK (te:TE) (i:Nat):TS:=fun D σ H=>te σ H fun x H1=>∃ σ',σ.set i (some x)=σ'/\D.nx σ' H1
theorem AD {h:Heap} {a:Addr} {m m':Str->Option Value} (x:h.Ns a m) (y:h.Ns a m'):m=m':=by
 obtain⟨o,es,ep,e1,e2,_,e3⟩:=x
 obtain⟨o',es',ep',f1,f2,_,f3⟩:=y
 rw [e1] at f1;cases f1
 rw [e2] at f2;cases f2
 funext n
 rw [← e3,← f3]
theorem AW {X:Cx} {pins:List (Addr×Obj)} {σ:L2.St} {H:Hp} {s:Shared} {h':Heap} {t':Nat} {ch:List Addr} (I:Inv X pins σ H s) (hch:∀ b∈ch,e7 X pins H b)
  (k:∀ b o,b≠X.env.locals->b∉ch->s.heap.get? b=some o->h'.get? b=some o) (ns:∃ m,s.heap.Ns X.env.locals m/\h'.Ns X.env.locals m):Inv X pins σ H { s with heap:=h',toks:=t' }:=by
 have nch:∀ b u,H b=some u->b∉ch:=fun b u e z=>by rw [(hch b z).1] at e;cases e
 have nl:∀ b u,H b=some u->b≠X.env.locals:=fun b u e z=>by rw [z,I.free] at e;cases e
 refine I.step (g':=s.gens) (d':=s.drawn) (ch:=ch) (fun b hb=>?_) (fun b o hL _ hc e _=>k b o hL hc e) (fun b o hL _ hc e _=>⟨o.slots,k b o hL hc e⟩) (fun _ _ _ _ n=>n) (fun b o hc e=>?_) (fun _ _ e=>e) (fun _ _ _ e=>e) (fun b ps e=>⟨#[],by rw [e];simp⟩) (fun m hm=>?_) (fun b u e=>?_) I.bare
 ·obtain⟨_,f2,_,f4,f5,f6⟩:=hch b hb
  exact⟨f4,f2,f5,f6⟩
 ·by_cases z:b=X.env.locals
  ·obtain⟨m,_,o',es,ep,ho,_⟩:=ns
   exact⟨o',by rw [z];exact ho⟩
  ·exact⟨o,k b o z hc e⟩
 ·obtain⟨m0,n1,n2⟩:=ns
  rw [AD hm n1]
  exact n2
 ·refine (I.hok b u e).stay (fun c v hc q=>?_) (fun _ q=>q) fun _ _ q=>q
  rcases hc with z | z
  ·exact k c v (by rw [z];exact nl b u e) (by rw [z];exact nch b u e) q
  ·exact k c v (nl c _ z) (nch c _ z) q
section
variable {prog:Program} {w:World} {A:Around} {E:Value->Shared->Prop} {s:Shared}
theorem lv {Q:List Value->Shared->Prop} {r:Addr} {a b c:Int} {t u v:Tok} {n:Nat} (hh:A.handled=none) (hr:IsRange s.heap r a b c t u v) (hs:Builtin.Range.small a b c=true) (hn:Builtin.Range.rangeSize a b c=n) (hl:n≤2 ^ 24)
  (hQ:∀ h' tk acc,(∀ b o,s.heap.get? b=some o->h'.get? b=some o)->ItemsOf (fun i v=>∃ t,v=.int (a+i * c) t) acc n->Q acc.toList { s with heap:=h',toks:=tk }) :
  wpAny (model prog w) A (collect (.ref r)) Q E s:=by
 unfold collect
 refine wpAny_bind (wpAny_runValue (codeAny_builtin F.entry_proto_collect ?_))
 rw [Around.under_plainId F.plain_proto_collect _]
 show wpAny (model prog w) A.in1 (newList [] >>= fun l=>again (.builtin "list.__iadd__" ⟨[l,.ref r],[]⟩)) _ _ s
 refine wpAny_bind (wpAny_newObj_type (wpAny_pure ⟨plainId_quiet F.plain_list_iadd _,codeAny_builtin F.entry_list_iadd ?_⟩))
 rw [Around.under_plainId F.plain_list_iadd _]
 show wpAny (model prog w) A.in1 (Builtin.List.listExtendWith (.ref s.heap.objs.size) (.ref r) (.ref s.heap.objs.size)) _ _ _
 have hS:(s.heap.push { cls:=.type "list", data:=.seq ([]:List Value).toArray }).get? s.heap.objs.size=some { cls:=.type "list", data:=.seq #[] }:=Heap.get?_push_size _ rfl
 refine wpAny_extend_range (R:=fun r s'=>match r with | .ok (.ret v)=>wpAny (model prog w) A (match v with | .ref a=>(do let o ← load a;match o.data with | .seq xs _=>pure xs.toList | _=>unsupported "internal:collect") | _=>unsupported "internal:collect") Q E s' | .ok _=>False | .error e=>E e s') (s:={ s with heap:=s.heap.push { cls:=.type "list", data:=.seq ([]:List Value).toArray } }) hh (Heap.get?_push_of_some _ hr) hs hn hl s.heap.objs.size (.ref s.heap.objs.size) _ hS fun h' tk acc' c' hk hS' hacc=>?_
 show wpAny (model prog w) A (load s.heap.objs.size >>= _) _ _ _
 refine wpAny_bind (wpAny_load hS' (wpAny_pure (hQ h' tk acc' (fun b o e=>hk b o (Nat.ne_of_lt (Heap.lt_size e)) (Heap.get?_push_of_some _ e)) hacc)))
end
section
variable {X:Cx} {pins:List (Addr×Obj)} {σ:L2.St} {H:Hp} {A:Around} {E:Value->Shared->Prop} {a kS:Addr} {vs:List Value} {kz:List Int} {f:Value} {e1:Nat}
theorem wS {s:Shared} {oa ok:Obj} (I:Inv X pins σ H s) (fa:e7 X pins H a) (fk:e7 X pins H kS) (ha:s.heap.get? a=some oa) (hk:s.heap.get? kS=some ok) (ca:∀ v,oa.data≠.cell v) (ck:∀ v,ok.data≠.cell v):Inv X ((a,oa) :: (kS,ok) :: pins) σ H s:=by
 refine I.pins_of fun p hp=>?_
 rcases List.mem_cons.mp hp with rfl | hp
 ·exact⟨ha,fa.1,fa.2.1,fa.2.2.1,ca⟩
 rcases List.mem_cons.mp hp with rfl | hp
 ·exact⟨hk,fk.1,fk.2.1,fk.2.2.1,ck⟩
 ·exact I.pin p (List.mem_append_right _ hp)
theorem pV {s:Shared} {oa ok:Obj} (I:Inv X ((a,oa) :: (kS,ok) :: pins) σ H s):Inv X pins σ H s/\s.heap.get? a=some oa/\s.heap.get? kS=some ok:=by
 refine⟨I.pins_of fun p hp=>I.pin p (List.mem_append_right _ (List.mem_cons_of_mem _ (List.mem_cons_of_mem _ hp))),(I.pin (a,oa) ?_).1,(I.pin (kS,ok) ?_).1⟩
 ·exact List.mem_append_right _ List.mem_cons_self
 ·exact List.mem_append_right _ (List.mem_cons_of_mem _ List.mem_cons_self)
def pQ (X:Cx) (σ:L2.St) (H:Hp) (A:Around) (f:Value) (vs:List Value) (kz:List Int):Prop:=
 ∀ (i:Nat) (v:Value) (k:Int),vs[i]?=some v->kz[i]?=some k->∀ (pins:List (Addr×Obj)) (s:Shared),Inv X pins σ H s→
  wpAny (model X.prog X.w) A (call f [v]) (fun u s2=>(∃ t,u=.int k t)/\Inv X pins σ H s2) (fun _ _=>False) s
theorem uT {s:Shared} {P:Fin->Shared->Prop} (I:Inv X pins σ H s) (fa:e7 X pins H a) (fk:e7 X pins H kS) (hka:kS≠a) (ha:s.heap.get? a=some (seqObj "list" #[] e1)) (hk:s.heap.get? kS=some (seqObj "list" #[] 0))
  (hlen:kz.length=vs.length) (h64:vs.length < 64) (turn:pQ X σ H A f vs kz)
  (h:∀ s' out c,Inv X pins σ H s'->s'.heap.get? a=some (seqObj "list" out c)->KskOut false kz vs out.toList->P (.done (.ret .none)) s') :
  wpAny (model X.prog X.w) A (ksk_rest a f false vs.toArray e1 (.ref kS)) P E s:=by
 unfold ksk_rest
 refine wpAny_bind (wpAny_rule ?_)
 rw [List.forIn_toArray]
 refine wpAny_bind (ksk_fold (fun i s'=>∃ kA e,Inv X pins σ H s'/\s'.heap.get? kS=some (seqObj "list" kA e)/\s'.heap.get? a=some (seqObj "list" #[] e1)/\IntsAre kA.toList (kz.take i)) vs 0 s ⟨#[],0,I,hk,ha,by simpa using IntsAre.nil⟩ ?_ ?_)
 ·rintro j x s' hx ⟨kA,e,I',k',a',hi⟩
  simp only [Nat.zero_add] at hi ⊢
  have hj:j < vs.length:=(List.getElem?_eq_some_iff.mp hx).1
  obtain⟨k,hkj⟩:∃ k,kz[j]?=some k:=⟨_,List.getElem?_eq_getElem (by omega)⟩
  have hz:kA.size≤vs.length:=by
   have:=hi.length
   rw [Array.length_toList,List.length_take] at this
   omega
  refine wpAny_bind (wpAny_attempt (wpAny_mono (turn j x k hx hkj _ s' (wS I' fa fk a' k' (fun v q=>nomatch q) fun v q=>nomatch q)) (fun u s2 he=>?_) fun _ _ hF=>hF.elim))
  obtain⟨⟨t2,rfl⟩,I2⟩:=he
  obtain⟨I3,a3,k3⟩:=pV I2
  obtain⟨c2,hc2⟩:∃ c2,(s2.heap.update kS (Obj.mapSeq (·.push (.int k t2)))).get? kS=some (seqObj "list" (kA.push (.int k t2)) c2):=⟨_,get?_update_seq k3 (·.push (.int k t2))⟩
  have ek:kz.take (j+1)=kz.take j++[k]:=by rw [List.take_add_one,hkj];rfl
  have ea:(kA.push (Value.int k t2)).toList=kA.toList++[.int k t2]:=by simp
  refine wpAny_bind (listUpdate_at k3 rfl (wpAny_pure ⟨rfl,kA.push (.int k t2),c2,?_,hc2,?_,by rw [ek,ea];exact ksk_snoc hi⟩) (by rw [sizeLine_eq];omega) (Nat.le_trans (Nat.le_of_eq (Array.size_push ..)) (by rw [sizeLine_eq];omega)))
  ·exact I3.turned (t':=s2.toks) (it:=kS) (fun b o n q=>(Heap.get?_update_other _ _ (Ne.symm n)).trans q) fk.1 fk.2.1 fk.2.2.2.1 fk.2.2.2.2.1 fk.2.2.2.2.2
  ·exact (Heap.get?_update_other _ _ hka).trans a3
 ·rintro s' ⟨kA,e,I',k',a',hi⟩
  have hi':IntsAre kA.toList kz:=by
   have e3:kz.take (0+vs.length)=kz:=List.take_of_length_le (by omega)
   rw [e3] at hi
   exact hi
  refine wpAny_bind (listItems_at k' rfl ?_)
  obtain⟨m,hm,_⟩:=id I'.loc
  have hmem:∀ p,p∈(im (Att.noObjs s'.heap) s'.heap X.env.locals).filter (fun p=>decide (p.1≠kS/\p.1≠a))↔p.1≠X.env.locals/\s'.heap.get? p.1=some p.2/\p.1≠kS/\p.1≠a:=fun p=>by
   rw [List.mem_filter]
   constructor
   ·rintro⟨x,y⟩
    obtain⟨z1,_,z3⟩:=jx x
    exact⟨z1,z3,of_decide_eq_true y⟩
   ·rintro⟨x,y,z⟩
    exact⟨mL x (Att.noObjs_get _ _) y,decide_eq_true z⟩
  refine ksk_end_ (h₀:=Att.noObjs s'.heap) (L:=X.env.locals) (m:=m) (e:=e) (news:=(im (Att.noObjs s'.heap) s'.heap X.env.locals).filter (fun p=>decide (p.1≠kS/\p.1≠a))) (Att.fr_all hm) (fun p hp=>?_) hka (fun p hp=>((hmem p).mp hp).2.2.1) (fun p hp=>((hmem p).mp hp).2.2.2) hi' hlen h64 fun h3 tk3 out c F3 N3 k3=>?_
  ·rcases List.mem_append.mp hp with hp | hp
   ·obtain⟨z1,z2,_⟩:=(hmem p).mp hp
    exact⟨z2,z1,Att.noObjs_get _ _⟩
   rcases List.mem_cons.mp hp with rfl | hp
   ·exact⟨k',fk.2.1,Att.noObjs_get _ _⟩
   ·rw [List.mem_singleton.mp hp]
    exact⟨a',fa.2.1,Att.noObjs_get _ _⟩
  ·refine h _ out c (AW (ch:=[kS,a]) I' (fun b hb=>?_) (fun b o hL hb e=>?_) ⟨m,hm,F3.ns⟩) (N3.get List.mem_cons_self) k3
   ·rcases List.mem_cons.mp hb with z | z
    ·rw [z];exact fk
    ·rw [List.mem_singleton.mp z];exact fa
   ·refine N3.get (List.mem_cons_of_mem _ ((hmem (b,o)).mpr ⟨hL,e,fun z=>hb (by simp [show b=kS from z]),fun z=>hb (by simp [show b=a from z])⟩))
theorem uS {s:Shared} {n:Nat} {P:Fin->Shared->Prop} (I:Inv X pins σ H s) (fa:e7 X pins H a) (ho:s.heap.get? a=some (seqObj "list" vs.toArray n)) (hlen:kz.length=vs.length) (h64:vs.length < 64) (turn:pQ X σ H A f vs kz)
  (h:∀ s' out c,Inv X pins σ H s'->s'.heap.get? a=some (seqObj "list" out c)->KskOut false kz vs out.toList->P (.done (.ret .none)) s') :
  wpAny (model X.prog X.w) A (ksk_tree a f false) P E s:=by
 obtain⟨e1,ho1⟩:∃ e1,(s.heap.update a (Obj.mapSeq fun _=>(#[]:Array Value))).get? a=some (seqObj "list" #[] e1):=⟨_,get?_update_seq ho fun _=>#[]⟩
 have I1:Inv X pins σ H { s with heap:=s.heap.update a (Obj.mapSeq fun _=>(#[]:Array Value)),toks:=s.toks }:=I.turned (it:=a) (fun b o n q=>(Heap.get?_update_other _ _ (Ne.symm n)).trans q) fa.1 fa.2.1 fa.2.2.2.1 fa.2.2.2.2.1 fa.2.2.2.2.2
 unfold ksk_tree
 refine wpAny_bind (listItems_at ho rfl (wpAny_bind (listUpdate_at ho rfl ?_ (by rw [List.size_toArray,sizeLine_eq];omega) (Nat.zero_le _))))
 refine wpAny_bind (seqEpoch_at ho1 rfl (wpAny_bind (wpAny_newTuple (wpAny_bind (wpAny_newList (wpAny_holding ?_) (Nat.zero_le _))) (by show vs.length≤sizeLine;rw [sizeLine_eq];omega))))
 generalize s.heap.update a (Obj.mapSeq fun _=>(#[]:Array Value))=h1 at ho1 I1 ⊢
 have la:a < h1.objs.size:=Heap.lt_size ho1
 have I2:=I1.kept (t':=s.toks) (h':=(h1.push (seqObj "tuple" vs.toArray 0)).push (seqObj "list" #[] 0)) fun b o e=>Heap.get?_push_of_some _ (Heap.get?_push_of_some _ e)
 have sz:(h1.push (seqObj "tuple" vs.toArray 0)).objs.size=h1.objs.size+1:=Heap.size_push ..
 exact uT (kS:=(h1.push (seqObj "tuple" vs.toArray 0)).objs.size) I2 fa (I1.fpOk (by rw [sz];exact Nat.le_succ _) (I1.hok.fresh (by rw [sz];exact Nat.le_succ _))) (by rw [sz];exact Nat.ne_of_gt (Nat.lt_succ_of_lt la)) (Heap.get?_push_of_some _ (Heap.get?_push_of_some _ ho1)) (Heap.get?_push_size _ rfl) hlen h64 turn h
end
theorem A6 {X:Cx} {pins:List (Addr×Obj)} {σ:L2.St} {H:Hp} {s:Shared} {p:Addr} {v:HO} (I:Inv X pins σ H s) (f:e7 X pins H p) (new:bJ X.prog X.w (ax H p v) s.heap p v):Inv X pins σ (ax H p v) s:=by
 have old:∀ b u,H b=some u->ax H p v b=some u:=fun b u e=>by rw [aD (aB e f.1)];exact e
 refine I.step (h':=s.heap) (t':=s.toks) (g':=s.gens) (d':=s.drawn) (ch:=[p]) (fun b hb=>?_) (fun b o _ _ hc e _=>e) (fun b o _ _ hc e _=>⟨o.slots,e⟩) (fun b o hc e n=>?_)
  (fun b o hc e=>⟨o,e⟩) (fun b xs e=>old b _ e) (fun b o u e=>old b _ e) (fun b ps e=>⟨#[],by rw [old b _ e];simp⟩) (fun m hm=>hm) (fun b u e=>?_) I.bare
 ·rw [List.mem_singleton] at hb
  subst hb
  obtain⟨_,f1,_,f3,f4,f5⟩:=f
  exact⟨f3,f1,f4,f5⟩
 ·rw [aD (fun z=>hc (by simp [z]))];exact n
 ·by_cases hb:b=p
  ·subst hb;rw [ah] at e;cases e;exact new
  ·rw [aD hb] at e
   exact (I.hok b u e).stay (fun c v hc q=>q) (fun c q=>old c _ q) fun c xs q=>old c _ q
theorem uq {α β:Type} {g:α->β}:∀ {ps l2:List β},ps.Perm l2->∀ l:List α,l2=l.map g->∃ ms:List α,ms.Perm l/\ps=ms.map g:=by
 intro ps l2 h
 induction h with
 | nil=>
  intro l e
  cases l with
  | nil=>exact⟨[],.nil,rfl⟩
  | cons a l=>simp at e
 | cons x p ih=>
  intro l e
  cases l with
  | nil=>simp at e
  | cons a l=>
   rw [List.map_cons] at e
   injection e with e1 e2
   obtain⟨ms,h1,h2⟩:=ih l e2
   exact⟨a :: ms,h1.cons a,by rw [List.map_cons,← e1,h2]⟩
 | swap x y t=>
  intro l e
  match l,e with
  | a :: b :: l,e=>
   rw [List.map_cons,List.map_cons] at e
   injection e with e1 e2
   injection e2 with e2 e3
   exact⟨b :: a :: l,.swap a b l,by rw [List.map_cons,List.map_cons,← e1,← e2,← e3]⟩
 | trans p1 p2 ih1 ih2=>
  intro l e
  obtain⟨m2,h1,h2⟩:=ih2 l e
  obtain⟨ms,h3,h4⟩:=ih1 m2 h2
  exact⟨ms,h3.trans h1,h4⟩
def zw (sp:Sp) (key:Nat->Int):List V->Hp->VK->Prop:=fun xs H Q=>∃ (p:Addr) (n:Nat),xs=[.ref p]/\H p=some (.rng 0 n)/\n < 64/\(∀ i < n,∀ (Qk:VK),Qk (.int (key i)) H->sp [.int (i:Nat)] H Qk fun _ _ _=>False)∧
 ∀ (l:Addr) (ms:List Nat),ms.Perm (List.range n)->ms.Pairwise (fun a b=>key a≤key b)->H l=none->Q (.ref l) (ax H l (.lst (ms.map fun i:Nat=>V.int i)))
def Du (sp:Sp) (key:Nat->Int) (t:TA):TE:=fun σ H Q=>t σ H fun vs H1=>zw sp key vs H1 Q
def EU:V->List V->Hp->VK->Prop:=fun x vs H Q=>∃ (l:Addr) (ns:List Nat) (j k:Nat),x=.ref l/\vs=[.int (k:Int)]/\H l=some (.lst (ns.map fun i:Nat=>V.int i))/\ns[j]?=some k/\(∀ m,m < j->ns[m]?≠some k)/\Q .non (ax H l (.lst ((ns.eraseIdx j).map fun i:Nat=>V.int i)))
def GJ (k:Int):Value->Bool
 | .int i _=>i == k
 | _=>false
def GN (X:Cx) (N':List Str) (scope:Scope) (y:Str) (cl:List (Str×Addr)) (C:Addr) (fp:List Addr) (pins:List (Addr×Obj)) (s:Shared) (H:Hp):Cx:=
 { X with N:=N',s₀:=s,H₀:=H,env:=compEnvC scope ((y,C+1) :: cl) C X.env,outer:=X.stack,stack:=X.stack,ex:=fp,fn:=fun z=>z == y,pn:=X.pn++pins,xe:=fun _ _=>False }
structure Eo (X:Cx) (scope:Scope) (y:Str) (cl:List (Str×Addr)):Prop where
 has:∀ x,((compEnvC scope cl 0 X.env).kindOf x=some .cell∨(compEnvC scope cl 0 X.env).kindOf x=some .free)->x=y∨∃ c,cl.lookup x=some c
 up:∀ x c,cl.lookup x=some c->X.env.cells.lookup x=some c
 no:cl.lookup y=none
section
variable {M:Model} {A:Around} {E:Value->Shared->Prop} {s:Shared}
end
section
variable {X:Cx} {N':List Str} {scope:Scope} {y:Str} {cl:List (Str×Addr)} {src:List (Option Nat)} {pins:List (Addr×Obj)} {σ:L2.St} {H:Hp} {s:Shared} {fp:List Addr}
end
section
variable {X:Cx} {N':List Str} {scope:Scope} {y:Str} {cl:List (Str×Addr)} {src:List (Option Nat)} {tg iter elt:Expr} {ifs:List Expr} {wi:TI} {g:TG} {tt:TT} {te:TE} {pos:Pos}
end
section
variable {X:Cx} {N':List Str} {scope:Scope} {y:Str} {cl:List (Str×Addr)} {src:List (Option Nat)} {tg iter elt:Expr} {ifs:List Expr} {wi:TI} {g:TG} {tt:TT} {te:TE} {pos:Pos}
end
structure eX (K:PySem.W.Frag) (n:Str) (st:Stmt) (f:Addr) (d:FuncData):Prop where
 p:PySem.W.nsIn K mainGlobals n=some (some (.ref f))
 F:Fun K n n st f d
section
variable {K:PySem.W.Frag} {n:Str} {st:Stmt} {f:Addr} {d:FuncData}
theorem isF {oc:Value} {od an:Option Addr} {sl:Array (Option Value)} {kV dc pm cd ct:Value} (p:PySem.W.nsIn K mainGlobals n=some (some (.ref f)))
  (l:K.lookup f=some ⟨oc,od,.func (PySem.W.fnOf n n (fg st) (dN st) (ay st) .none kV dc pm an cd ct),sl⟩) (c:PySem.W.codeIn K cd n=true) (k:PySem.W.keepIn K (.ref f)=true) :
  eX K n st f (PySem.W.fnOf n n (fg st) (dN st) (ay st) .none kV dc pm an cd ct):=⟨p,AO l c k⟩
abbrev BA (n:Str) (st:Stmt) (us:List Value) (ps:List Str):Prop:=∀ (kV dc pm:Value) (an:Option Addr) (cd ct:Value),bindArgs (PySem.W.fnOf n n (fg st) (dN st) (ay st) .none kV dc pm an cd ct) ⟨us,[]⟩=pure (ps.zip us)
theorem eX.b1 {x:Str} (I:eX K n st f d) (h:∀ u,BA n st [u] [x]:=by exact fun _ _ _ _ _ _ _=>rfl):ba K d [x] []:=I.F.binds fun a b c e g i us hl=>match us,hl with | [u],_=>h u a b c e g i
theorem eX.b2 {x y:Str} (I:eX K n st f d) (h:∀ u v,BA n st [u,v] [x,y]:=by exact fun _ _ _ _ _ _ _ _=>rfl):ba K d [x,y] []:=I.F.binds fun a b c e g i us hl=>match us,hl with | [u,v],_=>h u v a b c e g i
theorem eX.b3 {x y z:Str} (I:eX K n st f d) (h:∀ u v w,BA n st [u,v,w] [x,y,z]:=by exact fun _ _ _ _ _ _ _ _ _=>rfl):ba K d [x,y,z] []:=I.F.binds fun a b c e g i us hl=>match us,hl with | [u,v,w],_=>h u v w a b c e g i
theorem eX.b4 {x y z t:Str} (I:eX K n st f d) (h:∀ u v w r,BA n st [u,v,w,r] [x,y,z,t]:=by exact fun _ _ _ _ _ _ _ _ _ _=>rfl):ba K d [x,y,z,t] []:=I.F.binds fun a b c e g i us hl=>match us,hl with | [u,v,w,r],_=>h u v w r a b c e g i
end
theorem ag {X:Cx} {st:Stmt} {d7:List Stmt} {t u:TS} (h1:QS X st t) (h2:eg X d7 u):eg X (st :: d7) (let Uq:=u;yP t Uq):=tX h1 h2
theorem AF {h h':Heap} {a:Addr} {ys:Array Value} (x:h.IsList a ys) (k:∀ o,h.get? a=some o->h'.get? a=some o):h'.IsList a ys:=let ⟨o,e,r⟩:=x;⟨o,k o e,r⟩
theorem jz {h:Heap} {i a:Addr} {n:Nat} (x:h.IsListIter i a n):i < h.objs.size:=let ⟨_,e,_⟩:=x;Heap.lt_size e
def CN (K:PySem.W.Frag) (a b:Addr):It:=
 ⟨fun i H=>∃ xs ys x y,aW K H a xs/\bh K H b ys/\xs[i]?=some x/\ys[i]?=some y,
  fun i H v H'=>∃ p x y,H p=none/\v=.ref p/\H'=ax H p (.tup [x,y])/\(∀ xs,aW K H a xs->xs[i]?=some x)/\∀ ys,bh K H b ys->ys[i]?=some y,
  fun i H=>∃ xs ys,aW K H a xs/\bh K H b ys/\(xs.length≤i∨ys.length≤i)⟩
def Fc (z TI TO i1 i2 a b:Addr) (i:Nat) (h:Heap):Prop:=IsZip h z TI TO .none/\IsPair h TI (.ref i1) (.ref i2)/\(∃ u v,IsPair h TO u v)/\h.IsListIter i1 a i/\h.IsTupleIter i2 b i
abbrev Bt (h:Heap) (a:Addr):Heap:=h.push { cls:=.type "list_iterator", data:=.fields #[.ref a,.int 0 0] }
abbrev Br (h:Heap) (a b:Addr):Heap:=(Bt h a).push { cls:=.type "tuple_iterator", data:=.fields #[.ref b,.int 0 0] }
abbrev Bo (h:Heap) (a b:Addr):Heap:=(Br h a b).push { cls:=.type "tuple", data:=.seq #[.ref h.objs.size,.ref (Bt h a).objs.size] }
abbrev Dm (h:Heap) (a b:Addr):Heap:=(Bo h a b).push { cls:=.type "tuple", data:=.seq #[.none,.none] }
abbrev Fq (h:Heap) (a b:Addr):Heap:=(Dm h a b).push { cls:=.type "zip", data:=.fields #[.none,.bool false,.bool false,.ref (Br h a b).objs.size,.ref (Bo h a b).objs.size] }
def DX (K:PySem.W.Frag) (ta:TA):TI:=fun σ H R=>ta σ H fun vs H1=>∃ a b,vs=[.ref a,.ref b]/\(∃ xs,aW K H1 a xs)/\(∃ ys,bh K H1 b ys)/\R (CN K a b) H1
def CO (K:PySem.W.Frag) (a b:Addr):It:=
 ⟨fun i H=>∃ xs ys x y,aW K H a xs/\aW K H b ys/\xs[i]?=some x/\ys[i]?=some y,
  fun i H v H'=>∃ p x y,H p=none/\v=.ref p/\H'=ax H p (.tup [x,y])/\(∀ xs,aW K H a xs->xs[i]?=some x)/\∀ ys,aW K H b ys->ys[i]?=some y,
  fun i H=>∃ xs ys,aW K H a xs/\aW K H b ys/\(xs.length≤i∨ys.length≤i)⟩
def Fd (z TI TO i1 i2 a b:Addr) (i:Nat) (h:Heap):Prop:=IsZip h z TI TO .none/\IsPair h TI (.ref i1) (.ref i2)/\(∃ u v,IsPair h TO u v)/\h.IsListIter i1 a i/\h.IsListIter i2 b i
abbrev Bu (h:Heap) (a:Addr):Heap:=h.push { cls:=.type "list_iterator", data:=.fields #[.ref a,.int 0 0] }
abbrev Bs (h:Heap) (a b:Addr):Heap:=(Bu h a).push { cls:=.type "list_iterator", data:=.fields #[.ref b,.int 0 0] }
abbrev Bp (h:Heap) (a b:Addr):Heap:=(Bs h a b).push { cls:=.type "tuple", data:=.seq #[.ref h.objs.size,.ref (Bu h a).objs.size] }
abbrev Dn (h:Heap) (a b:Addr):Heap:=(Bp h a b).push { cls:=.type "tuple", data:=.seq #[.none,.none] }
abbrev Fs (h:Heap) (a b:Addr):Heap:=(Dn h a b).push { cls:=.type "zip", data:=.fields #[.none,.bool false,.bool false,.ref (Bs h a b).objs.size,.ref (Bp h a b).objs.size] }
def DY (K:PySem.W.Frag) (ta:TA):TI:=fun σ H R=>ta σ H fun vs H1=>∃ a b,vs=[.ref a,.ref b]/\(∃ xs,aW K H1 a xs)/\(∃ ys,aW K H1 b ys)/\R (CO K a b) H1
abbrev dg (h:Heap) (T:Addr) (a b c:Value):Prop:=h.get? T=some { cls:=.type "tuple", data:=.seq #[a,b,c] }
structure Dh (z TI TO i1 i2 i3:Addr):Prop where
 a1:TI≠z
 a2:TO≠z
 a3:i1≠z
 a4:i2≠z
 a0:i3≠z
 a5:TI≠TO
 a6:TI≠i1
 a7:TI≠i2
 c7:TI≠i3
 a8:TO≠i1
 a9:TO≠i2
 c9:TO≠i3
 b1:i1≠i2
 b2:i1≠i3
 b3:i2≠i3
section
variable {prog:Program} {w:World} {A:Around} {E:Value->Shared->Prop} {s:Shared}
theorem eJ {T:Addr} {a b c x:Value} {k:Nat} {Q:Unit->Shared->Prop} (hT:dg s.heap T a b c)
  (h:∀ h',h'.get? T=some { cls:=.type "tuple", data:=.seq ((#[a,b,c]:Array Value).setIfInBounds k x) }->Heap.SameBut T s.heap h'->Q () { s with heap:=h' }) :
  wpAny (model prog w) A (updateSeq T (·.setIfInBounds k x)) Q E s:=by
 refine wpAny_updateSeq hT rfl (h _ ?_ (Heap.SameBut.update ..))
 rw [Heap.get?_update_self _ hT rfl]
 simp [Obj.mapSeq]
theorem pS {z TI TO i1 i2 i3:Addr} {x y v a b c:Value} {A1 A2 A3:Heap->Prop} {G:Value->Shared->Prop} (D:Dh z TI TO i1 i2 i3)
  (hz:IsZip s.heap z TI TO .none) (hI:dg s.heap TI (.ref i1) (.ref i2) (.ref i3)) (hO:dg s.heap TO a b c)
  (N1:∀ (s':Shared) (G:Value->Shared->Prop) (E:Value->Shared->Prop),(∀ c o,c≠z->s.heap.get? c=some o->s'.heap.get? c=some o)->(∀ h',A1 h'->Heap.SameBut i1 s'.heap h'->G x { s' with heap:=h' })->wpAny (model prog w) A (Builtin.SmallTypes.nextOf (.ref i1)) G E s')
  (N2:∀ (s':Shared) (G:Value->Shared->Prop) (E:Value->Shared->Prop),(∀ c o,c≠z->c≠TO->c≠i1->s.heap.get? c=some o->s'.heap.get? c=some o)->(∀ h',A2 h'->Heap.SameBut i2 s'.heap h'->G y { s' with heap:=h' })->wpAny (model prog w) A (Builtin.SmallTypes.nextOf (.ref i2)) G E s')
  (N3:∀ (s':Shared) (G:Value->Shared->Prop) (E:Value->Shared->Prop),(∀ c o,c≠z->c≠TO->c≠i1->c≠i2->s.heap.get? c=some o->s'.heap.get? c=some o)->(∀ h',A3 h'->Heap.SameBut i3 s'.heap h'->G v { s' with heap:=h' })->wpAny (model prog w) A (Builtin.SmallTypes.nextOf (.ref i3)) G E s')
  (l1:i1 < s.heap.objs.size) (l2:i2 < s.heap.objs.size) (l3:i3 < s.heap.objs.size)
  (g:∀ h₁ h₂ h₃ h',A1 h₁->A2 h₂->A3 h₃->(∀ c o,c≠z->c≠TO->c≠i2->c≠i3->h₁.get? c=some o->h'.get? c=some o)->(∀ c o,c≠z->c≠TO->c≠i3->h₂.get? c=some o->h'.get? c=some o)->(∀ c o,c≠z->c≠TO->h₃.get? c=some o->h'.get? c=some o)→
   IsZip h' z TI TO (rawInt s.heap.objs.size)->dg h' TO x y v->dg h' s.heap.objs.size x y v->h'.objs.size=s.heap.objs.size+1→
   (∀ c o,c∉[z,TO,i1,i2,i3]->s.heap.get? c=some o->h'.get? c=some o)->G (.ref s.heap.objs.size) { s with heap:=h' }) :
  wpAny (model prog w) A (Builtin.«zip.__next__» ⟨[.ref z],[]⟩) (fun fin s'=>∃ v,fin=.done (.ret v)/\G v s') E s:=by
 show wpAny (model prog w) _ (field (.ref z) 2 >>= _) _ _ _
 refine wpAny_bind (wpAny_field hz rfl (x:=.bool false) rfl ?_)
 show wpAny (model prog w) _ (field (.ref z) 3 >>= _) _ _ _
 refine wpAny_bind (wpAny_field hz rfl (x:=.ref TI) rfl ?_)
 refine wpAny_bind (wpAny_seqItems hI rfl ?_)
 show wpAny (model prog w) _ (Builtin.SmallTypes.ownedTupleIsFree (.ref z) >>= _) _ _ _
 refine wpAny_bind ?_
 unfold Builtin.SmallTypes.ownedTupleIsFree
 refine wpAny_bind (wpAny_field hz rfl (x:=.none) rfl (wpAny_pure ?_))
 simp only [if_true]
 refine wpAny_bind (wpAny_rule ?_)
 refine wpAny_bind (wpAny_field hz rfl (x:=.ref TO) rfl ?_)
 refine wpAny_bind (wpAny_setField_rec hz (by simp) fun g1 z1 s1=>?_)
 replace z1:IsZip g1 z TI TO .ellipsis:=z1
 refine wpAny_bind ?_
 simp only [List.zipIdx_nil,List.zipIdx_cons,List.forIn_nil,List.forIn_cons]
 refine wpAny_bind (wpAny_bind (wpAny_onRaise ?_))
 show wpAny (model prog w) _ (Builtin.SmallTypes.nextOf (.ref i1) >>= _) _ _ _
 refine wpAny_bind (N1 _ _ _ (fun c o n e=>s1.extBut c o n e) fun g2 q1 s2=>wpAny_pure ?_)
 have O2:dg g2 TO a b c:=s2.extBut _ _ D.a8 (s1.extBut _ _ D.a2 hO)
 refine wpAny_bind (wpAny_seqItems O2 rfl ?_)
 refine wpAny_bind (eJ O2 fun g3 O3 s3=>?_)
 replace O3:dg g3 TO x b c:=O3
 refine wpAny_bind (wpAny_letGo (wpAny_pure ?_))
 refine wpAny_bind (wpAny_bind (wpAny_onRaise ?_))
 show wpAny (model prog w) _ (Builtin.SmallTypes.nextOf (.ref i2) >>= _) _ _ _
 refine wpAny_bind (N2 _ _ _ (fun c o n m k e=>s3.extBut _ _ m (s2.extBut _ _ k (s1.extBut c o n e))) fun g4 q2 s4=>wpAny_pure ?_)
 have O4:dg g4 TO x b c:=s4.extBut _ _ D.a9 O3
 refine wpAny_bind (wpAny_seqItems O4 rfl ?_)
 refine wpAny_bind (eJ O4 fun g5 O5 s5=>?_)
 replace O5:dg g5 TO x y c:=O5
 refine wpAny_bind (wpAny_letGo (wpAny_pure ?_))
 refine wpAny_bind (wpAny_bind (wpAny_onRaise ?_))
 show wpAny (model prog w) _ (Builtin.SmallTypes.nextOf (.ref i3) >>= _) _ _ _
 refine wpAny_bind (N3 _ _ _ (fun c o n m k l e=>s5.extBut _ _ m (s4.extBut _ _ l (s3.extBut _ _ m (s2.extBut _ _ k (s1.extBut c o n e))))) fun g6 q3 s6=>wpAny_pure ?_)
 have O6:dg g6 TO x y c:=s6.extBut _ _ D.c9 O5
 refine wpAny_bind (wpAny_seqItems O6 rfl ?_)
 refine wpAny_bind (eJ O6 fun g9 O9 s9=>?_)
 replace O9:dg g9 TO x y v:=O9
 refine wpAny_bind (wpAny_letGo (wpAny_pure (wpAny_pure ?_)))
 refine wpAny_bind (wpAny_seqItems O9 rfl ?_)
 refine wpAny_bind (wpAny_newTuple ?_)
 have sz:g9.objs.size=s.heap.objs.size:=by rw [s9.1,s6.1,s5.1,s4.1,s3.1,s2.1,s1.1]
 have z5:IsZip g9 z TI TO .ellipsis:=s9.extBut _ _ D.a2.symm (s6.extBut _ _ D.a0.symm (s5.extBut _ _ D.a2.symm (s4.extBut _ _ D.a4.symm (s3.extBut _ _ D.a2.symm (s2.extBut _ _ D.a3.symm z1)))))
 have zl:z < g9.objs.size:=Heap.lt_size z5
 show wpAny (model prog w) _ (Builtin.SmallTypes.ownedTupleHandOut (.ref z) (.ref g9.objs.size) >>= _) _ _ _
 refine wpAny_bind ?_
 unfold Builtin.SmallTypes.ownedTupleHandOut
 have z6:IsZip (g9.push { cls:=.type "tuple", data:=.seq #[x,y,v] }) z TI TO .ellipsis:=Heap.get?_push_of_some _ z5
 refine wpAny_bind (wpAny_setField_rec z6 (by simp) fun g7 z7 s7=>?_)
 replace z7:IsZip g7 z TI TO (rawInt g9.objs.size):=z7
 refine wpAny_setField_rec z7 (by simp) fun g8 z8 s8=>?_
 replace z8:IsZip g8 z TI TO (rawInt g9.objs.size):=z8
 have up:∀ c o,c≠z->g9.get? c=some o->g8.get? c=some o:=fun c o n e=>s8.extBut _ _ n (s7.extBut _ _ n (Heap.get?_push_of_some _ e))
 have t8:dg g8 g9.objs.size x y v:=s8.extBut _ _ (Nat.ne_of_gt zl) (s7.extBut _ _ (Nat.ne_of_gt zl) (Heap.get?_push_size _ rfl))
 have sz8:g8.objs.size=g9.objs.size+1:=by rw [s8.1,s7.1,Heap.size_push]
 rw [sz] at z8 t8 sz8
 refine wpAny_pure ⟨_,rfl,?_⟩
 show G (.ref g9.objs.size) _
 rw [sz]
 refine g g2 g4 g6 g8 q1 q2 q3 (fun c o n m k l e=>up c o n (s9.extBut _ _ m (s6.extBut _ _ l (s5.extBut _ _ m (s4.extBut _ _ k (s3.extBut _ _ m e)))))) (fun c o n m l e=>up c o n (s9.extBut _ _ m (s6.extBut _ _ l (s5.extBut _ _ m e)))) (fun c o n m e=>up c o n (s9.extBut _ _ m e)) z8 (up _ _ D.a2 O9) t8 sz8 fun c o n e=>?_
 simp only [List.mem_cons,List.not_mem_nil,or_false,not_or] at n
 exact up c o n.1 (s9.extBut _ _ n.2.1 (s6.extBut _ _ n.2.2.2.2 (s5.extBut _ _ n.2.1 (s4.extBut _ _ n.2.2.2.1 (s3.extBut _ _ n.2.1 (s2.extBut _ _ n.2.2.1 (s1.extBut _ _ n.1 e)))))))
theorem pR {z TI TO i1 i2 i3:Addr} {a b c:Value} {G:Fin->Shared->Prop} (D:Dh z TI TO i1 i2 i3)
  (hz:IsZip s.heap z TI TO .none) (hI:dg s.heap TI (.ref i1) (.ref i2) (.ref i3)) (hO:dg s.heap TO a b c)
  (N:∀ (s':Shared) (G:Value->Shared->Prop) (E:Value->Shared->Prop),(∀ c o,c≠z->s.heap.get? c=some o->s'.heap.get? c=some o)→
    (∀ h' e,Heap.ExtBut i1 s'.heap h'->(∃ o,h'.get? e=some o/\o.cls=.type "StopIteration")->E (.ref e) { s' with heap:=h' })->wpAny (model prog w) A (Builtin.SmallTypes.nextOf (.ref i1)) G E s')
  (g:∀ h' e,(∀ c o,c∉[z,TO,i1,i2,i3]->s.heap.get? c=some o->h'.get? c=some o)->(∃ o,h'.get? e=some o/\o.cls=.type "StopIteration")->E (.ref e) { s with heap:=h' }) :
  wpAny (model prog w) A (Builtin.«zip.__next__» ⟨[.ref z],[]⟩) G E s:=by
 show wpAny (model prog w) _ (field (.ref z) 2 >>= _) _ _ _
 refine wpAny_bind (wpAny_field hz rfl (x:=.bool false) rfl ?_)
 show wpAny (model prog w) _ (field (.ref z) 3 >>= _) _ _ _
 refine wpAny_bind (wpAny_field hz rfl (x:=.ref TI) rfl ?_)
 refine wpAny_bind (wpAny_seqItems hI rfl ?_)
 show wpAny (model prog w) _ (Builtin.SmallTypes.ownedTupleIsFree (.ref z) >>= _) _ _ _
 refine wpAny_bind ?_
 unfold Builtin.SmallTypes.ownedTupleIsFree
 refine wpAny_bind (wpAny_field hz rfl (x:=.none) rfl (wpAny_pure ?_))
 simp only [if_true]
 refine wpAny_bind (wpAny_rule ?_)
 refine wpAny_bind (wpAny_field hz rfl (x:=.ref TO) rfl ?_)
 refine wpAny_bind (wpAny_setField_rec hz (by simp) fun g1 z1 s1=>?_)
 replace z1:IsZip g1 z TI TO .ellipsis:=z1
 refine wpAny_bind ?_
 simp only [List.zipIdx_nil,List.zipIdx_cons,List.forIn_nil,List.forIn_cons]
 refine wpAny_bind (wpAny_bind (wpAny_onRaise ?_))
 show wpAny (model prog w) _ (Builtin.SmallTypes.nextOf (.ref i1) >>= _) _ _ _
 refine wpAny_bind (N _ _ _ (fun c o n e=>s1.extBut c o n e) fun g2 e s2 he=>?_)
 obtain⟨oe,he,hc⟩:=he
 have z2:IsZip g2 z TI TO .ellipsis:=s2 _ _ D.a3.symm z1
 have ne:e≠z:=fun q=>by subst q;rw [z2] at he;cases he;simp at hc
 refine wpAny_setField_rec z2 (by simp) fun g3 _ s3=>g g3 e (fun c o n q=>?_) ⟨oe,s3.extBut _ _ ne he,hc⟩
 simp only [List.mem_cons,List.not_mem_nil,or_false,not_or] at n
 exact s3.extBut _ _ n.1 (s2 _ _ n.2.2.1 (s1.extBut _ _ n.1 q))
end
def vH (K:PySem.W.Frag) (a b c:Addr):It:=
 ⟨fun i H=>∃ xs ys zs x y z,bh K H a xs/\bh K H b ys/\aW K H c zs/\xs[i]?=some x/\ys[i]?=some y/\zs[i]?=some z,
  fun i H v H'=>∃ p x y z,H p=none/\v=.ref p/\H'=ax H p (.tup [x,y,z])/\(∀ xs,bh K H a xs->xs[i]?=some x)/\(∀ ys,bh K H b ys->ys[i]?=some y)/\∀ zs,aW K H c zs->zs[i]?=some z,
  fun i H=>∃ xs,bh K H a xs/\xs.length≤i⟩
def D8 (z TI TO i1 i2 i3 a b c:Addr) (i:Nat) (h:Heap):Prop:=IsZip h z TI TO .none/\dg h TI (.ref i1) (.ref i2) (.ref i3)/\(∃ u v w,dg h TO u v w)/\h.IsTupleIter i1 a i/\h.IsTupleIter i2 b i/\h.IsListIter i3 c i
theorem pW {P:Program} {w:World} {K:PySem.W.Frag} {elts:List Expr} {x1} {pos:Pos} {z TI TO i1 i2 i3 a b c:Addr} (D:Dh z TI TO i1 i2 i3) :
  oq P w K (.Tuple elts x1 pos) (vH K a b c) [z,TI,TO,i1,i2,i3] z (D8 z TI TO i1 i2 i3 a b c) where
 mem:=by simp
 obj:=fun i h st c hc=>by
  obtain⟨h1,h2,⟨u,v,w,h3⟩,⟨o4,h4,c4,d4⟩,⟨o5,h5,c5,d5⟩,⟨o6,h6,c6,d6⟩⟩:=st
  simp only [List.mem_cons,List.not_mem_nil,or_false] at hc
  rcases hc with rfl | rfl | rfl | rfl | rfl | rfl
  ·exact⟨_,h1,fun v q=>by cases (show Data.fields _=Data.cell v from q)⟩
  ·exact⟨_,h2,fun v q=>by cases (show Data.seq _ _=Data.cell v from q)⟩
  ·exact⟨_,h3,fun v q=>by cases (show Data.seq _ _=Data.cell v from q)⟩
  ·exact⟨o4,h4,fun v q=>by rw [d4] at q;cases q⟩
  ·exact⟨o5,h5,fun v q=>by rw [d5] at q;cases q⟩
  ·exact⟨o6,h6,fun v q=>by rw [d6] at q;cases q⟩
 keep:=fun i h h' st k=>by
  obtain⟨h1,h2,⟨u,v,w,h3⟩,h4,h5,h6⟩:=st
  exact⟨k z (by simp) _ h1,k TI (by simp) _ h2,⟨u,v,w,k TO (by simp) _ h3⟩,bi h4 fun o e=>k i1 (by simp) o e,bi h5 fun o e=>k i2 (by simp) o e,gP h6 fun o e=>k i3 (by simp) o e⟩
 item:=by
  intro X hP hw hK hc i pins s σ H E I hf st hg
  subst hP hw hK
  obtain⟨xs,ys,zs,x,y,vz,q1,q2,q3,hx,hy,hzz⟩:=hg
  obtain⟨its,rv,p1,z1⟩:=I.tuple q1
  obtain⟨jts,rw',p2,z2⟩:=I.tuple q2
  obtain⟨kts,rw3,p3,z3'⟩:=I.list q3
  obtain⟨u,hu,ru⟩:=rv.get hx
  obtain⟨v,hv,rv2⟩:=rw'.get hy
  obtain⟨t,ht,rt⟩:=rw3.get hzz
  have off1:∀ d∈[z,TI,TO,i1,i2,i3],a≠d:=fun d hc=>fD I q1 (hf d hc)
  have off2:∀ d∈[z,TI,TO,i1,i2,i3],b≠d:=fun d hc=>fD I q2 (hf d hc)
  have off3:∀ d∈[z,TI,TO,i1,i2,i3],c≠d:=fun d hc=>vY I q3 (hf d hc)
  obtain⟨h1,h2,⟨o1,o2,o3,h3⟩,h4,h5,h6⟩:=st
  have hT:s.TypeIs (.ref z) "zip" := ⟨_,h1,rfl⟩
  unfold pyNext
  refine wpAny_bind (wpAny_attempt (wpAny_callSpecial?_slot (name:=Str.ofString "__next__") hT F.slot_zip_next
   (wpAny_call_entry F.slot_zip_next hT F.entry_zip_next ?_ (F.args_zip_next_1 _))))
  refine pS (x:=u) (y:=v) (v:=t) (A1:=fun h=>h.IsTupleIter i1 a (i+1)) (A2:=fun h=>h.IsTupleIter i2 b (i+1)) (A3:=fun h=>h.IsListIter i3 c (i+1)) D h1 h2 h3 ?_ ?_ ?_ (cQ h4) (cQ h5) (jz h6) ?_
  ·intro s' G E' k g
   exact ib (bi h4 fun o e=>k _ o D.a3 e) (fS (show s.heap.IsTuple a its.toArray from p1) fun o e=>k _ o (off1 z (by simp)) e) (by simpa using hu) g
  ·intro s' G E' k g
   exact ib (bi h5 fun o e=>k _ o D.a4 (Ne.symm D.a9) (Ne.symm D.b1) e) (fS (show s.heap.IsTuple b jts.toArray from p2) fun o e=>k _ o (off2 z (by simp)) (off2 TO (by simp)) (off2 i1 (by simp)) e) (by simpa using hv) g
  ·intro s' G E' k g
   exact wpAny_nextOf_list_item (gP h6 fun o e=>k _ o D.a0 (Ne.symm D.c9) (Ne.symm D.b2) (Ne.symm D.b3) e) (AF (show s.heap.IsList c kts.toArray from p3.isList) fun o e=>k _ o (off3 z (by simp)) (off3 TO (by simp)) (off3 i1 (by simp)) (off3 i2 (by simp)) e) (by simpa using ht) g
  ·intro g1 g2 g3 h' a1 a2 a3 k1 k2 k3 zz po pn sz kk
   refine wpAny_pure ⟨_,rfl,?_⟩
   refine wpAny_letOwnedTupleGo_zip zz fun h'' z3 sb=>?_
   have nz:s.heap.objs.size≠z:=Nat.ne_of_gt (Heap.lt_size h1)
   have hp:H s.heap.objs.size=none:=I.fresh
   have P:bJ X.prog X.w (ax H s.heap.objs.size (.tup [x,y,vz])) h'' s.heap.objs.size (.tup [x,y,vz]):=
    ⟨by show 3≤sizeLine;decide,[u,v,t],.cons ru (.cons rv2 (.cons rt .nil)),⟨_,sb.extBut _ _ nz pn,rfl,_,rfl⟩⟩
   have I2:Inv X pins σ (ax H s.heap.objs.size (.tup [x,y,vz])) { s with heap:=h'',toks:=s.toks }:=ky I (fun c o n e=>by
    have n':c∉[z,TO,i1,i2,i3]:=fun q=>n (by
     simp only [List.mem_cons,List.not_mem_nil,or_false] at q ⊢
     rcases q with q | q | q | q | q <;> simp [q])
    exact sb.extBut _ _ (fun q=>n (by simp [q])) (kk c o n' e)) hf (Nat.le_refl _) P
   refine⟨.ref s.heap.objs.size,_,I2,rfl,⟨_,x,y,vz,hp,rfl,rfl,fun zs hz=>by rw [I.tuple_inj hz q1];exact hx,fun zs hz=>by rw [I.tuple_inj hz q2];exact hy,fun zs hz=>by rw [I.list_inj hz q3];exact hzz⟩,⟨z3,?_,⟨u,v,t,?_⟩,?_,?_,?_⟩,fun c hc=>?_⟩
   ·refine sb.extBut _ _ D.a1 (kk TI _ ?_ h2)
    simp only [List.mem_cons,List.not_mem_nil,or_false,not_or]
    exact⟨D.a1,D.a5,D.a6,D.a7,D.c7⟩
   ·exact sb.extBut _ _ D.a2 po
   ·exact bi a1 fun o e=>sb.extBut _ _ D.a3 (k1 _ o D.a3 (Ne.symm D.a8) D.b1 D.b2 e)
   ·exact bi a2 fun o e=>sb.extBut _ _ D.a4 (k2 _ o D.a4 (Ne.symm D.a9) D.b3 e)
   ·exact gP a3 fun o e=>sb.extBut _ _ D.a0 (k3 _ o D.a0 (Ne.symm D.c9) e)
   ·have lt:c < s.heap.objs.size:=by
     simp only [List.mem_cons,List.not_mem_nil,or_false] at hc
     rcases hc with rfl | rfl | rfl | rfl | rfl | rfl
     ·exact Heap.lt_size h1
     ·exact Heap.lt_size h2
     ·exact Heap.lt_size h3
     ·exact cQ h4
     ·exact cQ h5
     ·exact jz h6
    rw [aD (Nat.ne_of_lt lt)]
    exact (hf c hc).1
 done:=by
  intro X hP hw hK hc i pins s σ H E I hf st hg
  subst hP hw hK
  obtain⟨xs,q1,hd⟩:=hg
  obtain⟨its,rv,p1,z1⟩:=I.tuple q1
  have l1:=rv.length
  have off1:∀ d∈[z,TI,TO,i1,i2,i3],a≠d:=fun d hc=>fD I q1 (hf d hc)
  obtain⟨h1,h2,⟨o1,o2,o3,h3⟩,h4,h5,h6⟩:=st
  have hT:s.TypeIs (.ref z) "zip" := ⟨_,h1,rfl⟩
  have hh:X.A.in1.handled=none:=I.ok.hd hc
  unfold pyNext
  refine wpAny_bind (wpAny_attempt (wpAny_callSpecial?_slot (name:=Str.ofString "__next__") hT F.slot_zip_next
   (wpAny_call_entry F.slot_zip_next hT F.entry_zip_next ?_ (F.args_zip_next_1 _))))
  refine pR D h1 h2 h3 (fun s' G E' k g=>?_) fun h' e kk he=>?_
  ·exact nS hh (bi h4 fun o e=>k _ o D.a3 e) (fS (show s.heap.IsTuple a its.toArray from p1) fun o e=>k _ o (off1 z (by simp)) e) (by rw [Array.getElem?_eq_none_iff];simp;omega) g
  ·obtain⟨o,ho,hc'⟩:=he
   refine wpAny_bind (wpAny_isInstance (T := "StopIteration") (b:=true) ⟨o,ho,hc'⟩ isSubtype_stop ?_)
   refine wpAny_pure ⟨rfl,?_⟩
   exact kB (t':=s.toks) I (fun c o n e=>kk c o (fun q=>n (by
     simp only [List.mem_cons,List.not_mem_nil,or_false] at q ⊢
     rcases q with q | q | q | q | q <;> simp [q])) e) hf
 self:=fun _ _ _ _ _ st h=>wpAny_pyIter_zip st.1 h
abbrev zL (h:Heap) (a:Addr):Heap:=h.push { cls:=.type "list_iterator", data:=.fields #[.ref a,.int 0 0] }
abbrev yB (h:Heap) (a b c:Addr):Heap:=zL (zA (zA h a) b) c
abbrev yC (h:Heap) (a b c:Addr):Heap:=(yB h a b c).push { cls:=.type "tuple", data:=.seq #[.ref h.objs.size,.ref (zA h a).objs.size,.ref (zB h a b).objs.size] }
abbrev yD (h:Heap) (a b c:Addr):Heap:=(yC h a b c).push { cls:=.type "tuple", data:=.seq #[.none,.none,.none] }
abbrev yE (h:Heap) (a b c:Addr):Heap:=(yD h a b c).push { cls:=.type "zip", data:=.fields #[.none,.bool false,.bool false,.ref (yB h a b c).objs.size,.ref (yC h a b c).objs.size] }
theorem rh (a b c:Addr) (xs ys zs:Array Value):Meets (Builtin.«zip.__new__» ⟨[.type "zip", .ref a,.ref b,.ref c],[]⟩) (fun _ R s=>s.heap.IsTuple a xs/\s.heap.IsTuple b ys/\s.heap.IsList c zs∧
  R (.ok (.ret (.ref (yD s.heap a b c).objs.size))) { s with heap:=yE s.heap a b c }):=
 .of_wp fun prog w A R s h=>by
  obtain⟨hp,g,d,tk,os⟩:=s;obtain⟨l1,l2,l3,h⟩:=h
  have zsub:=sub_zip
  have L1:Heap.IsTuple (Shared.heap ⟨hp,g,d,tk,os⟩) a xs:=l1
  have L2:Heap.IsTuple (Shared.heap ⟨hp.push { cls:=.type "tuple_iterator", data:=.fields #[.ref a,.int 0 0] },g,d,tk,os⟩) b ys:=Heap.IsTuple.push l2 _
  have L3:Heap.IsList (Shared.heap ⟨zB hp a b,g,d,tk,os⟩) c zs:=Heap.IsList.push (Heap.IsList.push l3 _) _
  wp_walk using wpAny_pyIter_tuple L1,wpAny_pyIter_tuple L2,wpAny_pyIter_list L3
  exact⟨_,rfl,h⟩
theorem je (a b c:Value):checkTypeCall "zip" ⟨[a,b,c],[]⟩=pure ():=by kernel_rfl
theorem jQ (a b c:Value):checkBuiltinCall "zip.__new__" ⟨[.type "zip", a,b,c],[]⟩=pure ():=by kernel_rfl
theorem n5 (a b c d:Value):argsOk "object.__init__" ⟨[a,b,c,d],[]⟩:=by
 unfold argsOk;rw [signature?_of (id := "object.__init__") (n:=['_','_','t','i','n','i','_','_']) (o:=['t','c','e','j','b','o']) (by kernel_rfl) F.owner_object];kernel_rfl
theorem Bv {a b c:V} {us:List Value} (r:bg [a,b,c] us):∃ u v t,us=[u,v,t]/\aY a u/\aY b v/\aY c t:=by
 cases r with
 | cons r1 r=>cases r with
  | cons r2 r=>cases r with
   | cons r3 r=>cases r;exact⟨_,_,_,rfl,r1,r2,r3⟩
theorem we (n:Nat):Dh (n+5) (n+3) (n+4) n (n+1) (n+2):=by constructor <;> (intro q;have:(_:Nat)=_:=q;omega)
def yi (K:PySem.W.Frag) (ta:TA):TI:=fun σ H R=>ta σ H fun vs H1=>∃ a b c,vs=[.ref a,.ref b,.ref c]/\(∃ xs,bh K H1 a xs)/\(∃ ys,bh K H1 b ys)/\(∃ zs,aW K H1 c zs)/\R (vH K a b c) H1
theorem wT {X:Cx} {elts:List Expr} {x1} {tp p pos:Pos} {a b c:Expr} {ta:TA} (hg:Gl X "zip") (hm:X.mg "zip" = none) (ha:PA X [a,b,c] ta) (hs:starEach [a,b,c] X.env=[(false,eval a X.env),(false,eval b X.env),(false,eval c X.env)]:=by rfl) (hs2:starEach [b,c] X.env=[(false,eval b X.env),(false,eval c X.env)]:=by rfl) :
  PI X (.Tuple elts x1 tp) (.Call (.Name "zip" p) [a,b,c] [] pos) (yi X.K ta):=by
 intro pins s σ H R I h
 refine Call_ (fZ I hg hm (show bootBuiltins "zip" = some (.type "zip") by kernel_rfl) (PyProof.Rows.callWith_type1 (cb (ha pos pins s σ H _ I h) fun us s1 ⟨vs,H1,I1,r1,q1⟩=>?_) (by rw [hs,hs2]) (by rw [hs2];rfl)))
 obtain⟨a,b,c,e,⟨xs,hx⟩,⟨ys,hy⟩,⟨zs,hz⟩,q⟩:=q1
 subst e
 obtain⟨u,v,t,rfl,ru,rv,rt⟩:=Bv r1
 cases ru;cases rv;cases rt
 obtain⟨its,_,p1,_⟩:=I1.tuple hx
 obtain⟨jts,_,p2,_⟩:=I1.tuple hy
 obtain⟨kts,_,p3,_⟩:=I1.list hz
 refine callType_new F.called_zip (by decide) (je _ _ _) (jQ _ _ _) (fun obj=>n5 obj _ _ _) F.entry_zip_new (rh a b c its.toArray jts.toArray kts.toArray) ⟨p1,p2,p3.isList,?_⟩
 have e1:(zA s1.heap a).objs.size=s1.heap.objs.size+1:=Heap.size_push ..
 have e2:(zB s1.heap a b).objs.size=s1.heap.objs.size+2:=by rw [Heap.size_push,e1]
 have e2':(yB s1.heap a b c).objs.size=s1.heap.objs.size+3:=by rw [Heap.size_push,e2]
 have e3:(yC s1.heap a b c).objs.size=s1.heap.objs.size+4:=by rw [Heap.size_push,e2']
 have e4:(yD s1.heap a b c).objs.size=s1.heap.objs.size+5:=by rw [Heap.size_push,e3]
 have g5:(yE s1.heap a b c).get? (yD s1.heap a b c).objs.size=some _:=Heap.get?_push_size _ rfl
 have g4:(yE s1.heap a b c).get? (yC s1.heap a b c).objs.size=some _:=Heap.get?_push_of_some _ (Heap.get?_push_size _ rfl)
 have g3:(yE s1.heap a b c).get? (yB s1.heap a b c).objs.size=some _:=Heap.get?_push_of_some _ (Heap.get?_push_of_some _ (Heap.get?_push_size _ rfl))
 have g0:(yE s1.heap a b c).get? (zB s1.heap a b).objs.size=some _:=Heap.get?_push_of_some _ (Heap.get?_push_of_some _ (Heap.get?_push_of_some _ (Heap.get?_push_size _ rfl)))
 have g2:(yE s1.heap a b c).get? (zA s1.heap a).objs.size=some _:=Heap.get?_push_of_some _ (Heap.get?_push_of_some _ (Heap.get?_push_of_some _ (Heap.get?_push_of_some _ (Heap.get?_push_size _ rfl))))
 have g1:(yE s1.heap a b c).get? s1.heap.objs.size=some _:=Heap.get?_push_of_some _ (Heap.get?_push_of_some _ (Heap.get?_push_of_some _ (Heap.get?_push_of_some _ (Heap.get?_push_of_some _ (Heap.get?_push_size _ rfl)))))
 have kk:∀ d o,s1.heap.get? d=some o->(yE s1.heap a b c).get? d=some o:=fun d o x=>Heap.get?_push_of_some _ (Heap.get?_push_of_some _ (Heap.get?_push_of_some _ (Heap.get?_push_of_some _ (Heap.get?_push_of_some _ (Heap.get?_push_of_some _ x)))))
 show _/\_
 rw [e2',e3,e4] at g5
 rw [e1,e2,e2'] at g3
 rw [e3] at g4
 rw [e1] at g2
 rw [e2] at g0
 rw [e4]
 generalize yE s1.heap a b c=hE at g0 g1 g2 g3 g4 g5 kk
 refine⟨⟨_,g5,rfl⟩,wpAny_pyIter_zip g5 ?_⟩
 have I2:Inv X pins σ H1 { s1 with heap:=hE }:=I1.kept (t':=s1.toks) kk
 refine⟨_,_,_,_,H1,rfl,I2,pW (we s1.heap.objs.size),⟨g5,g3,⟨_,_,_,g4⟩,⟨_,g1,rfl,rfl⟩,⟨_,g2,rfl,rfl⟩,⟨_,g0,rfl,rfl⟩⟩,fun d hc=>?_,q⟩
 have le:s1.heap.objs.size≤d:=by
  simp only [List.mem_cons,List.not_mem_nil,or_false] at hc
  rcases hc with h | h | h | h | h | h <;> (rw [h];first | exact Nat.le_refl _ | exact Nat.le_add_right _ _)
 exact I1.fpOk le (I1.hok.fresh le)
section
variable {X:Cx} {pos:Pos}
def BZ (K:PySem.W.Frag):V->V->Hp->VK->Prop:=fun x y H Q=>∃ (p:Addr) (xs:List V) (i:Nat) (v:V),x=.ref p/\y=.int (i:Nat)/\aW K H p xs/\xs[i]?=some v/\Q v H
theorem qM:Ba X (BZ X.K):=by
 intro pins s σ H o i ov iv Q I ro ri h
 obtain⟨p,xs,n,v,rfl,rfl,hq,he,q⟩:=h
 cases ro
 obtain⟨t,rfl⟩:=ri
 obtain⟨its,r,pl,hz⟩:=I.list hq
 obtain⟨w,ew,rw'⟩:=r.get he
 have hl:=r.length
 have hn:=jA
 have hi:=(List.getElem?_eq_some_iff.mp he).1
 exact wpAny_getItem_list pl.isList (by omega) (by omega) (by simpa using ew) ⟨v,H,I,rw',q⟩
theorem wD {o i e:Expr} {to ti te:TE} {tget:V->V->Hp->VK->Prop} {tip:yJ} {tset:ou} {op:Operator} {tpos:Pos} (ho:QE X o to) (hi:QE X i ti) (hg:Ba X tget) (he:QE X e te) (hp:CJ X op tip) (hs:vF X tset)
  (ha:∀ ov iv new,augStore i ov iv new=(do holding [new,ov,iv] (setItem ov iv new);release [new,ov,iv] [];pure .next):=by intros;rfl):QS X (.AugAssign (.Subscript o i tpos) op e pos) (xY to ti te tget tip tset):=⟨wP ho.p hi.p hg he.p hp hs ha⟩
theorem wE {elts:List Expr} {x1} {tp p:Pos} {a b c:Expr} {ta:TA} (hg:Gl X "zip") (hm:X.mg "zip" = none) (ha:QA X [a,b,c] ta) (hs:starEach [a,b,c] X.env=[(false,eval a X.env),(false,eval b X.env),(false,eval c X.env)]:=by rfl) (hs2:starEach [b,c] X.env=[(false,eval b X.env),(false,eval c X.env)]:=by rfl) :
  QI X (.Tuple elts x1 tp) (.Call (.Name "zip" p) [a,b,c] [] pos) (yi X.K ta):=⟨wT hg hm ha.p hs hs2⟩
end
theorem u9 {K:PySem.W.Frag} {a b c:Addr} {xs ys zs:List V} {n:Nat} {g:TG} {tb:TS} {D:iq} {σ:L2.St} {H:Hp} (Pv:Nat->L2.St->Hp->Prop) (h1:xs.length=n) (h2:ys.length=n) (h3:zs.length=n) (h0:Pv 0 σ H)
  (hl:∀ i σ H,i≤n->Pv i σ H->bh K H a xs/\bh K H b ys/\aW K H c zs)
  (hs:∀ i x y z p σ H,i < n->xs[i]?=some x->ys[i]?=some y->zs[i]?=some z->Pv i σ H->H p=none->g (.ref p) σ (ax H p (.tup [x,y,z])) fun σ2 H2=>tb { D with nx:=Pv (i+1),ct:=Pv (i+1),bk:=D.nx } σ2 H2) (hd:∀ σ H,Pv n σ H->D.nx σ H) :
  ∃ W:Nat->Nat->L2.St->Hp->Prop,(∃ m,W 0 m σ H)/\∀ i m σ H,W i m σ H→
   ((vH K a b c).stop i H/\D.nx σ H)∨((vH K a b c).go i H/\∃ N:L2.St->Hp->Prop,(∀ σ' H',N σ' H'->∃ m',m' < m/\W (i+1) m' σ' H')/\∀ x H',(vH K a b c).yld i H x H'->g x σ H' fun σ2 H2=>tb { D with nx:=N,ct:=N,bk:=D.nx } σ2 H2):=by
 refine⟨fun i m σ H=>m=n - i/\i≤n/\Pv i σ H,⟨n,by simp,Nat.zero_le _,h0⟩,?_⟩
 rintro i m σ H ⟨rfl,hi,p⟩
 obtain⟨s1,s2,s3⟩:=hl i σ H hi p
 by_cases e:i=n
 ·subst e
  exact .inl ⟨⟨xs,s1,by omega⟩,hd σ H p⟩
 ·have hlt:i < n:=by omega
  have ex:xs[i]?=some (xs[i]'(by omega)):=List.getElem?_eq_getElem _
  have ey:ys[i]?=some (ys[i]'(by omega)):=List.getElem?_eq_getElem _
  have ez:zs[i]?=some (zs[i]'(by omega)):=List.getElem?_eq_getElem _
  refine .inr ⟨⟨xs,ys,zs,_,_,_,s1,s2,s3,ex,ey,ez⟩,Pv (i+1),fun σ' H' q=>⟨n - (i+1),by omega,rfl,by omega,q⟩,fun x H' hy=>?_⟩
  obtain⟨q,x',y',z',hq,rfl,rfl,hx,hy,hz⟩:=hy
  exact hs i x' y' z' q σ H hlt (hx _ s1) (hy _ s2) (hz _ s3) p hq
section
variable {prog:Program} {w:World} {A:Around} {E:Value->Shared->Prop}
end
section
variable {prog:Program} {w:World} {A:Around} {E:Value->Shared->Prop} {s:Shared}
end
structure CG (K:PySem.W.Frag) (H:Hp) (ys:List V) (kvs:List (List cV×V)):Prop where
 len:ys.length=kvs.length
 row:∀ (i:Nat) (kv:List cV×V),kvs[i]?=some kv->∃ r b,ys[i]?=some (.ref r)/\bh K H r [.ref b,kv.2]/\H b=some (.tup (kv.1.map kV))
 nd:(kvs.map (·.1)).Nodup
def DL (K:PySem.W.Frag):List V->Hp->VK->Prop:=fun vs H Q=>∃ (p:Addr) (ob:Obj) (ys:List V) (kvs:List (List cV×V)),vs=[.ref p]/\H p=some (.frz ob (.tup ys))/\ob.dict=none/\CG K H ys kvs/\∀ l,H l=none->Q (.ref l) (ax H l (.dT kvs))
def EQ (K:PySem.W.Frag):List V->Hp->VK->Prop:=fun vs H Q=>∃ (p:Addr) (ys:List V),vs=[.ref p]/\aW K H p ys/\∀ (l:Addr) (ob:Obj),H l=none->ob.dict=none->Q (.ref l) (ax H l (.frz ob (.tup ys)))
section
variable {X:Cx} {K:PySem.W.Frag}
end
def GH (x y:Int×Int):Bool:=decide (x.1 < y.1) || (decide (x.1=y.1) && decide (x.2 < y.2))
def GK (x y:Int×Int):Bool:=decide (x.1 > y.1) || (decide (x.1=y.1) && decide (x.2 > y.2))
section
variable {prog:Program} {w:World} {A:Around} {E:Value->Shared->Prop} {s:Shared} {a b:Addr} {x y:Int×Int} {t1 t2 t3 t4:Tok}
end
section
variable {prog:Program} {w:World} {A:Around} {R:Result->Shared->Prop} {I:Addr} {fp wr:List Addr} {n:Nat} {P:Nat->Value->Prop} {St:Nat->Heap->Prop}
def Gw (prog:Program) (w:World) (A:Around) (op:CmpOp) (h0:Heap) (wr:List Addr) (S:Addr) (P:Nat->Value->Prop) (bt:Nat->Nat->Bool):Prop:=
 ∀ i j vi vj (s:Shared) (Q:Value->Shared->Prop) (E:Value->Shared->Prop),(∀ b o,b∉wr->b≠S->h0.get? b=some o->s.heap.get? b=some o)->P i vi->P j vj->Q (.bool (bt i j)) s->wpAny (model prog w) A (richCompare op vi vj) Q E s
end
section
variable {prog:Program} {w:World} {A:Around} {E:Value->Shared->Prop} {s:Shared}
end
section
variable {prog:Program} {w:World} {A:Around} {R:Result->Shared->Prop} {I:Addr} {fp wr:List Addr} {n:Nat} {P:Nat->Value->Prop} {St:Nat->Heap->Prop}
end
section
variable {prog:Program} {w:World} {A:Around} {E:Value->Shared->Prop} {s:Shared}
end
def Fj (K:PySem.W.Frag) (H:Hp) (v:V) (p:Int×Int):Prop:=∃ a,v=.ref a/\bh K H a [.int p.1,.int p.2]
section
variable {X:Cx} {pins:List (Addr×Obj)} {σ:L2.St} {H:Hp} {s:Shared}
end
def GD (f:Int×Int->Int×Int->Bool) (K:PySem.W.Frag):R2:=fun x y H Q=>∃ p q,Fj K H x p/\Fj K H y q/\Q (.bl (f p q)) H
def F5 (ps:List (Int×Int)) (i:Nat):Int×Int:=ps.getD i (0,0)
def Db (k:Int):Value->Bool
 | .int n _=>n == k
 | _=>false
def F2 (K:PySem.W.Frag):V->List V->Hp->VK->Prop:=fun x vs H Q=>∃ (l:Addr) (ns:List Int) (n:Int),x=.ref l/\vs=[.int n]/\aW K H l (ns.map V.int)/\Q (.int (ns.count n:Nat)) H
theorem mV {β:Type} {K:PySem.W.Frag} {H:Hp} {D:Addr} {n:Nat} {P:Hp->V->β->Prop} {f:Nat->β} {p:Nat->Bool} {src:List (Option Nat)} {σ:L2.St} {g:TG} {tt:TT} {te:TE} {Q:Hp->Prop}
  (mono:∀ H H' v d,au K H H'->P H v d->P H' v d) (hD:H D=none) (hn:n≤1000)
  (turn:∀ (i:Nat) (H':Hp),i < n->aO H H'->∀ (R:VK) (E:Hp->Prop),(p i=true->∀ v H'',aO H' H''->P H'' v (f i)->R v H'')->(p i=false->∀ H'',aO H' H''->E H'')→
   g (.int (0+(i:Int))) (cn src σ) H' fun σ2 H2=>iK (cn src σ) σ2/\tt σ2 H2 fun ok H3=>if ok=true then te σ2 H3 R else E H3)
  (fin:∀ H' ys,aO H H'->H' D=some (.lst ys)->bU (P H') ys (((List.range n).filter p).map f)->Q H') :
  ∃ W:Nat->Nat->List V->Hp->Prop,(∃ m,W 0 m [] (ax H D (.lst [])))/\∀ i m ys H,W i m ys H->((vJ 0 n).stop i H/\Q H)∨((vJ 0 n).go i H/\∀ x H',(vJ 0 n).yld i H x H'→
   g x (cn src σ) H' fun σ2 H2=>iK (cn src σ) σ2/\tt σ2 H2 fun ok H3=>
    if ok=true then te σ2 H3 fun y H4=>H4 D=some (.lst ys)/\ys.length < sizeLine/\∃ m',m' < m/\W (i+1) m' (ys++[y]) (ax H4 D (.lst (ys++[y]))) else ∃ m',m' < m/\W (i+1) m' ys H3):=by
 refine⟨fun i m ys H'=>i≤n/\m=n - i/\H' D=some (.lst ys)/\aO H H'/\bU (P H') ys (((List.range i).filter p).map f),⟨_,Nat.zero_le _,rfl,ah,aj hD _,.nil⟩,?_⟩
 rintro i m ys H1 ⟨hi,rfl,d1,s1,al1⟩
 by_cases hix:i < n
 ·refine .inr ⟨hix,?_⟩
  rintro x H2 ⟨rfl,rfl⟩
  have tk:List.range (i+1)=List.range i++[i]:=List.range_succ
  refine turn i _ hix s1 _ _ (fun o3 v H3 s3 p3=>?_) fun n3 H3 s3=>?_
  ·have d3:H3 D=some (.lst ys):=s3 _ _ d1
   have tm:au K H2 (ax H3 D (.lst (ys++[v]))):=(au.same s3).trans (au.up d3 _)
   have ly:ys.length≤1000:=by
    rw [al1.len,List.length_map]
    exact Nat.le_trans (List.length_filter_le _ _) (by rw [List.length_range];omega)
   refine⟨d3,aZ ly,n - (i+1),by omega,hix,rfl,ah,fun b o q=>?_,?_⟩
   ·rw [aD (aB q hD)]
    exact s3 _ _ (s1 _ _ q)
   ·rw [tk,List.filter_append,List.filter_cons_of_pos o3,List.filter_nil,List.map_append]
    exact (al1.mono fun v d p=>mono _ _ _ _ tm p).snoc (mono _ _ _ _ (au.up d3 _) p3)
  ·refine⟨n - (i+1),by omega,hix,rfl,s3 _ _ d1,s1.trans s3,?_⟩
   rw [tk,List.filter_append,List.filter_cons_of_neg (by rw [n3];decide),List.filter_nil,List.append_nil]
   exact al1.mono fun v d p=>mono _ _ _ _ (au.same s3) p
 ·have e:i=n:=by omega
  subst e
  exact .inl ⟨Nat.le_refl _,fin H1 ys s1 d1 al1⟩
end B
namespace B
def gE (rows:List (R×R)) (s:R):R:=if cz rows s=0 then (rows.getD 0 cU).2 else aH (rows.getD (cz rows s - 1) cU).2 (ar (bV (rows.getD (cz rows s - 1) cU) (rows.getD (cz rows s) cU)) (ai s (rows.getD (cz rows s - 1) cU).1))
theorem lL {rows:List (R×R)} (h:aX rows) {s:R} (hs:ee s) (hp:cz rows s=0):s=(0,1):=by
 obtain⟨y,ey⟩:=h.zero
 have c:=fh hs.bq.pos h.inc h.allP ey
 rw [hp] at c
 have c':av (0,1) s=false:=c
 rw [dX] at c'
 have z:s.1 * 1≤0 * s.2:=c'
 have nn:=hs.nn
 have e:s.1=0:=by omega
 have cop:=hs.bq.cop
 have pos:=hs.bq.pos
 rw [e] at cop
 have:s.2.natAbs=1:=by simpa [Int.gcd] using cop
 exact Prod.ext e (by omega)
def Sv (rows:List (R×R)) (i:Nat):Rat:=val (rows.getD i cU).1
def Pv (rows:List (R×R)) (i:Nat):Rat:=val (rows.getD i cU).2
def vN (rows:List (R×R)):Prop:=∀ j,j+2 < rows.length->sl (Sv rows) (Pv rows) j≤sl (Sv rows) (Pv rows) (j+1)
theorem eh {rows:List (R×R)} {i:Nat} {a:R×R} (h:rows[i]?=some a):Sv rows i=val a.1:=by unfold Sv;rw [bF h]
theorem kr {rows:List (R×R)} {i:Nat} {a:R×R} (h:rows[i]?=some a):Pv rows i=val a.2:=by unfold Pv;rw [bF h]
theorem aX.up {rows:List (R×R)} (h:aX rows):∀ j,j < rows.length - 1->Sv rows j < Sv rows (j+1):=fun j hj=>by
 obtain⟨a,ea⟩:∃ a,rows[j]?=some a:=⟨_,List.getElem?_eq_getElem (by omega)⟩
 obtain⟨b,eb⟩:∃ b,rows[j+1]?=some b:=⟨_,List.getElem?_eq_getElem (by omega)⟩
 rw [eh ea,eh eb]
 obtain⟨h1,e1⟩:=List.getElem?_eq_some_iff.mp ea
 obtain⟨h2,e2⟩:=List.getElem?_eq_some_iff.mp eb
 have:=List.pairwise_iff_getElem.mp h.inc j (j+1) h1 h2 (by omega)
 rw [e1,e2] at this
 exact (dA (h.sp a (List.mem_of_getElem? ea)).pos (h.sp b (List.mem_of_getElem? eb)).pos).mp this
theorem vN.of {rows:List (R×R)} (h:vN rows):∀ j,j+1 < rows.length - 1->sl (Sv rows) (Pv rows) j≤sl (Sv rows) (Pv rows) (j+1):=fun j hj=>h j (by omega)
theorem j2 {rows:List (R×R)} (h:aX rows) {i:Nat} {a b:R×R} (ea:rows[i]?=some a) (eb:rows[i+1]?=some b):val (bV a b)=sl (Sv rows) (Pv rows) i:=by
 have ma:=List.mem_of_getElem? ea
 have mb:=List.mem_of_getElem? eb
 have ne:=(h.slope (Nat.lt_succ_self i) ea eb).1
 unfold bV sl
 rw [gT (cH (h.pw b mb).pos (h.pw a ma).pos).pos (cH (h.sp b mb).pos (h.sp a ma).pos).pos ne,dm (h.pw b mb).pos (h.pw a ma).pos,dm (h.sp b mb).pos (h.sp a ma).pos,eh ea,eh eb,kr ea,kr eb]
theorem iW {rows:List (R×R)} (h:aX rows) {i:Nat} (hi:i+1 < rows.length):val (fx rows i)=sl (Sv rows) (Pv rows) i:=by
 obtain⟨a,ea⟩:∃ a,rows[i]?=some a:=⟨_,List.getElem?_eq_getElem (by omega)⟩
 obtain⟨b,eb⟩:∃ b,rows[i+1]?=some b:=⟨_,List.getElem?_eq_getElem (by omega)⟩
 rw [jk ea eb,j2 h ea eb]
theorem mB {rows:List (R×R)} (h:aX rows) {s:R} (hs:ee s) (hb:cX (.tab rows) s) :
  ∃ m,m < rows.length - 1/\Sv rows m≤val s/\val s≤Sv rows (m+1)/\val (gE rows s)=Pv rows m+sl (Sv rows) (Pv rows) m * (val s - Sv rows m):=by
 have n2:=h.n2
 have pl:=h.p_lt hs.bq.pos hb
 by_cases c0:cz rows s=0
 ·obtain⟨y,ey⟩:=h.zero
  have e:=lL h hs c0
  refine⟨0,by omega,?_,?_,?_⟩
  ·rw [eh ey,e];exact Rat.le_refl
  ·have:=h.up 0 (by omega)
   rw [eh ey] at this
   rw [e]
   grind
  ·unfold gE
   rw [if_pos c0,bF ey,kr ey,eh ey,e]
   grind
 ·obtain⟨a,ea⟩:∃ a,rows[cz rows s - 1]?=some a:=⟨_,List.getElem?_eq_getElem (by omega)⟩
  obtain⟨b,eb⟩:∃ b,rows[cz rows s]?=some b:=⟨_,List.getElem?_eq_getElem pl⟩
  have eb':rows[cz rows s - 1+1]?=some b:=by rw [Nat.sub_add_cancel (by omega)];exact eb
  have ma:=List.mem_of_getElem? ea
  have mb:=List.mem_of_getElem? eb
  have c1:=fh hs.bq.pos h.inc h.allP ea
  have c2:=fh hs.bq.pos h.inc h.allP eb
  rw [decide_eq_true (by omega)] at c1
  rw [decide_eq_false (by omega)] at c2
  refine⟨cz rows s - 1,by omega,?_,?_,?_⟩
  ·rw [eh ea]
   exact Rat.le_of_lt ((dA (h.sp a ma).pos hs.bq.pos).mp c1)
  ·rw [eh eb']
   exact (cc (h.sp b mb).pos hs.bq.pos).mp c2
  ·unfold gE
   rw [if_neg c0,bF ea,bF eb]
   have sr:cO (bV a b):=let w:=(h.slope (Nat.lt_succ_self _) ea eb').2.2.2;⟨w.pos,w.cop⟩
   have mr:=cH hs.bq.pos (h.sp a ma).pos
   rw [bA (h.pw a ma).pos (dn sr mr).pos,bw sr.pos mr.pos,dm hs.bq.pos (h.sp a ma).pos,j2 h ea eb',kr ea,eh ea]
theorem rj {rows:List (R×R)} (h:aX rows) (hc:vN rows) {s:R} (hs:ee s) (hb:cX (.tab rows) s) {i:Nat} (hi:i < rows.length - 1) (h1:Sv rows i≤val s) (h2:val s≤Sv rows (i+1)) :
  val (gE rows s)=Pv rows i+sl (Sv rows) (Pv rows) i * (val s - Sv rows i):=by
 obtain⟨m,hm,m1,m2,em⟩:=mB h hs hb
 have a:=jv h.up hc.of hi hm m1 m2
 have b:=jv h.up hc.of hm hi h1 h2
 rw [em]
 exact Rat.le_antisymm b a
theorem above {rows:List (R×R)} (h:aX rows) (hc:vN rows) {s:R} (hs:ee s) (hb:cX (.tab rows) s) {i:Nat} (hi:i < rows.length - 1) :
  Pv rows i+sl (Sv rows) (Pv rows) i * (val s - Sv rows i)≤val (gE rows s):=by
 obtain⟨m,hm,m1,m2,em⟩:=mB h hs hb
 rw [em]
 exact jv h.up hc.of hi hm m1 m2
theorem xt {rows:List (R×R)} (h:aX rows) {s:R} (hs:ee s) (hb:cX (.tab rows) s) (hp:0 < cz rows s):cz rows s - 1 < rows.length - 1/\Sv rows (cz rows s - 1) < val s/\val s≤Sv rows (cz rows s - 1+1)/\val (dY rows s)=sl (Sv rows) (Pv rows) (cz rows s - 1):=by
 have pl:=h.p_lt hs.bq.pos hb
 obtain⟨a,ea⟩:∃ a,rows[cz rows s - 1]?=some a:=⟨_,List.getElem?_eq_getElem (by omega)⟩
 obtain⟨b,eb⟩:∃ b,rows[cz rows s]?=some b:=⟨_,List.getElem?_eq_getElem pl⟩
 have eb':rows[cz rows s - 1+1]?=some b:=by rw [Nat.sub_add_cancel (by omega)];exact eb
 have c1:=fh hs.bq.pos h.inc h.allP ea
 have c2:=fh hs.bq.pos h.inc h.allP eb
 rw [decide_eq_true (by omega)] at c1
 rw [decide_eq_false (by omega)] at c2
 refine⟨by omega,?_,?_,?_⟩
 ·rw [eh ea];exact (dA (h.sp a (List.mem_of_getElem? ea)).pos hs.bq.pos).mp c1
 ·rw [eh eb'];exact (cc (h.sp b (List.mem_of_getElem? eb)).pos hs.bq.pos).mp c2
 ·unfold dY
  rw [if_neg (by omega),iW h (by omega)]
theorem tN {rows:List (R×R)} (h:aX rows) {s:R} (hs:ee s) (hq:fc rows s < rows.length):fc rows s - 1 < rows.length - 1/\Sv rows (fc rows s - 1)≤val s/\val s < Sv rows (fc rows s - 1+1)/\cZ rows s=some (fx rows (fc rows s - 1))/\val (fx rows (fc rows s - 1))=sl (Sv rows) (Pv rows) (fc rows s - 1):=by
 have qp:=h.q_pos hs.bq.pos hs.nn
 obtain⟨a,ea⟩:∃ a,rows[fc rows s - 1]?=some a:=⟨_,List.getElem?_eq_getElem (by omega)⟩
 obtain⟨b,eb⟩:∃ b,rows[fc rows s]?=some b:=⟨_,List.getElem?_eq_getElem hq⟩
 have eb':rows[fc rows s - 1+1]?=some b:=by rw [Nat.sub_add_cancel (by omega)];exact eb
 have c1:=ij hs.bq.pos h.inc h.allP ea
 have c2:=ij hs.bq.pos h.inc h.allP eb
 rw [decide_eq_false (by omega)] at c1
 rw [decide_eq_true (by omega)] at c2
 refine⟨by omega,?_,?_,?_,?_⟩
 ·rw [eh ea];exact (cc hs.bq.pos (h.sp a (List.mem_of_getElem? ea)).pos).mp c1
 ·rw [eh eb'];exact (dA hs.bq.pos (h.sp b (List.mem_of_getElem? eb)).pos).mp c2
 ·unfold cZ;rw [if_pos hq]
 ·exact iW h (by omega)
theorem qa {rows:List (R×R)} (h:aX rows) (hc:vN rows) {s o g:R} (hs:ee s) (hb:cX (.tab rows) s) (ho:ee o) (hbo:cX (.tab rows) o) (hg:0 < g.2) (hw:Wf 300 (dY rows s)) (hB:gj (dY rows s) (cZ rows s) g=true) :
  val (gE rows s)+val g * (val o - val s)≤val (gE rows o):=by
 unfold gj at hB
 rw [Bool.and_eq_true] at hB
 obtain⟨b1,b2⟩:=hB
 have b1':av g (dY rows s)=false:=by simpa using b1
 have gl:val (dY rows s)≤val g:=(cc hg hw.pos).mp b1'
 by_cases c:val s≤val o
 ·by_cases hq:fc rows s < rows.length
  ·obtain⟨i1,i2,i3,e,ev⟩:=tN h hs hq
   rw [e] at b2
   have b2':av (fx rows (fc rows s - 1)) g=false:=by simpa using b2
   have wr:=h.slpWf (k:=fc rows s - 1) (by omega)
   have gr:val g≤val (fx rows (fc rows s - 1)):=(cc wr.pos hg).mp b2'
   rw [ev] at gr
   have A:=above h hc ho hbo i1
   have F:=rj h hc hs hb i1 i2 (Rat.le_of_lt i3)
   have m:=Rat.mul_le_mul_of_nonneg_right gr (show 0≤val o - val s by grind)
   rw [F]
   generalize sl (Sv rows) (Pv rows) (fc rows s - 1)=u at *
   generalize val (gE rows o)=y at *
   grind
  ·obtain⟨r,er,lr⟩:=hbo
   have le:val o≤val r.1:=(cc (h.sp r (List.mem_of_getElem? er)).pos ho.bq.pos).mp lr
   have cq:=ij hs.bq.pos h.inc h.allP er
   have n2:=h.n2
   rw [decide_eq_false (by omega)] at cq
   have le2:val r.1≤val s:=(cc hs.bq.pos (h.sp r (List.mem_of_getElem? er)).pos).mp cq
   have e:val o=val s:=by grind
   have eo:o=s:=eu ho.bq.red hs.bq.red e
   rw [eo]
   grind
 ·have lt:val o < val s:=Rat.not_le.mp c
  have pp:0 < cz rows s:=by
   rcases Nat.eq_zero_or_pos (cz rows s) with z | z
   ·have e:=lL h hs z
    have:av o s=true:=(dA ho.bq.pos hs.bq.pos).mpr lt
    rw [e,fL.mpr ho.nn] at this
    cases this
   ·exact z
  obtain⟨i1,i2,i3,ev⟩:=xt h hs hb pp
  rw [ev] at gl
  have A:=above h hc ho hbo i1
  have F:=rj h hc hs hb i1 (Rat.le_of_lt i2) i3
  have m:=Rat.mul_le_mul_of_nonneg_right gl (show 0≤val s - val o by grind)
  rw [F]
  generalize sl (Sv rows) (Pv rows) (cz rows s - 1)=u at *
  generalize val (gE rows o)=y at *
  grind
def Cv (rows:List (R×R)) (x:Rat):Prop:=vN rows/\∀ j,j+2=rows.length->sl (Sv rows) (Pv rows) j≤x
theorem AV (w:R×R) (x:Rat):Cv [w] x:=⟨fun j h=>by simp at h,fun j h=>by simp at h⟩
theorem Cv.up {rows:List (R×R)} {x y:Rat} (h:Cv rows x) (l:x≤y):Cv rows y:=⟨h.1,fun j e=>Rat.le_trans (h.2 j e) l⟩
theorem rY {rows:List (R×R)} {w:R×R} {j:Nat} (h:j+1 < rows.length):sl (Sv (rows++[w])) (Pv (rows++[w])) j=sl (Sv rows) (Pv rows) j:=by
 have g:∀ i,i < rows.length->(rows++[w]).getD i cU=rows.getD i cU:=fun i hi=>by
  rw [List.getD_eq_getElem?_getD,List.getD_eq_getElem?_getD,List.getElem?_append_left hi]
 unfold sl Sv Pv
 rw [g j (by omega),g (j+1) h]
theorem Cv.snoc {rows:List (R×R)} {i:Nat} {w:R×R} {slo st:R} (hl:rows.length=i+1) (hw:rows[i]?=some w) (h:Cv rows (val slo)) (w1:0 < w.1.2) (w2:0 < w.2.2) (hs:cO slo) (ht:cO st) (hp:0 < st.1) :
  Cv (rows++[(aH w.1 st,aH w.2 (ar slo st))]) (val slo):=by
 have tr:=dn hs ht
 have g1:(rows++[(aH w.1 st,aH w.2 (ar slo st))])[i]?=some w:=by rw [List.getElem?_append_left (by omega)];exact hw
 have g2:(rows++[(aH w.1 st,aH w.2 (ar slo st))])[i+1]?=some (aH w.1 st,aH w.2 (ar slo st)):=by
  rw [List.getElem?_append_right (by omega),show i+1 - rows.length=0 by omega];rfl
 have ne:val st≠0:=fun z=>by have:=(gR ht.pos).mp z;omega
 have e:sl (Sv (rows++[(aH w.1 st,aH w.2 (ar slo st))])) (Pv (rows++[(aH w.1 st,aH w.2 (ar slo st))])) i=val slo:=by
  unfold sl
  rw [eh g1,eh g2,kr g1,kr g2]
  show (val (aH w.2 (ar slo st)) - val w.2) / (val (aH w.1 st) - val w.1)=val slo
  rw [bA w2 tr.pos,bA w1 ht.pos,bw hs.pos ht.pos]
  generalize val slo=u at *
  generalize val st=v at *
  generalize val w.1=a at *
  generalize val w.2=b at *
  grind
 refine⟨fun j hj=>?_,fun j hj=>?_⟩
 ·rw [List.length_append] at hj
  have hj':j+2 < rows.length+1:=hj
  rw [rY (show j+1 < rows.length by omega)]
  by_cases c:j+2 < rows.length
  ·rw [rY (show j+1+1 < rows.length by omega)]
   exact h.1 j c
  ·have ej:j+1=i:=by omega
   rw [ej,e]
   exact h.2 j (by omega)
 ·rw [List.length_append] at hj
  have hj':j+2=rows.length+1:=hj
  have ej:j=i:=by omega
  rw [ej,e]
  exact Rat.le_refl
end B
namespace B
open PySem PySem.Spec PySem.Calls L2 PyProof.Rows
def De (X:Cx) (A:Around) (N':List Str) (qual:Str) (scope:Scope) (f:Addr) (cd:Value) (cl:List (Str×Addr)) (s:Shared) (H:Hp):Cx where
 prog:=X.prog
 w:=X.w
 K:=X.K
 mg:=X.mg
 base:=X.base
 A:=A.deeper (PySem.W.envX qual scope s.heap.objs.size f cd cl)
 N:=N'
 s₀:=s
 H₀:=H
 env:=PySem.W.envX qual scope s.heap.objs.size f cd cl
 outer:=X.stack
 stack:=PySem.W.envX qual scope s.heap.objs.size f cd cl :: X.stack
 ex:=[]
 fn:=fun _=>false
 calm:=true
 pn:=[]
 xe:=fun _ _=>False
structure ng (scope:Scope) (p y:Str):Prop where
 kind:scope.kind=.function
 co:scope.isCoroutine=false
 gen:scope.isGenerator=false
 loc:scope.names.lookup p=some .local
 fre:scope.names.lookup y=some .free
 all:(scope.names.all fun z=>z.2 != .cell && (z.2 != .free || z.1 == y))=true
theorem Da {x y:Str} {c c':Addr} (h:([(y,c)]:List (Str×Addr)).lookup x=some c'):x=y/\c'=c:=by
 rw [List.lookup_cons] at h
 cases e:x == y with
 | true=>rw [e] at h;cases h;exact⟨eq_of_beq e,rfl⟩
 | false=>rw [e] at h;cases h
theorem E3 {y:Str} {c:Addr}:([(y,c)]:List (Str×Addr)).lookup y=some c:=by
 rw [List.lookup_cons,beq_self_eq_true]
section
variable {X:Cx} {pins:List (Addr×Obj)} {σ:L2.St} {H:Hp} {s:Shared} {A:Around} {p y:Str} {qual:Str} {scope:Scope} {f c:Addr} {cd:Value} {h₁:Heap} {tk:Nat} {j:Nat} {v:V} {u:Value}
theorem ng.only (S:ng scope p y) {x:Str} (h:scope.names.lookup x=some .cell∨scope.names.lookup x=some .free):x=y:=by
 have key:∀ k:NameKind,scope.names.lookup x=some k->(k=.cell∨k=.free)->x=y:=fun k e hk=>by
  have q:=List.all_eq_true.mp S.all _ (mem_of_lookup e)
  rcases hk with rfl | rfl
  ·exact absurd (show (false && _)=true from q) (by simp)
  ·have q':(true && (false || (x == y)))=true:=q
   simpa using q'
 rcases h with h | h
 ·exact key _ h (.inl rfl)
 ·exact key _ h (.inr rfl)
theorem xy (I:L2.Inv X pins σ H s) (S:ng scope p y) (hA:A.frames=some X.stack) (hd:A.handled=none) (hj:X.N[j]?=some y) (hk:X.env.kindOf y=some .cell) (hc:X.env.cells.lookup y=some c)
  (hns:h₁.Ns s.heap.objs.size (fun x=>[(p,u)].reverse.lookup x)) (keep:∀ b o,s.heap.get? b=some o->h₁.get? b=some o) (r:aY v u) :
  L2.Inv (De X A [p,y] qual scope f cd [(y,c)] s H) [] [some v,(σ[j]?).getD none] H { s with heap:=h₁,toks:=tk } where
 ok:={ mod:=I.ok.mod,kind:=S.kind,glob:=rfl,blt:=rfl,above:=Nat.le_refl _
       inj:=fun x z c' e1 e2=>by rw [(Da e1).1,(Da e2).1]
       has:=fun x h=>by
        have e:=S.only h
        subst e
        exact⟨c,E3⟩
       cab:=fun x c z=>nomatch z
       hd:=fun _=>hd,frames:=Around.frames_deeper hA,stk:=.inr ⟨rfl,rfl⟩
       exf:=fun b z=>absurd (show b∈([]:List Addr) from z) (by simp)
       bs:=I.bs,bsz:=Nat.le_trans I.ok.bsz I.sz
       noex:=fun b o _ z=>absurd (show b∈([]:List Addr) from z) (by simp)
       exfs:=fun b z=>absurd (show b∈([]:List Addr) from z) (by simp)
       funs:=I.stack,frf:=I.stkFree }
 os:=rfl
 bare:=I.bare
 base:=Un.kept keep
 loc:=⟨_,hns,fun i x v' e1 e2 _=>by
  match i,e1,e2 with
  | 0,e1,e2=>
   cases e1
   cases e2
   exact⟨u,r,.inl ⟨S.loc,by show ([(p,u)]:List (Str×Value)).lookup p=some u;rw [List.lookup_cons,beq_self_eq_true]⟩⟩
  | 1,e1,e2=>
   cases e1
   have e3:σ[j]?=some (some v'):=by
    have e2':some ((σ[j]?).getD none)=some (some v'):=e2
    injection e2' with e2'
    cases z:σ[j]? with
    | none=>rw [z] at e2';cases e2'
    | some o=>rw [z] at e2';exact congrArg some e2'
   obtain⟨m0,hn0,hl0⟩:=I.loc
   obtain⟨u',r',l⟩:=hl0 j y v' hj e3 (Or.inr (Or.inl hk))
   refine⟨u',r',?_⟩
   rcases l with ⟨k,_⟩ | ⟨k,c',e,o,ho,hd⟩
   ·rw [hk] at k;cases k
   ·rw [hc] at e
    cases e
    exact .inr ⟨.inr S.fre,c,E3,o,keep c o ho,hd⟩
  | i+2,e1,_=>cases e1⟩
 cell:=fun x c' e=>by
  obtain⟨_,rfl⟩:=Da e
  obtain⟨v,o,ho,hd⟩:=I.cell y c' hc
  exact⟨v,o,keep _ _ ho,hd⟩
 free:=I.hok.fresh (Nat.le_refl _)
 freeC:=fun x c' e=>by
  obtain⟨_,rfl⟩:=Da e
  exact I.freeC y c' hc
 pin:=fun q hq=>absurd (show q∈([]:List (Addr×Obj)) from hq) (by simp)
 hok:=I.hok.kept keep
 len:=rfl
theorem uQ {params:Arguments} {body:Expr} {pm ctv:Value} {nm:Str} {te:TE} {Qk:VK} {c':Addr} (I:L2.Inv X pins σ H s) (S:ng scope p y) (hA:A.frames=some X.stack) (hd:A.handled=none) (hroom:A.depth < recursionLimit)
  (hj:X.N[j]?=some y) (hk:X.env.kindOf y=some .cell) (hc:X.env.cells.lookup y=some c)
  (hf:s.heap.get? f=some (PySem.W.kla_obj nm qual params body scope [(y,c)] pm c' ctv)) (hcd:s.heap.CodeRec (.ref c') qual)
  (bind:∀ w:Value,bindArgs (PySem.W.kla_fn nm qual params body scope [(y,c)] pm (.ref c') ctv) ⟨[w],[]⟩=pure [(p,w)])
  (hb:PE (De X A [p,y] qual scope f (.ref c') [(y,c)] s H) body te) (r:aY v u) (h:te [some v,(σ[j]?).getD none] H Qk) :
  codeAny (model X.prog X.w) A (.call (.ref f) ⟨[u],[]⟩) (CR eF X.stack X.prog X.w H s Qk (fun _ _ _=>False)) s:=by
 refine PySem.W.kla_callFunE hroom hf rfl S.co S.gen rfl hcd ?_
 rw [bind]
 refine wpAny_pure (wpAny_newFunctionEnv (fun x hx z=>?_) (fun x hx=>?_) (fun h₁ hns hsb=>⟨(I.nolimit).fresh _ hsb,?_⟩) S.kind)
 ·have q:=List.all_eq_true.mp S.all _ hx
  rw [z] at q
  exact absurd (show (false && _)=true from q) (by simp)
 ·have e:x=(p,u):=by simpa using hx
  rw [e]
  exact S.loc
 have keep:∀ b o,s.heap.get? b=some o->h₁.get? b=some o:=fun b o e=>hsb.extBut b o (Nat.ne_of_lt (Heap.lt_size e)) (Heap.get?_push_of_some _ e)
 have J:L2.Inv (De X A [p,y] qual scope f (.ref c') [(y,c)] s H) [] [some v,(σ[j]?).getD none] H { s with heap:=h₁,toks:=s.toks+1 }:=xy I S hA hd hj hk hc hns keep r
 refine PySem.W.kla_codeExpr (wpAny_mono (hb [] _ _ H Qk J h) (fun u' s' ⟨v',H',J',r',q'⟩=>?_) fun _ _ z=>False.elim z)
 exact⟨v',H',J'.os,J'.bare,J'.base,J'.hok,r',q'⟩
end
abbrev lF:HO:=.ext fun _=>True
def ot (H:Hp) (T:Addr) (qual:Str) (lp:Pos):Prop:=
 H T=some (.tbl #[])∨∃ (c:Addr) (o:Obj) (vs:Array Value) (t:Tok),H T=some (.tbl #[rawInt lp.line,rawInt lp.col,.ref c])/\H c=some (.frz o lF)/\o.data=.fields vs/\vs[1]?=some (.str qual t)
def gG (T:Addr) (H H':Hp):Prop:=∀ b o,b≠T->H b=some o->H' b=some o
theorem ot.code {X:Cx} {pins:List (Addr×Obj)} {σ:L2.St} {H:Hp} {s:Shared} {c:Addr} {o:Obj} {vs:Array Value} {t:Tok} {q:Str} (I:L2.Inv X pins σ H s) (hc:H c=some (.frz o lF)) (d:o.data=.fields vs) (e:vs[1]?=some (.str q t)):s.heap.CodeRec (.ref c) q:=
 ⟨c,o,vs,t,rfl,(I.hok c _ hc).1,d,e⟩
theorem vv {lp:Pos} {v:Value}:codeAmong lp #[rawInt lp.line,rawInt lp.col,v].toList=some v:=codeAmong_snoc (pos:=lp) (c:=v) [] trivial rfl
section
variable {X:Cx} {pins:List (Addr×Obj)} {σ:L2.St} {H:Hp} {s:Shared} {c T:Addr} {params:Arguments} {body:Expr} {scope:Scope} {lp:Pos} {clos:List (Str×Addr)} {Q:Value->Shared->Prop} {E:Value->Shared->Prop}
theorem uR (I:L2.Inv X pins σ H s) (hcode:X.env.code=.ref c) (hc:PySem.W.codeHdIn X.K c T=true) (hT:ot H T (X.env.qual ++ "<lambda>") lp) (hB:X.base.BuiltinsAt X.mg T) (hcl:closureFor scope X.env=pure clos) (hdef:defaultsOf params X.env=([],[]))
  (h:∀ (f:Addr) (H':Hp) (s':Shared) (c':Addr) (ctv:Value) (o:Obj) (vs:Array Value) (t:Tok),L2.Inv X pins σ H' s'->gG T H H'->ot H' T (X.env.qual ++ "<lambda>") lp->H f=none→
   H' f=some (.frz (PySem.W.kla_obj "<lambda>" (X.env.qual ++ "<lambda>") params body scope clos ((X.mg "__name__").getD .none) c' ctv) lF)->H' c'=some (.frz o lF)->o.data=.fields vs->vs[1]?=some (.str (X.env.qual ++ "<lambda>") t)->Q (.ref f) s') :
  wpAny (model X.prog X.w) X.A (eval (.Lambda params body scope lp) X.env) Q E s:=by
 refine PySem.W.kla_eval hdef ?_
 have hg:s.heap.Ns mainGlobals X.mg:=I.mod.glob.keeps I.bk
 have C:PySem.W.CodeHd s.heap c T:=PySem.W.codeHd_of_K I.kIn hc
 obtain⟨bm,ob,b1,b2,b3,b4,b5,b6⟩:=hB
 have hB':s.heap.BuiltinsAt X.mg T:=⟨bm,ob,b1,b2,b3,b4,I.bk _ _ b5,b6⟩
 rcases hT with hT | ⟨c',o,vs,t,hT,hc',d,e⟩
 ·have hP:s.heap.get? T=some (PySem.W.tabObj #[]):=I.hok T _ hT
  have hgT:mainGlobals≠T:=fun q=>by
   obtain⟨o,es,ep,e,hd,_⟩:=hg
   rw [q,hP] at e;cases e;cases hd
  refine PySem.W.kla_makeFunction hcl I.ok.glob hg hcode C hP trivial rfl hgT hB' fun c' ctv h' tk hx hge hlt hrec htb=>?_
  obtain⟨c₂,oc,vs,t,e2,hoc,hd,hv⟩:=hrec
  cases e2
  have nc:H c'=none:=I.hok.fresh hge
  have szf:s.heap.objs.size≤h'.objs.size:=Nat.le_trans hge (Nat.le_of_lt hlt)
  have nf:H h'.objs.size=none:=I.hok.fresh szf
  have fT:h'.objs.size≠T:=fun z=>by rw [z,hT] at nf;cases nf
  have cT:c'≠T:=fun z=>by rw [z,hT] at nc;cases nc
  have cf:c'≠h'.objs.size:=Nat.ne_of_lt hlt
  have ff:(PySem.W.kla_obj "<lambda>" (X.env.qual ++ "<lambda>") params body scope clos ((X.mg "__name__").getD .none) c' ctv).isFreed=false:=rfl
  generalize hfo:PySem.W.kla_obj "<lambda>" (X.env.qual ++ "<lambda>") params body scope clos ((X.mg "__name__").getD .none) c' ctv=fo at ff
  generalize hH':ax (ax (ax H T (.tbl (#[]++#[rawInt lp.line,rawInt lp.col,.ref c']))) c' (.frz oc lF)) h'.objs.size (.frz fo lF)=H'
  have hf':H' h'.objs.size=some (.frz fo lF):=by rw [← hH',ah]
  have hc2:H' c'=some (.frz oc lF):=by rw [← hH',aD cf,ah]
  have hT':H' T=some (.tbl (#[]++#[rawInt lp.line,rawInt lp.col,.ref c'])):=by rw [← hH',aD (Ne.symm fT),aD (Ne.symm cT),ah]
  have old:∀ b u,b≠T->H b=some u->H' b=some u:=fun b u n q=>by
   rw [← hH',aD (aB q nf),aD (aB q nc),aD n];exact q
  have kp:∀ b o,b≠T->s.heap.get? b=some o->(h'.push fo).get? b=some o:=fun b o n q=>Heap.get?_push_of_some _ (hx b o n q)
  have un:Un X.fs [] H H' s.heap (h'.push fo):=by
   refine⟨fun b o q n _ _=>kp b o (fun z=>by rw [z,hT] at n;cases n) q,fun b o q n _ _=>⟨o.slots,kp b o (fun z=>by rw [z,hT] at n;cases n) q⟩,fun b o q n _=>?_,fun b o q _=>?_,fun b xs q=>old b _ (fun z=>by rw [z,hT] at q;cases q) q,fun b o u q=>old b _ (fun z=>by rw [z,hT] at q;cases q) q,fun b ps q=>?_⟩
   ·have l:=Heap.lt_size q
    rw [← hH',aD (Nat.ne_of_lt (Nat.lt_of_lt_of_le l szf)),aD (Nat.ne_of_lt (Nat.lt_of_lt_of_le l hge)),aD (fun z=>by rw [z,hT] at n;cases n)]
    exact n
   ·by_cases z:b=T
    ·exact⟨_,by rw [z];exact Heap.get?_push_of_some _ htb⟩
    ·exact⟨o,kp b o z q⟩
   ·by_cases z:b=T
    ·rw [z,hT] at q
     cases q
     exact⟨_,by rw [z];exact hT'⟩
    ·exact⟨#[],by rw [old b _ z q];simp⟩
  have hok:gD X.prog X.w H' (h'.push fo):=fun b u q=>by
   by_cases z1:b=h'.objs.size
   ·rw [z1,hf'] at q
    cases q
    rw [z1]
    exact⟨Heap.get?_push_size _ ff,trivial,⟨_,Heap.get?_push_size _ ff⟩,fun _ _ _ _=>trivial⟩
   by_cases z2:b=c'
   ·rw [z2,hc2] at q
    cases q
    rw [z2]
    exact⟨Heap.get?_push_of_some _ hoc,trivial,⟨_,Heap.get?_push_of_some _ hoc⟩,fun _ _ _ _=>trivial⟩
   by_cases z3:b=T
   ·rw [z3,hT'] at q
    cases q
    rw [z3]
    exact Heap.get?_push_of_some _ htb
   ·rw [← hH',aD z1,aD z2,aD z3] at q
    refine (I.hok b u q).stay (fun a v ha e=>kp a v (fun z=>?_) e) (fun a e=>old a _ (fun z=>by rw [z,hT] at e;cases e) e) (fun a xs e=>old a _ (fun z=>by rw [z,hT] at e;cases e) e)
    rcases ha with ha | ha
    ·exact z3 (ha.symm.trans z)
    ·rw [z,hT] at ha;cases ha
  have J:L2.Inv X pins σ H' { s with heap:=h'.push fo,toks:=tk }:=I.un un hok
  subst hfo
  exact h _ H' _ c' ctv oc vs t J old (.inr ⟨c',oc,vs,t,by rw [hT'];rfl,hc2,hd,hv⟩) nf hf' hc2 hd hv
 ·have hP:s.heap.get? T=some (PySem.W.tabObj #[rawInt lp.line,rawInt lp.col,.ref c']):=I.hok T _ hT
  refine PySem.W.kla_makeFunctionHit hcl I.ok.glob hg hcode C hP trivial vv hB' fun ctv h' tk hk hsz=>?_
  have nf:H h'.objs.size=none:=I.hok.fresh hsz
  have old:∀ (u:HO) b v,H b=some v->ax H h'.objs.size u b=some v:=fun u b v q=>by rw [aD (aB q nf)];exact q
  refine h _ _ _ c' ctv o vs t (I.laid (o:=.frz (PySem.W.kla_obj "<lambda>" (X.env.qual ++ "<lambda>") params body scope clos ((X.mg "__name__").getD .none) c' ctv) lF) (t':=tk) (fun b u q=>Heap.get?_push_of_some _ (hk b u q)) hsz ⟨Heap.get?_push_size _ rfl,trivial,⟨_,Heap.get?_push_size _ rfl⟩,fun _ _ _ _=>trivial⟩) (fun b v _ q=>old _ b v q) (.inr ⟨c',o,vs,t,old _ _ _ hT,old _ _ _ hc',d,e⟩) nf ah (old _ _ _ hc') d e
end
theorem oi {X:Cx} {f:Addr} {key:Nat->Int} {pins:List (Addr×Obj)} {s:Shared} {σ:L2.St} {H:Hp} {p:Addr} {n:Nat} {us:List Value} {Q:VK} (hc:X.calm=true)
  (I:L2.Inv X pins σ H s) (r:bg [.ref p] us) (hp:H p=some (.rng 0 n)) (h64:n < 64)
  (turn:∀ (i:Nat) (t:Tok),i < n->∀ (pins:List (Addr×Obj)) (s:Shared),L2.Inv X pins σ H s->wpAny (model X.prog X.w) X.A.in1.in1 (call (.ref f) [.int (i:Int) t]) (fun u s2=>(∃ t,u=.int (key i) t)/\L2.Inv X pins σ H s2) (fun _ _=>False) s)
  (q:∀ (l:Addr) (ms:List Nat),ms.Perm (List.range n)->ms.Pairwise (fun a b=>key a≤key b)->H l=none->Q (.ref l) (ax H l (.lst (ms.map fun i:Nat=>V.int i)))) :
  wpAny (model X.prog X.w) X.A (call (.builtin "sorted") us [(Str.ofString "key", .ref f)]) (EP X pins σ Q) X.xe s:=by
 obtain⟨u,rfl,rx⟩:=gQ r
 cases rx
 obtain⟨t,u,w,e⟩:=(show bJ X.prog X.w H s.heap p (.rng 0 n) from I.hok p _ hp)
 have hh:X.A.in1.handled=none:=I.ok.hd hc
 refine call_function_entry_kw kind_sorted plain_sorted entry_sorted (ksk_s1 _ _) ?_
 unfold Builtin.«sorted»
 refine wpAny_bind (m:=checkCount "sorted" 1 1 _) (wpAny_pure (wpAny_bind (lv (n:=n) hh (show IsRange s.heap p 0 (n:Int) 1 t u w from e) (small_one (by omega) (by omega) (by omega) (by omega)) (by rw [rangeSize_one];split <;> omega) (by omega) fun h1 tk acc kp hi=>?_)))
 obtain⟨hl,ha⟩:=hi
 have ll:acc.toList.length=n:=by rw [Array.length_toList,hl]
 have ha':∀ (i:Nat) (v:Value),acc.toList[i]?=some v->∃ t,v=.int (i:Int) t:=fun i v e=>by
  obtain⟨t,q⟩:=ha i v (by rw [← Array.getElem?_toList];exact e)
  exact⟨t,by rw [q,Int.mul_one,Int.zero_add]⟩
 refine wpAny_bind (wpAny_newList ?_ (by rw [ll,sizeLine_eq];omega))
 have I1:L2.Inv X pins σ H { s with heap:=h1,toks:=tk }:=I.kept kp
 have I2:L2.Inv X pins σ H { s with heap:=h1.push (seqObj "list" acc.toList.toArray 0),toks:=tk }:=I1.kept (t':=tk) fun b o e=>Heap.get?_push_of_some _ e
 have hoL:(h1.push (seqObj "list" acc.toList.toArray 0)).get? h1.objs.size=some (seqObj "list" acc.toList.toArray 0):=Heap.get?_push_size _ rfl
 have fp:e7 X pins H h1.objs.size:=I1.fpOk (Nat.le_refl _) I1.fresh
 show wpAny _ _ _ _ _ { s with heap:=h1.push (seqObj "list" acc.toList.toArray 0),toks:=tk }
 refine wpAny_bind (wpAny_holding (wpAny_call_entry_kw slot_list_sort ⟨_,hoL,rfl⟩ entry_list_sort ?_ (ksk_l1 _ _)))
 show wpAny _ X.A.in1.in1 (Builtin.«list.sort» ⟨[.ref h1.objs.size],[(Str.ofString "key", .ref f)]⟩) _ _ _
 rw [ksk_t1]
 refine uS (kz:=(List.range n).map key) I2 fp hoL (by rw [List.length_map,List.length_range,ll]) (by rw [ll];exact h64) (fun i v kk hv hk pins' s' I'=>?_) fun s' out c I' ho hout=>⟨_,rfl,wpAny_pure ⟨_,rfl,?_⟩⟩
 ·have hi:i < n:=by rw [← ll];exact (List.getElem?_eq_some_iff.mp hv).1
  obtain⟨t',rfl⟩:=ha' i v hv
  rw [List.getElem?_map,List.getElem?_range hi] at hk
  have ek:key i=kk:=Option.some.inj hk
  subst ek
  exact turn i t' hi pins' s' I'
 ·obtain⟨ps,hperm,eout,hsort⟩:=hout
  have zl:((List.range n).map key).zip acc.toList=(List.range n).map fun i=>(key i,acc.toList.getD i .none):=by
   refine List.ext_getElem (by rw [List.length_zip,List.length_map,List.length_map,List.length_range,ll,Nat.min_self]) fun i h1 h2=>?_
   rw [List.length_map,List.length_range] at h2
   rw [List.getElem_zip,List.getElem_map,List.getElem_map,List.getElem_range]
   rw [List.getD_eq_getElem?_getD,List.getElem?_eq_getElem (by omega)]
   rfl
  rw [zl] at hperm
  obtain⟨ms,hms,eps⟩:∃ ms:List Nat,ms.Perm (List.range n)/\ps=ms.map fun i=>(key i,acc.toList.getD i .none):=by
   exact uq hperm _ rfl
  have inr:∀ i∈ms,i < n:=fun i hi=>List.mem_range.mp (hms.mem_iff.mp hi)
  have hv:bg (ms.map fun i:Nat=>V.int i) out.toList:=by
   rw [eout,eps,List.map_map]
   have go:∀ l:List Nat,(∀ i∈l,i < n)->bg (l.map fun i:Nat=>V.int i) (l.map (Prod.snd ∘ fun i=>(key i,acc.toList.getD i Value.none))):=by
    intro l
    induction l with
    | nil=>intro _;exact .nil
    | cons i l ih=>
     intro hl
     have hi:=hl i List.mem_cons_self
     have e:acc.toList[i]?=some (acc.toList[i]'(by omega)):=List.getElem?_eq_getElem _
     obtain⟨t,q⟩:=ha' i _ e
     refine .cons ⟨t,?_⟩ (ih fun j hj=>hl j (List.mem_cons_of_mem _ hj))
     show acc.toList.getD i Value.none=_
     rw [List.getD_eq_getElem?_getD,e,Option.getD_some,q]
   exact go ms inr
  have hso:ms.Pairwise (fun a b=>key a≤key b):=by
   rw [eps,List.pairwise_map] at hsort
   exact hsort.imp fun {a b} h=>h
  have hsz:(ms.map fun i:Nat=>V.int i).length≤sizeLine:=by rw [List.length_map,hms.length_eq,List.length_range,sizeLine_eq];omega
  have I4:L2.Inv X pins σ (ax H h1.objs.size (.lst (ms.map fun i:Nat=>V.int i))) s':=A6 I' fp ⟨hsz,out.toList,c,hv,by simpa using ho⟩
  exact⟨.ref h1.objs.size,_,I4,rfl,q _ ms hms hso fp.1⟩
def yO (T:Addr) (qual:Str) (lp:Pos) (j:Nat) (te:TE) (t:TA):TE:=fun σ H Q=>t σ H fun vs H1=>∃ (p:Addr) (n:Nat) (key:Nat->Int),vs=[.ref p]/\H1 p=some (.rng 0 n)/\n < 64/\ot H1 T qual lp∧
 (∀ (i:Nat) (H':Hp) (Qk:VK),i < n->gG T H1 H'->Qk (.int (key i)) H'->te [some (.int i),(σ[j]?).getD none] H' Qk)∧
 ∀ (l:Addr) (ms:List Nat) (H':Hp),ms.Perm (List.range n)->ms.Pairwise (fun a b=>key a≤key b)->gG T H1 H'->ot H' T qual lp->H' l=some (.lst (ms.map fun i:Nat=>V.int i))->H1 l=none->Q (.ref l) H'
theorem tZ {X:Cx} {c c0 T:Addr} {x y:Str} {p kp pos lp:Pos} {e body:Expr} {params:Arguments} {scope:Scope} {t:TA} {te:TE} {j:Nat} (hcode:X.env.code=.ref c0) (hch:PySem.W.codeHdIn X.K c0 T=true) (hB:X.base.BuiltinsAt X.mg T) (hr:dF 2 X.A) (hc:X.calm=true)
  (S:ng scope x y) (hj:X.N[j]?=some y) (hk:X.env.kindOf y=some .cell) (hcy:X.env.cells.lookup y=some c) (hcl:closureFor scope X.env=pure [(y,c)]) (hdef:defaultsOf params X.env=([],[]))
  (bind:∀ (pm cv ctv w:Value),bindArgs (PySem.W.kla_fn "<lambda>" (X.env.qual ++ "<lambda>") params body scope [(y,c)] pm cv ctv) ⟨[w],[]⟩=pure [(x,w)])
  (hb:∀ A f cd s H,QE (De X A [x,y] (X.env.qual ++ "<lambda>") scope f cd [(y,c)] s H) body te)
  (hg:Gl X "sorted") (hm:X.mg "sorted" = none) (ha:QA X [e] t) (hs:starEach [e] X.env=[(false,eval e X.env)]:=by rfl) :
  QE X (.Call (.Name "sorted" p) [e] [⟨some "key", .Lambda params body scope lp,kp⟩] pos) (yO T (X.env.qual ++ "<lambda>") lp j te t):=by
 refine⟨fun pins s σ H Q I h=>?_⟩
 refine wpAny_Call_Name_kw (fZ I hg hm PyProof.Rows.boot_sorted ?_)
 refine callWith_kw (cb (ha.p pos pins s σ H _ I h) fun us s1 ⟨vs,H1,I1,r1,q1⟩=>?_) (by rw [hs];rfl) (by rw [hs];rfl)
 obtain⟨p,n,key,rfl,hp,h64,hT,hbody,q⟩:=q1
 have nT:p≠T:=fun z=>by
  rcases hT with hT | ⟨_,_,_,_,hT,_⟩
  ·rw [z,hT] at hp;cases hp
  ·rw [z,hT] at hp;cases hp
 refine kws_cons (uR I1 hcode hch hT hB hcl hdef fun f H2 s2 c' ctv o vs' t' I2 sm tb nf hf2 hc2 od ov=>kws_nil ?_)
 refine oi (key:=key) hc I2 r1 (sm p _ nT hp) h64 (fun i t hi pins' s' I'=>?_) fun l ms hms hso hl=>?_
 ·have hA:X.A.in1.in1.frames=some X.stack:=I1.ok.frames
  refine wpAny_call (codeAny_mono (uQ (v:=.int (i:Nat)) (Qk:=fun v H'=>v=.int (key i)/\H'=H2) I' S hA (I1.ok.hd hc) hr.in1.in1.depth hj hk hcy (I'.hok f _ hf2).1 (ot.code I' hc2 od ov) (bind _ _ _) (hb _ _ _ _ _).p ⟨t,rfl⟩ (hbody i H2 _ hi sm ⟨rfl,rfl⟩)) fun r s2 hq=>?_)
  cases r with
  | error e=>exact hq.elim
  | ok fl=>
   cases fl with
   | ret u=>
    obtain⟨v2,H3,I3,rv2,rfl,rfl⟩:=I'.after hq
    obtain⟨t3,rfl⟩:=rv2
    exact⟨⟨t3,rfl⟩,I3⟩
   | next=>exact False.elim hq
   | brk=>exact False.elim hq
   | cont=>exact False.elim hq
 ·have k2:∀ b u,H2 b=some u->ax H2 l (.lst (ms.map fun i:Nat=>V.int i)) b=some u:=fun b u e=>by rw [aD (aB e hl)];exact e
  refine q l ms _ hms hso (fun b u nb e=>k2 b u (sm b u nb e)) ?_ ah ?_
  ·rcases tb with tb | ⟨c,o,vs,t,h1,h2,h3⟩
   ·exact .inl (k2 _ _ tb)
   ·exact .inr ⟨c,o,vs,t,k2 _ _ h1,k2 _ _ h2,h3⟩
  ·cases e:H1 l with
   | none=>rfl
   | some u=>
    by_cases z:l=T
    ·rcases tb with tb | ⟨_,_,_,_,tb,_⟩
     ·rw [z,tb] at hl;cases hl
     ·rw [z,tb] at hl;cases hl
    ·rw [sm l u z e] at hl;cases hl
end B
namespace B
open PySem PySem.Spec L2 PyProof.Rows
def CL (H:Hp) (T:Addr):Prop:=∀ b,H b=none∨(∃ o xs,H b=some (.frz o (.lst xs)))∨(b=T/\H b=some (.tbl #[]))
theorem qE {P:Program} {w:World} {K:PySem.W.Frag} {mg mb:Str->Option Value} {CX:ni} {k:Nat} {fa a c T:Addr} {fd:FuncData} {x:Str} {sp:Sp} {s₁:Shared} {vs:List Value} {ns:List Int}
  (KX:K.In s₁.heap) (hns:s₁.heap.Ns mainGlobals mg) (hb:s₁.heap.Ns builtinsNs mb) (hbb:∀ x:Str,x ≠ "__name__" -> mb x=bootBuiltins x) (hlim:s₁.heap.NoLimit) (hg:s₁.gens=#[])
  (hT:s₁.heap.get? T=some (PySem.W.tabObj #[])) (hC:PySem.W.codeHdIn K c T=true) (hnt:PySem.W.noTabs K=true) (hbm:s₁.heap.BuiltinsAt mg T)
  (ha:s₁.heap.get? a=some { cls:=.type "list", data:=.seq vs.toArray }) (hi:IntsAre vs ns) (hl:ns.length≤sizeLine) (hr:dF k callerA)
  (F:∀ base:Heap,K.In base->base.Ns mainGlobals mg->base.BuiltinsAt mg T->bO P w K mg base CX k fa fd [x] sp) (hbind:∀ (s:Shared) (u:Value),BindsTo s fd ⟨[u],[]⟩ [(x,u)])
  (hsp:∀ H:Hp,H T=some (.tbl #[])->aW K H a (ns.map V.int)->sp [.ref a] H (fun v _=>v=.bl true) fun _ _ _=>False)
  (hCX:∀ H e s',CX [] H s₁ (fun _ _ _=>False) e s'->False) :
  codeAny (model P w) callerA (.call (.ref fa) ⟨[.ref a],[]⟩) (fun r s'=>r=.ok (.ret (.bool true))/\OldK s₁.heap s'.heap/\s'.os=s₁.os/\AllBare s'.gens) s₁:=by
 have rv:=jY hi
 have lenV:=hi.length
 have aT:a≠T:=fun z=>by rw [z,hT] at ha;cases ha
 have kT:∀ {o:Obj},K.lookup T≠some o:=fun {o} e=>by
  have h2:=List.all_eq_true.mp hnt (T,o) (PySem.W.mem_of_lookupK e)
  have e2:=KX T o e
  rw [hT] at e2
  cases e2
  exact absurd (show false=true from h2) Bool.false_ne_true
 have core:∀ H:Hp,CL H T->H T=some (.tbl #[])->aW K H a (ns.map V.int)->gD P w H s₁.heap->(∀ b,H b≠none->b=a∨b=T)->(H a≠none->K.lookup a=none)→
   codeAny (model P w) callerA (.call (.ref fa) ⟨[.ref a],[]⟩) (fun r s'=>r=.ok (.ret (.bool true))/\OldK s₁.heap s'.heap/\s'.os=s₁.os/\AllBare s'.gens) s₁:=by
  intro H hO hHT hS hok hA hK
  have base_of:∀ {b:Addr} {o:Obj},s₁.heap.get? b=some o->H b=none->(jR s₁.heap H).get? b=some o:=fun e n=>u5 e n
  have noA:∀ {b:Addr} {o:Obj},s₁.heap.get? b=some o->(∀ v e,o.data≠.seq v e)->(∀ v,o.data≠.fields v)->H b=none:=fun {b o} e d1 d2=>by
   cases q:H b with
   | none=>rfl
   | some u=>
    rcases hA b (by rw [q];simp) with e' | e'
    ·subst e'
     rw [ha] at e;cases e
     exact absurd rfl (d1 _ _)
    ·subst e'
     rw [hT] at e;cases e
     exact absurd rfl (d2 _)
  have nsK:∀ {b:Addr} {m:Str->Option Value},s₁.heap.Ns b m->(jR s₁.heap H).Ns b m:=fun {b m} ⟨o,es,ep,e,d,r⟩=>⟨o,es,ep,base_of e (noA e (fun v e z=>by rw [d] at z;cases z) fun v z=>by rw [d] at z;cases z),d,r⟩
  have hKb:K.In (jR s₁.heap H):=fun b o e=>base_of (KX b o e) (by
   cases q:H b with
   | none=>rfl
   | some u=>
    rcases hA b (by rw [q];simp) with e' | e'
    ·subst e'
     rw [hK (by rw [q];simp)] at e;cases e
    ·subst e'
     exact absurd e kT)
  have hM:Mod K mg (jR s₁.heap H):=⟨hKb,nsK hns,⟨mb,nsK hb,hbb⟩,let ⟨mc,h1,h2⟩:=hlim;⟨mc,nsK h1,h2⟩⟩
  have hbm':(jR s₁.heap H).BuiltinsAt mg T:=by
   obtain⟨bm,ob,b1,b2,b3,b4,b5,b6,b7,b8⟩:=hbm
   exact⟨bm,ob,b1,b2,b3,b4,base_of b5 (noA b5 (fun v e z=>by rw [b8] at z;cases z) fun v z=>by rw [b8] at z;cases z),b6,b7,b8⟩
  have e0:vK P w K mg (jR s₁.heap H) callerA [] s₁ H:=⟨rfl,hM,fun b o e=>xj e,Nat.le_of_eq (qL _ _),trivial,fun b hb=>absurd (show b∈([]:List Addr) from hb) (by simp),hok,.of_eq hg⟩
  refine codeAny_mono ((F _ hKb (nsK hns) hbm').run callerA [] s₁ H ⟨[.ref a],[]⟩ [.ref a] [.ref a] _ _ hr e0 (hbind s₁ (.ref a)) (.cons rfl .nil) (hsp H hHT hS)) fun r s' h=>?_
  cases r with
  | error e=>exact (hCX H e s' h).elim
  | ok fl=>
   cases fl with
   | next=>exact False.elim h
   | brk=>exact False.elim h
   | cont=>exact False.elim h
   | ret u=>
    obtain⟨v,H',os,bare,un,hok',r',q⟩:=h
    have q':v=.bl true:=q
    subst q'
    obtain rfl:u=Value.bool true:=r'
    have was:∀ b o,s₁.heap.get? b=some o->b≠T->s'.heap.get? b=some o:=fun b o e nb=>by
     cases q:H b with
     | none=>exact un.keep b o e q (by intro z;exact absurd (show b∈([]:List Addr) from z) (by simp)) (by simp)
     | some u=>
      rcases hO b with z | ⟨ob,xs,z⟩ | ⟨z,_⟩
      ·rw [q] at z;cases z
      ·have z2:=un.frzs b ob _ z
       obtain⟨e1,_⟩:=hok b _ z
       obtain⟨e2,_⟩:=hok' b _ z2
       rw [e] at e1;cases e1
       exact e2
      ·exact absurd z nb
    obtain⟨more,eT⟩:=un.tbls T _ hHT
    have eT':s'.heap.get? T=some { cls:=.none,data:=.fields (#[]++more) }:=hok' T _ eT
    refine⟨rfl,⟨fun b o e=>?_,fun b o e=>?_⟩,os,bare⟩
    ·by_cases z:b=T
     ·subst z
      rw [hT] at e
      cases e
      exact .inr (.inl ⟨((PySem.W.codeHd_of_K KX hC).tab hT).isCodeTable,rfl,#[],more,rfl,eT'⟩)
     ·exact .inl (was b o e z)
    ·by_cases z:b=T
     ·subst z;exact⟨_,eT'⟩
     ·exact⟨o,was b o e z⟩
 cases hk:K.lookup a with
 | some o=>
  have e:=KX a o hk
  rw [ha] at e
  cases e
  refine core (fun b=>if b=T then some (.tbl #[]) else none) (fun b=>?_) (if_pos rfl) (.inr ⟨_,vs.toArray,_,hk,rfl,rfl,rfl,by rw [List.size_toArray,lenV];exact hl,by simpa using rv⟩) (fun b u z=>?_) (fun b z=>?_) fun z=>absurd (if_neg aT) z
  ·by_cases hb:b=T
   ·exact .inr (.inr ⟨hb,if_pos hb⟩)
   ·exact .inl (if_neg hb)
  ·by_cases hb:b=T
   ·have z':=(if_pos hb).symm.trans z
    cases z'
    subst hb
    exact hT
   ·have z':=(if_neg hb).symm.trans z
    cases z'
  ·by_cases hb:b=T
   ·exact .inr hb
   ·exact absurd (if_neg hb) z
 | none=>
  refine core (fun b=>if b=T then some (.tbl #[]) else if b=a then some (.frz { cls:=.type "list", data:=.seq vs.toArray } (.lst (ns.map V.int))) else none) (fun b=>?_) (if_pos rfl) (.inl (.inr ⟨{ cls:=.type "list", data:=.seq vs.toArray },(if_neg aT).trans (if_pos rfl)⟩)) (fun b u z=>?_) (fun b z=>?_) fun _=>hk
  ·by_cases hb:b=T
   ·exact .inr (.inr ⟨hb,if_pos hb⟩)
   by_cases ha:b=a
   ·exact .inr (.inl ⟨_,_,(if_neg hb).trans (if_pos ha)⟩)
   ·exact .inl ((if_neg hb).trans (if_neg ha))
  ·by_cases hb:b=T
   ·have z':=(if_pos hb).symm.trans z
    cases z'
    subst hb
    exact hT
   by_cases h2:b=a
   ·have z':=((if_neg hb).trans (if_pos h2)).symm.trans z
    cases z'
    subst h2
    exact⟨ha,by rw [List.length_map];exact hl,vs,_,rv,ha⟩
   ·have z':=((if_neg hb).trans (if_neg h2)).symm.trans z
    cases z'
  ·by_cases hb:b=T
   ·exact .inr hb
   by_cases h2:b=a
   ·exact .inl h2
   ·exact absurd ((if_neg hb).trans (if_neg h2)) z
theorem walk_ofT {l:PySem.W.OpenLaw} {n k:Nat} {q:Program} {loose:List Str} {XP:(Str->Option Value)->Heap->Prop} {YP:World->Heap->Prop} {d:DefRec} {K:Params->PySem.W.Frag} {CX:World->ni} {c T:Addr} {sp:World->Sp} {x:Str}
  (hn:l.most=some n) (hn2:n≤sizeLine) (hdf:d.params.defaults=[]) (hr:dF k callerA)
  (hY:∀ (w:World) (h:Heap),YP w h->(K w.params).In h/\h.get? T=some (PySem.W.tabObj #[]))
  (hC:∀ w:World,PySem.W.codeHdIn (K w.params) c T=true) (hnt:∀ w:World,PySem.W.noTabs (K w.params)=true)
  (F:∀ (w:World) (mg:Str->Option Value) (fa:Addr) (h:Heap),(K w.params).In h->h.Ns mainGlobals mg->mg d.name=some (.ref fa)→
   ∃ fd:FuncData,(∀ (s:Shared) (u:Value),BindsTo s fd ⟨[u],[]⟩ [(x,u)])∧
    ∀ base:Heap,(K w.params).In base->base.Ns mainGlobals mg->base.BuiltinsAt mg T->bO l.prog w (K w.params) mg base (CX w) k fa fd [x] (sp w))
  (hsp:∀ (w:World) (H:Hp) (a:Addr) (ns:List Int),ns.length≤n->H T=some (.tbl #[])->aW (K w.params) H a (ns.map V.int)->sp w [.ref a] H (fun v _=>v=.bl true) fun _ _ _=>False)
  (hCX:∀ (w:World) (H:Hp) (s:Shared) (e:Value) (s':Shared),CX w [] H s (fun _ _ _=>False) e s'->False) :
  PySem.W.WalkO q loose XP YP l.row.toRowW d [] (fun f vs=>PySem.call f vs):=by
 refine Att.attach_call hn hdf fun w s₀ s₁ mg mb fa o pm cd doc a vs ns G Y ho hd hcd hmg hobj hints hlen hg=>?_
 obtain⟨KX,hT⟩:=hY w _ Y
 obtain⟨fd,hb,hF⟩:=F w mg fa _ KX G.T.g hmg
 have hbm:s₁.heap.BuiltinsAt mg T:=by
  obtain⟨bm,ob,a1,a2,a3,a4,a5,a6⟩:=G.T.bmain
  refine⟨bm,ob,a1,a2,fun z=>?_,fun z=>?_,a3,a4,a5,a6⟩
  ·obtain⟨o,es,ep,e,hd,_⟩:=G.T.g
   rw [z,e] at a3;cases a3;rw [hd] at a6;cases a6
  ·rw [z,hT] at a3;cases a3;cases a4
 exact qE KX G.T.g G.T.b G.T.builtins G.T.nolimit hg hT (hC w) (hnt w) hbm hobj hints (Nat.le_trans hlen hn2) hr hF hb (fun H hO hS=>hsp w H a ns hlen hO hS) fun H e s'=>hCX w H s₁ e s'
theorem Fun.okC {P:Program} {w:World} {K:PySem.W.Frag} {mg:Str->Option Value} {base:Heap} {x qual:Str} {st:Stmt} {f c:Addr} {fd:FuncData} {N ps:List Str} {k:Nat} {sp:Sp} (F:Fun K x qual st f fd) (hc:fd.code=.ref c) (S:aL N ps (ay st)) (len:∀ vs H Q E,sp vs H Q E->vs.length=ps.length)
  (hbody:∀ (A:Around) (outer:List Env) (s:Shared) (H:Hp) (vs:List V) (Q:VK) (E:XK),dF k (A.deeper (envOfC qual (ay st) s.heap.objs.size f (.ref c)))->sp vs H Q E→
   ∃ t,nh (bX eF P w K mg base N qual (ay st) f (.ref c) A outer s H E).nox (dN st) t/\t { nx:=fun _ H'=>Q .non H',rt:=Q } (gY N vs) H):bO P w K mg base eF (k+1) f fd ps sp:=by
 obtain⟨oc,od,kV,doc,pm,an,cdv,ct,osl,rfl,lk,hcd⟩:=F.ex
 have hc':cdv=.ref c:=hc
 subst hc'
 refine yu lk hcd S len fun A outer s H vs Q E hr hsp=>?_
 obtain⟨t,h,q⟩:=hbody A outer s H vs Q E hr hsp
 exact⟨t,h.nox,q⟩
end B
namespace My
open PySem L2 B PyProof.Rows
theorem cy {X:Cx} {pos:Pos} (i:Nat) {x:Str} {e:Expr} {te:TE} {pos':Pos} (hN:X.N.Nodup) (he:QE X e te) (hi:X.N[i]?=some x:=by rfl) (hx:vG X.env.scope x:=by first | exact Or.inl rfl | exact Or.inr rfl) (hs:swapsWith e (some (.Name x pos')) pos.line X.env=pure false:=by rfl) (hf:X.fn x=true∨X.env.scope.names.lookup x=some .local:=by first | exact .inl rfl | exact .inr rfl | assumption):QS X (.Assign [.Name x pos'] e pos) (ny te (jG i)):=zF hN hi hx he hs hf
theorem fN {N P:List Str} {sc:Scope} (a:sc.kind=.function:=by rfl) (b:sc.isCoroutine=false:=by rfl) (c:sc.isGenerator=false:=by rfl) (d:N.Nodup:=by decide +kernel) (e:N.take P.length=P:=by rfl) (f:∀ x∈P,sc.names.lookup x=some .local∨sc.names.lookup x=some .cell:=by decide +kernel) (g:∀ y∈sc.names,y.2≠.free:=by decide +kernel):aL N P sc:=⟨a,b,c,d,e,f,g⟩
theorem bP {X:Cx} {k j:Nat} {f:Addr} {fd:FuncData} {ps:List Str} {sp:Sp} {x:Str} {p pos:Pos} {e:Expr} {es:List Expr} {t:TA} (F:bO X.prog X.w X.K X.mg X.base eF k f fd ps sp) (hr:dF j X.A) (hm:X.mg x=some (.ref f)) (hk:PySem.W.keepIn X.K (.ref f)=true) (hb:ba X.K fd ps []) (ha:QA X (e :: es) t) (hl:k≤j:=by decide) (hg:Gl X x:=by rfl) (hdb:(x == ("__debug__" : Str))=false:=by decide) (he:starEach (e :: es) X.env=(false,eval e X.env) :: starEach es X.env:=by rfl) (hpl:(backTo pos (starEach es X.env)).any (·.1)=false:=by rfl):QE X (.Call (.Name x p) (e :: es) [] pos) (rM sp [] E0 t):=cJ F (hr.mono hl) hg hm hk hb .nil eN ha hdb he hpl
theorem bf {X:Cx} {a b:Expr} {ta tb:TE} {pos:Pos} {r:R2} (hr:Bc X r) (ha:QE X a ta) (hb:QE X b tb) (hs:lI b:=by exact fun _ _=>rfl):QE X (.Subscript a b pos) (vW r ta tb):=cE hr ha hb hs
class ip {α:Type} (P:PySem.W.Frag->Hp->V->α->Prop):Prop where
 mono:∀ {K:PySem.W.Frag} {H H':Hp} {v:V} {d:α},au K H H'->P K H v d->P K H' v d
theorem aM {α:Type} {P:PySem.W.Frag->Hp->V->α->Prop} [ip P] {K:PySem.W.Frag} {H H':Hp} {xs:List V} {ds:List α} (e:aO H H') (h:bU (P K H) xs ds):bU (P K H') xs ds:=h.mono fun _ _ q=>ip.mono (au.same e) q
theorem aT {α:Type} {P:PySem.W.Frag->Hp->V->α->Prop} [ip P] {K:PySem.W.Frag} {t:Addr} {H H':Hp} {xs:List V} {ds:List α} (e:bo t H H') (h:bU (P K H) xs ds):bU (P K H') xs ds:=h.mono fun _ _ q=>ip.mono (au.step e) q
theorem aU {α:Type} {P:PySem.W.Frag->Hp->V->α->Prop} [ip P] {K:PySem.W.Frag} {H H':Hp} {xs:List V} {ds:List α} (e:au K H H') (h:bU (P K H) xs ds):bU (P K H') xs ds:=h.mono fun _ _ q=>ip.mono e q
instance:ip RV:=⟨fun t q=>q.mono t⟩
theorem GO {K:PySem.W.Frag} {x qual:Str} {st:Stmt} {f:Addr} {fd:FuncData} {ps:List Str} (F:Fun K x qual st f fd) (h:∀ (kV doc pm:Value) (an:Option Addr) (cdv ct:Value) (us:List Value),us.length=ps.length->bindArgs (PySem.W.fnOf x qual (fg st) (dN st) (ay st) .none kV doc pm an cdv ct) ⟨us,[]⟩=pure (ps.zip us):=by
 intro _ _ _ _ _ _ us hl
 match us,hl with
 | [],h2=>first | rfl | (simp at h2)
 | [_],h2=>first | rfl | (simp at h2)
 | [_,_],h2=>first | rfl | (simp at h2)
 | [_,_,_],h2=>first | rfl | (simp at h2)
 | [_,_,_,_],h2=>first | rfl | (simp at h2)
 | _ :: _ :: _ :: _ :: _ :: _,h2=>simp at h2):ba K fd ps []:=F.binds h
def top (i:Nat):Stmt:=PySem.Challenge.pw_paceplan_k39_bounds_of_prices.main.body.getD i (.Pass ⟨0,0,0,0⟩)
abbrev zn:Stmt:=top 8
abbrev sK:Stmt:=top 9
abbrev sF:Stmt:=top 10
abbrev sJ:Stmt:=top 11
abbrev sH:Stmt:=top 12
abbrev sx:Stmt:=top 13
abbrev sM:Stmt:=top 14
abbrev sR:Stmt:=top 15
abbrev sG:Stmt:=top 16
abbrev zg:Stmt:=top 17
abbrev zj:Stmt:=top 18
abbrev zi:Stmt:=top 21
abbrev sL:Stmt:=top 22
abbrev tH:Stmt:=top 23
abbrev tf:Stmt:=top 24
abbrev sY:Stmt:=top 25
abbrev tG:Stmt:=top 28
abbrev zh:Stmt:=top 30
abbrev zf:Stmt:=top 31
abbrev sX:Stmt:=top 33
abbrev sW:Stmt:=top 34
abbrev tF:Stmt:=top 35
abbrev sV:Stmt:=top 36
abbrev sP:Stmt:=top 37
abbrev sO:Stmt:=top 38
abbrev sU:Stmt:=top 39
abbrev sN:Stmt:=top 40
abbrev tE:Stmt:=top 41
abbrev sS:Stmt:=top 42
abbrev ze:Stmt:=top 43
abbrev tz:Stmt:=top 44
abbrev zd:Stmt:=top 45
abbrev tw:Stmt:=top 46
abbrev zk:Stmt:=top 47
abbrev tJ:Stmt:=top 48
abbrev tj:Stmt:=top 49
abbrev zm:Stmt:=top 50
abbrev sw:Stmt:=top 51
structure Ad where
 a_Q0:Addr
 d_Q0:FuncData
 a_Q31:Addr
 d_Q31:FuncData
 a_Q35:Addr
 d_Q35:FuncData
 a_Q32:Addr
 d_Q32:FuncData
 a_Q33:Addr
 d_Q33:FuncData
 a_Q36:Addr
 d_Q36:FuncData
 a_Q29:Addr
 d_Q29:FuncData
 a_Q25:Addr
 d_Q25:FuncData
 a_Q34:Addr
 d_Q34:FuncData
 a_Q6:Addr
 d_Q6:FuncData
 a_Q3:Addr
 d_Q3:FuncData
 a_Q4:Addr
 d_Q4:FuncData
 a_Q30:Addr
 d_Q30:FuncData
 a_Q11:Addr
 d_Q11:FuncData
 a_Q18:Addr
 d_Q18:FuncData
 a_Q19:Addr
 d_Q19:FuncData
 a_Q12:Addr
 d_Q12:FuncData
 a_Q5:Addr
 d_Q5:FuncData
 a_Q7:Addr
 d_Q7:FuncData
 a_Q20:Addr
 d_Q20:FuncData
 a_Q21:Addr
 d_Q21:FuncData
 a_Q13:Addr
 d_Q13:FuncData
 a_Q22:Addr
 d_Q22:FuncData
 a_Q26:Addr
 d_Q26:FuncData
 a_Q27:Addr
 d_Q27:FuncData
 a_Q23:Addr
 d_Q23:FuncData
 a_Q28:Addr
 d_Q28:FuncData
 a_Q14:Addr
 d_Q14:FuncData
 a_Q24:Addr
 d_Q24:FuncData
 a_Q8:Addr
 d_Q8:FuncData
 a_Q15:Addr
 d_Q15:FuncData
 a_Q9:Addr
 d_Q9:FuncData
 a_Q16:Addr
 d_Q16:FuncData
 a_Q2:Addr
 d_Q2:FuncData
 a_Q10:Addr
 d_Q10:FuncData
 a_Q17:Addr
 d_Q17:FuncData
 a_Q1:Addr
 d_Q1:FuncData
 a_Q37:Addr
 d_Q37:FuncData
 c_NOUGHT:Addr
 k_POWER:Tok
 k_TURNS:Tok
 c_LC:Addr
 c_LT:Addr
structure fC (K:PySem.W.Frag) (mg:Str->Option Value) (t:Ad):Prop where
 lhd:PySem.W.codeHdIn K t.c_LC t.c_LT=true
 lcd:t.d_Q3.code=.ref t.c_LC
 F_Q0:Fun K "greatest_divisor" "greatest_divisor" zn t.a_Q0 t.d_Q0
 b_Q0:ba K t.d_Q0 ["one", "other"] []
 m_Q0:mg "greatest_divisor" = some (.ref t.a_Q0)
 F_Q31:Fun K "ratio" "ratio" sK t.a_Q31 t.d_Q31
 b_Q31:ba K t.d_Q31 ["top", "bottom"] []
 m_Q31:mg "ratio" = some (.ref t.a_Q31)
 F_Q35:Fun K "plus" "plus" sF t.a_Q35 t.d_Q35
 b_Q35:ba K t.d_Q35 ["one", "other"] []
 m_Q35:mg "plus" = some (.ref t.a_Q35)
 F_Q32:Fun K "minus" "minus" sJ t.a_Q32 t.d_Q32
 b_Q32:ba K t.d_Q32 ["one", "other"] []
 m_Q32:mg "minus" = some (.ref t.a_Q32)
 F_Q33:Fun K "times" "times" sH t.a_Q33 t.d_Q33
 b_Q33:ba K t.d_Q33 ["one", "other"] []
 m_Q33:mg "times" = some (.ref t.a_Q33)
 F_Q36:Fun K "over" "over" sx t.a_Q36 t.d_Q36
 b_Q36:ba K t.d_Q36 ["one", "other"] []
 m_Q36:mg "over" = some (.ref t.a_Q36)
 F_Q29:Fun K "raised" "raised" sM t.a_Q29 t.d_Q29
 b_Q29:ba K t.d_Q29 ["one", "power"] []
 m_Q29:mg "raised" = some (.ref t.a_Q29)
 F_Q25:Fun K "is_less" "is_less" sR t.a_Q25 t.d_Q25
 b_Q25:ba K t.d_Q25 ["one", "other"] []
 m_Q25:mg "is_less" = some (.ref t.a_Q25)
 F_Q34:Fun K "total" "total" sG t.a_Q34 t.d_Q34
 b_Q34:ba K t.d_Q34 ["some"] []
 m_Q34:mg "total" = some (.ref t.a_Q34)
 F_Q6:Fun K "whole_parts" "whole_parts" zg t.a_Q6 t.d_Q6
 b_Q6:ba K t.d_Q6 ["some"] []
 m_Q6:mg "whole_parts" = some (.ref t.a_Q6)
 F_Q3:Fun K "falling_order" "falling_order" zj t.a_Q3 t.d_Q3
 b_Q3:ba K t.d_Q3 ["some"] []
 m_Q3:mg "falling_order" = some (.ref t.a_Q3)
 F_Q4:Fun K "slope_between" "slope_between" zi t.a_Q4 t.d_Q4
 b_Q4:ba K t.d_Q4 ["low", "high"] []
 m_Q4:mg "slope_between" = some (.ref t.a_Q4)
 F_Q30:Fun K "top_of" "top_of" sL t.a_Q30 t.d_Q30
 b_Q30:ba K t.d_Q30 ["rule"] []
 m_Q30:mg "top_of" = some (.ref t.a_Q30)
 F_Q11:Fun K "is_beyond" "is_beyond" tH t.a_Q11 t.d_Q11
 b_Q11:ba K t.d_Q11 ["rule", "speed"] []
 m_Q11:mg "is_beyond" = some (.ref t.a_Q11)
 F_Q18:Fun K "place_of" "place_of" tf t.a_Q18 t.d_Q18
 b_Q18:ba K t.d_Q18 ["rows", "speed"] []
 m_Q18:mg "place_of" = some (.ref t.a_Q18)
 F_Q19:Fun K "power_at" "power_at" sY t.a_Q19 t.d_Q19
 b_Q19:ba K t.d_Q19 ["rule", "speed"] []
 m_Q19:mg "power_at" = some (.ref t.a_Q19)
 F_Q12:Fun K "in_window" "in_window" tG t.a_Q12 t.d_Q12
 b_Q12:ba K t.d_Q12 ["work", "turn"] []
 m_Q12:mg "in_window" = some (.ref t.a_Q12)
 F_Q5:Fun K "turns_at_hand" "turns_at_hand" zh t.a_Q5 t.d_Q5
 b_Q5:ba K t.d_Q5 ["works", "hands", "order"] []
 m_Q5:mg "turns_at_hand" = some (.ref t.a_Q5)
 F_Q7:Fun K "price_bound" "price_bound" zf t.a_Q7 t.d_Q7
 b_Q7:ba K t.d_Q7 ["works", "rule", "hands", "prices"] []
 m_Q7:mg "price_bound" = some (.ref t.a_Q7)
 F_Q20:Fun K "_law_tape" "_law_tape" sX t.a_Q20 t.d_Q20
 b_Q20:ba K t.d_Q20 ["_law_script"] []
 m_Q20:mg "_law_tape" = some (.ref t.a_Q20)
 F_Q21:Fun K "_law_draw" "_law_draw" sW t.a_Q21 t.d_Q21
 b_Q21:ba K t.d_Q21 ["_law_tape_here", "_law_many"] []
 m_Q21:mg "_law_draw" = some (.ref t.a_Q21)
 F_Q13:Fun K "_law_alike" "_law_alike" tF t.a_Q13 t.d_Q13
 b_Q13:ba K t.d_Q13 ["_law_due", "_law_found"] []
 m_Q13:mg "_law_alike" = some (.ref t.a_Q13)
 F_Q22:Fun K "_law_frac" "_law_frac" sV t.a_Q22 t.d_Q22
 b_Q22:ba K t.d_Q22 ["_law_top", "_law_bottom"] []
 m_Q22:mg "_law_frac" = some (.ref t.a_Q22)
 F_Q26:Fun K "_law_add" "_law_add" sP t.a_Q26 t.d_Q26
 b_Q26:ba K t.d_Q26 ["_law_one", "_law_other"] []
 m_Q26:mg "_law_add" = some (.ref t.a_Q26)
 F_Q27:Fun K "_law_mul" "_law_mul" sO t.a_Q27 t.d_Q27
 b_Q27:ba K t.d_Q27 ["_law_one", "_law_other"] []
 m_Q27:mg "_law_mul" = some (.ref t.a_Q27)
 F_Q23:Fun K "_law_less" "_law_less" sU t.a_Q23 t.d_Q23
 b_Q23:ba K t.d_Q23 ["_law_one", "_law_other"] []
 m_Q23:mg "_law_less" = some (.ref t.a_Q23)
 F_Q28:Fun K "_law_sum" "_law_sum" sN t.a_Q28 t.d_Q28
 b_Q28:ba K t.d_Q28 ["_law_some"] []
 m_Q28:mg "_law_sum" = some (.ref t.a_Q28)
 F_Q14:Fun K "_law_works" "_law_works" tE t.a_Q14 t.d_Q14
 b_Q14:ba K t.d_Q14 ["_law_tape_here", "_law_many"] []
 m_Q14:mg "_law_works" = some (.ref t.a_Q14)
 F_Q24:Fun K "_law_rule" "_law_rule" sS t.a_Q24 t.d_Q24
 b_Q24:ba K t.d_Q24 ["_law_tape_here", "_law_kinks", "_law_most"] []
 m_Q24:mg "_law_rule" = some (.ref t.a_Q24)
 F_Q8:Fun K "_law_rising" "_law_rising" ze t.a_Q8 t.d_Q8
 b_Q8:ba K t.d_Q8 ["_law_some"] []
 m_Q8:mg "_law_rising" = some (.ref t.a_Q8)
 F_Q15:Fun K "_law_power" "_law_power" tz t.a_Q15 t.d_Q15
 b_Q15:ba K t.d_Q15 ["_law_rule_here", "_law_speed"] []
 m_Q15:mg "_law_power" = some (.ref t.a_Q15)
 F_Q9:Fun K "_law_slopes" "_law_slopes" zd t.a_Q9 t.d_Q9
 b_Q9:ba K t.d_Q9 ["_law_rule_here", "_law_speed"] []
 m_Q9:mg "_law_slopes" = some (.ref t.a_Q9)
 F_Q16:Fun K "_law_price" "_law_price" tw t.a_Q16 t.d_Q16
 b_Q16:ba K t.d_Q16 ["_law_tape_here", "_law_rule_here", "_law_speed"] []
 m_Q16:mg "_law_price" = some (.ref t.a_Q16)
 F_Q2:Fun K "_law_some_speed" "_law_some_speed" zk t.a_Q2 t.d_Q2
 b_Q2:ba K t.d_Q2 ["_law_tape_here", "_law_rule_here", "_law_kinks"] []
 m_Q2:mg "_law_some_speed" = some (.ref t.a_Q2)
 F_Q10:Fun K "_law_prices" "_law_prices" tJ t.a_Q10 t.d_Q10
 b_Q10:ba K t.d_Q10 ["_law_tape_here", "_law_works_here", "_law_rule_here", "_law_kinks"] []
 m_Q10:mg "_law_prices" = some (.ref t.a_Q10)
 F_Q17:Fun K "_law_bound" "_law_bound" tj t.a_Q17 t.d_Q17
 b_Q17:ba K t.d_Q17 ["_law_works_here", "_law_rule_here", "_law_hands", "_law_prices_here"] []
 m_Q17:mg "_law_bound" = some (.ref t.a_Q17)
 F_Q1:Fun K "_law_least_first" "_law_least_first" zm t.a_Q1 t.d_Q1
 b_Q1:ba K t.d_Q1 ["_law_some"] []
 m_Q1:mg "_law_least_first" = some (.ref t.a_Q1)
 F_Q37:Fun K "law" "law" sw t.a_Q37 t.d_Q37
 b_Q37:ba K t.d_Q37 ["_law_script"] []
 m_Q37:mg "law" = some (.ref t.a_Q37)
 m_NOUGHT:mg "NOUGHT" = some (.ref t.c_NOUGHT)
 q_NOUGHT:∀ H,bh K H t.c_NOUGHT [.int (0),.int (1)]
 m_POWER:mg "POWER" = some (.str "power" t.k_POWER)
 m_TURNS:mg "TURNS" = some (.int (24) t.k_TURNS)
 z_abs:mg "abs" = none
 z_all:mg "all" = none
 z_bool:mg "bool" = none
 z_int:mg "int" = none
 z_isinstance:mg "isinstance" = none
 z_len:mg "len" = none
 z_list:mg "list" = none
 z_range:mg "range" = none
 z_repr:mg "repr" = none
 z_sorted:mg "sorted" = none
 z_str:mg "str" = none
 z_sum:mg "sum" = none
 z_tuple:mg "tuple" = none
 z_zip:mg "zip" = none
def gB (_:PySem.W.Frag):Sp:=fun vs H Q _=>∃ a b:Int,vs=[.int a,.int b]/\Q (.int (Int.gcd a b:Nat)) H
def qA (H:Hp) (Q:VK) (r:R):Prop:=∀ p,H p=none->Q (.ref p) (ax H p (.tup [.int r.1,.int r.2]))
def vU (K:PySem.W.Frag) (H:Hp) (Q:VK) (r:R):Prop:=∀ (v:V) (H':Hp),aO H H'->RV K H' v r->Q v H'
def rS (_:PySem.W.Frag):Sp:=fun vs H Q _=>∃ a b:Int,vs=[.int a,.int b]/\b≠0/\b.natAbs < 2 ^ 4000/\qA H Q (i6 a b)
def oH (K:PySem.W.Frag):Sp:=fun vs H Q _=>∃ (v w:V) (r q:R) (n m:Nat),vs=[v,w]/\RV K H v r/\RV K H w q/\Wf n r/\Wf m q/\n+m+1≤3000/\qA H Q (aH r q)
def rT (K:PySem.W.Frag):Sp:=fun vs H Q _=>∃ (v w:V) (r q:R) (n m:Nat),vs=[v,w]/\RV K H v r/\RV K H w q/\Wf n r/\Wf m q/\n+m+1≤3000/\vU K H Q (ai r q)
def lW (K:PySem.W.Frag):Sp:=fun vs H Q _=>∃ (v w:V) (r q:R) (n m:Nat),vs=[v,w]/\RV K H v r/\RV K H w q/\Wf n r/\Wf m q/\n+m+1≤3000/\qA H Q (ar r q)
def vZ (K:PySem.W.Frag):Sp:=fun vs H Q _=>∃ (v w:V) (r q:R) (n m:Nat),vs=[v,w]/\RV K H v r/\RV K H w q/\Wf n r/\Wf m q/\n+m+1≤3000/\q.1≠0/\vU K H Q (fO r q)
def jj (K:PySem.W.Frag):Sp:=fun vs H Q _=>∃ (v w:V) (r q:R) (n m:Nat),vs=[v,w]/\RV K H v r/\RV K H w q/\Wf n r/\Wf m q/\n+m+1≤3000/\Q (.bl (av r q)) H
abbrev md:=jj
def qg (K:PySem.W.Frag):Sp:=fun vs H Q _=>∃ (v:V) (r:R) (k:Int),vs=[v,.int k]/\RV K H v r/\Wf 98 r/\0≤k/\k≤4/\vU K H Q (dj r k.toNat)
theorem bj {i:Int} {n:Nat} (h:i.natAbs < 2 ^ n) (hn:n≤4000):i.natAbs < 2 ^ 4000:=Nat.lt_of_lt_of_le h (Nat.pow_le_pow_right (by decide) hn)
theorem jp {K:PySem.W.Frag} {H:Hp} {p:Addr} {x y:Int} (_:aO H (ax H p (.tup [.int x,.int y]))):RV K (ax H p (.tup [.int x,.int y])) (.ref p) (x,y):=RV.of ah
theorem vo {a b:Int} (h:Int.gcd a b=1):Int.gcd (-a) b=1:=by rw [Int.neg_gcd];exact h
theorem gf {a g:Int} (hg:0 < g) (h:a.natAbs < 2 ^ 4000):(a / g).natAbs < 2 ^ 4000:=Nat.lt_of_le_of_lt (fq a hg) h
theorem jF {a b:Int} (hb:0 < b) (h:b.natAbs < 2 ^ 4000):((Int.gcd a b:Nat):Int).natAbs < 2 ^ 4000:=pB (by omega) h
theorem Bx {n:Int} (h0:0≤n) (h1:n≤100):-(2 ^ 62)≤n/\n < 2 ^ 62:=by constructor <;> omega
theorem mw {a:Int} {i:Nat} (h:a.natAbs < 2 ^ 98) (hi:i≤4):(a ^ i).natAbs < 2 ^ 4000:=by
 rw [Int.natAbs_pow]
 refine Nat.lt_of_le_of_lt (Nat.pow_le_pow_left (Nat.le_of_lt h) i) ?_
 rw [← Nat.pow_mul]
 exact Nat.pow_lt_pow_right (by decide) (by omega)
def fu (K:PySem.W.Frag) (H:Hp) (v:V) (w:R×R):Prop:=∃ p x y,v=.ref p/\bh K H p [x,y]/\RV K H x w.1/\RV K H y w.2
theorem fu.mono {K:PySem.W.Frag} {H H':Hp} {v:V} {w:R×R} (h:fu K H v w) (t:au K H H'):fu K H' v w:=let ⟨p,q,q',a,b,c,d⟩:=h;⟨p,q,q',a,t _ _ b,c.mono t,d.mono t⟩
instance:ip fu:=⟨fun t q=>q.mono t⟩
def m8 (K:PySem.W.Frag) (H:Hp) (v:V):Rl->Prop
 | .pow k=>∃ p,v=.ref p/\bh K H p [.str (Str.ofString "power"),.int k]
 | .tab rows=>∃ p q xs,v=.ref p/\bh K H p [.str (Str.ofString "table"),.ref q]/\bh K H q xs/\bU (fu K H) xs rows
theorem m8.mono {K:PySem.W.Frag} {H H':Hp} {v:V} {rl:Rl} (h:m8 K H v rl) (t:au K H H'):m8 K H' v rl:=by
 cases rl with
 | pow k=>obtain⟨p,a,b⟩:=h;exact⟨p,a,t _ _ b⟩
 | tab rows=>obtain⟨p,q,xs,a,b,c,d⟩:=h;exact⟨p,q,xs,a,t _ _ b,t _ _ c,d.mono fun _ _ z=>z.mono t⟩
def Ef (K:PySem.W.Frag) (H:Hp) (v:V):Option R->Prop
 | none=>v=.non
 | some r=>RV K H v r
def Ed (K:PySem.W.Frag) (H:Hp) (v:V) (w:R×Option R):Prop:=∃ p x y,v=.ref p/\bh K H p [x,y]/\RV K H x w.1/\Ef K H y w.2
structure A9 (a b:R×R):Prop where
 ne:(ai b.1 a.1).1≠0
 w1:Wf 99 (ai b.1 a.1)
 w2:Wf 198 (ai b.2 a.2)
 a1:Wf 98 a.1
 b1:Wf 98 b.1
 a2:Wf 197 a.2
 b2:Wf 197 b.2
theorem wc {rows:List (R×R)} (h:aX rows) {i j:Nat} {a b:R×R} (hij:i < j) (ha:rows[i]?=some a) (hb:rows[j]?=some b):A9 a b:=
 let ⟨e1,e2,e3,_⟩:=h.slope hij ha hb
 let ma:=List.mem_of_getElem? ha
 let mb:=List.mem_of_getElem? hb
 ⟨e1,e2,e3,yL (h.sp a ma),yL (h.sp b mb),Dq (h.pw a ma),Dq (h.pw b mb)⟩
def ix (K:PySem.W.Frag):Sp:=fun vs H Q _=>∃ (v w:V) (a b:R×R),vs=[v,w]/\fu K H v a/\fu K H w b/\A9 a b/\vU K H Q (bV a b)
def lY (K:PySem.W.Frag):Sp:=fun vs H Q _=>∃ (q:Addr) (v:V) (xs:List V) (rows:List (R×R)) (s:R),vs=[.ref q,v]/\bh K H q xs/\bU (fu K H) xs rows/\aX rows/\RV K H v s/\ee s/\cX (.tab rows) s/\Q (.int (cz rows s)) H
theorem tM {rows:List (R×R)} (h:aX rows) {k:Nat} {r:R×R} (e:rows[k]?=some r):0≤r.1.1:=by
 obtain⟨y,ey⟩:=h.zero
 cases k with
 | zero=>rw [ey] at e;cases e;exact Int.le_refl _
 | succ k=>
  obtain⟨h1,e1⟩:=List.getElem?_eq_some_iff.mp e
  obtain⟨h2,e2⟩:=List.getElem?_eq_some_iff.mp ey
  have:=List.pairwise_iff_getElem.mp h.inc 0 (k+1) h2 h1 (Nat.succ_pos k)
  rw [e1,e2,di] at this
  have z:0 * r.1.2 < r.1.1 * 1:=this
  omega
def kD (rows:List (R×R)):R:=(rows.getD (rows.length - 1) cU).1
def ic (a b:R×R) (s:R):R:=aH a.2 (ar (bV a b) (ai s a.1))
def jP (rows:List (R×R)) (s:R):R:=if cz rows s=0 then (rows.getD 0 cU).2 else ic (rows.getD (cz rows s - 1) cU) (rows.getD (cz rows s) cU) s
def dz:Rl->R->R
 | .pow k,s=>dj s k.toNat
 | .tab rows,s=>jP rows s
def A4:Rl->R->Bool
 | .pow _,_=>false
 | .tab rows,s=>av (kD rows) s
theorem o9 {rows:List (R×R)} (h:aX rows):∃ r,rows[rows.length - 1]?=some r/\kD rows=r.1:=by
 have n:=h.n2
 have e:rows[rows.length - 1]?=some (rows[rows.length - 1]'(by omega)):=List.getElem?_eq_getElem _
 exact⟨_,e,by unfold kD;rw [bF e]⟩
theorem pL {rl:Rl} {s:R} (h:dG rl):A4 rl s=false↔cX rl s:=by
 cases rl with
 | pow k=>exact⟨fun _=>trivial,fun _=>rfl⟩
 | tab rows=>
  obtain⟨r,e,er⟩:=o9 (show aX rows from h)
  constructor
  ·intro z
   have z':av (kD rows) s=false:=z
   exact⟨r,e,by rw [← er];exact z'⟩
  ·rintro⟨r',e',z⟩
   rw [e] at e'
   cases e'
   show av (kD rows) s=false
   rw [er];exact z
theorem xn {a b:R×R} {s:R} (ok:A9 a b) (w:Wf 300 (bV a b)) (ws:Wf 98 s):Wf 197 (ai s a.1)/\Wf 497 (ar (bV a b) (ai s a.1))/\Wf 700 (ic a b s):=by
 have m:=mI ws ok.a1
 have tm:=dP w m
 exact⟨m,tm,(iZ ok.a2 tm).mono (by decide)⟩
theorem oA {rows:List (R×R)} (h:aX rows) {s:R} (hs:ee s) (hp:cz rows s=0):s=(0,1):=by
 obtain⟨y,ey⟩:=h.zero
 have c:=fh hs.bq.pos h.inc h.allP ey
 rw [hp] at c
 have c':av (0,1) s=false:=c
 rw [dX] at c'
 have z:s.1 * 1≤0 * s.2:=c'
 have nn:=hs.nn
 have e:s.1=0:=by omega
 have cop:=hs.bq.cop
 have pos:=hs.bq.pos
 rw [e] at cop
 have:s.2.natAbs=1:=by simpa [Int.gcd] using cop
 exact Prod.ext e (by omega)
def GQ:Rl->Prop
 | .pow _=>True
 | .tab rows=>vN rows
def qf (K:PySem.W.Frag):Sp:=fun vs H Q _=>∃ (v:V) (rl:Rl),vs=[v]/\m8 K H v rl/\dG rl/\(∀ k,rl=.pow k->Q .non H)/\∀ rows x,rl=.tab rows->RV K H x (kD rows)->Q x H
def kN (K:PySem.W.Frag):Sp:=fun vs H Q _=>∃ (v w:V) (rl:Rl) (s:R),vs=[v,w]/\m8 K H v rl/\dG rl/\RV K H w s/\Wf 98 s/\Q (.bl (A4 rl s)) H
def lX (K:PySem.W.Frag):Sp:=fun vs H Q _=>∃ (v w:V) (rl:Rl) (s:R),vs=[v,w]/\m8 K H v rl/\dG rl/\RV K H w s/\ee s/\cX rl s/\vU K H Q (dz rl s)
theorem oR (rows:List (R×R)) (s:R):jP rows s=gE rows s:=rfl
theorem vR:val (1,1)=1:=by decide +kernel
theorem xP (k:Int):val (k,1)=(k:Rat):=by unfold val;show (k:Rat) / ((1:Int):Rat)=k;rw [show ((1:Int):Rat)=1 from rfl];grind
theorem lf {s:R} (h:cO s) (n:Nat):cO (dj s n):=by cases n with | zero=>exact⟨by show (0:Int) < 1;decide,by show Int.gcd 1 1=1;decide⟩ | succ n=>exact dn (lf h n) h
theorem gS {s:R} (h:cO s) (n:Nat):val (dj s (n+1))=val (dj s n) * val s:=bw (lf h n).pos h.pos
theorem rC {s:R} (h:ee s):0≤val s:=by
 have:=(cc h.bq.pos (show (0:Int) < ((0,1):R).2 by decide)).mp (fL.mpr h.nn)
 have e:val (0,1)=0:=by decide +kernel
 rw [e] at this
 exact this
theorem ql {k:Int} {s o g:R} (hk:2≤k/\k≤4) (hs:ee s) (ho:ee o) (hg:0 < g.2) (hB:gj (hZ k s) (some (hZ k s)) g=true):val (dj s k.toNat)+val g * (val o - val s)≤val (dj o k.toNat):=by
 have w:=lg hk hs.wf
 unfold gj at hB
 rw [Bool.and_eq_true] at hB
 have b1:av g (hZ k s)=false:=by simpa using hB.1
 have b2:av (hZ k s) g=false:=by simpa using hB.2
 have e:val g=val (hZ k s):=Rat.le_antisymm ((cc w.pos hg).mp b2) ((cc hg w.pos).mp b1)
 have ev:val (hZ k s)=(k:Rat) * val (dj s (k - 1).toNat):=by
  unfold hZ
  rw [bw (AK hk).pos (lf hs.bq.red _).pos,xP]
 rw [e,ev]
 have sn:=rC hs
 have on:=rC ho
 have p0:∀ z:R,val (dj z 0)=1:=fun z=>vR
 have S:=fun n=>gS hs.bq.red n
 have O:=fun n=>gS ho.bq.red n
 rcases (show k=2∨k=3∨k=4 by omega) with rfl | rfl | rfl
 ·show val (dj s 2)+((2:Int):Rat) * val (dj s 1) * (val o - val s)≤val (dj o 2)
  rw [show ((2:Int):Rat)=2 from rfl,S 1,S 0,O 1,O 0,p0,p0]
  have:=qr (val o) (val s)
  grind
 ·show val (dj s 3)+((3:Int):Rat) * val (dj s 2) * (val o - val s)≤val (dj o 3)
  rw [show ((3:Int):Rat)=3 from rfl,S 2,S 1,S 0,O 2,O 1,O 0,p0,p0]
  have:=qq on sn
  grind
 ·show val (dj s 4)+((4:Int):Rat) * val (dj s 3) * (val o - val s)≤val (dj o 4)
  rw [show ((4:Int):Rat)=4 from rfl,S 3,S 2,S 1,S 0,O 3,O 2,O 1,O 0,p0,p0]
  have:=qo on sn
  grind
def oh (w:R×R):PyData:=.tuple [dR w.1,dR w.2]
theorem fu.deep {K:PySem.W.Frag} {H:Hp} {v:V} {w:R×R} (h:fu K H v w):cI K H v (oh w):=by
 obtain⟨p,x,y,rfl,hS,hx,hy⟩:=h
 exact .tup hS (.cons hx.deep (.cons hy.deep .nil))
def Bk:Rl->PyData
 | .pow k=>.tuple [.str "power", .int k]
 | .tab rows=>.tuple [.str "table", .tuple (rows.map oh)]
theorem m8.deep {K:PySem.W.Frag} {H:Hp} {v:V}:∀ {rl:Rl},m8 K H v rl->cI K H v (Bk rl)
 | .pow k,h=>by
  obtain⟨p,rfl,hS⟩:=h
  exact .tup hS (.cons (.str _) (.cons (.int _) .nil))
 | .tab rows,h=>by
  obtain⟨p,q,xs,rfl,hS,hq,al⟩:=h
  exact .tup hS (.cons (.str _) (.cons (.tup hq (al.deep fun v d z=>fu.deep z)) .nil))
theorem oI {x:Str} (h:(PyData.str x).showable=true) (l:(PyData.str x).shown.length≤8):Sh 0 8 (.str x):=⟨h,rfl,Nat.le_refl 0,l⟩
theorem sg {w:R×R} (h1:Wf 1000 w.1) (h2:Wf 1000 w.2):Sh 2 10020 (oh w):=by
 refine Sh.tup (k:=1) (n:=5000) (m:=2) (fun d hd=>?_) (Nat.le_refl _) (by decide)
 simp only [List.mem_cons,List.not_mem_nil,or_false] at hd
 rcases hd with rfl | rfl
 ·exact yc h1 (by decide)
 ·exact yc h2 (by decide)
theorem yQ {rows:List (R×R)} (h:∀ w∈rows,Wf 1000 w.1/\Wf 1000 w.2) (hl:rows.length≤12):Sh 4 250000 (Bk (.tab rows)):=by
 have a:Sh 3 121000 (.tuple (rows.map oh)):=by
  refine Sh.tup (k:=2) (n:=10020) (m:=12) (fun d hd=>?_) (by rw [List.length_map];exact hl) (by decide)
  obtain⟨w,hw,rfl⟩:=List.mem_map.mp hd
  exact sg (h w hw).1 (h w hw).2
 refine Sh.tup (k:=3) (n:=121000) (m:=2) (fun d hd=>?_) (Nat.le_refl _) (by decide)
 simp only [List.mem_cons,List.not_mem_nil,or_false] at hd
 rcases hd with rfl | rfl
 ·exact (oI (by decide +kernel) (by decide +kernel)).mono (by decide) (by decide)
 ·exact a
theorem BN {rl:Rl} (ok:dG rl):Sh 4 250000 (Bk rl):=by
 cases rl with
 | pow k=>
  have h':2≤k/\k≤4:=ok
  have hk:k=2∨k=3∨k=4:=by omega
  refine Sh.tup (k:=3) (n:=121000) (m:=2) (fun d hd=>?_) (Nat.le_refl _) (by decide)
  simp only [List.mem_cons,List.not_mem_nil,or_false] at hd
  rcases hd with rfl | rfl
  ·exact (oI (by decide +kernel) (by decide +kernel)).mono (by decide) (by decide)
  ·rcases hk with rfl | rfl | rfl
   all_goals exact⟨rfl,rfl,Nat.zero_le _,Nat.le_trans (by decide +kernel:_≤8) (by decide)⟩
 | tab rows=>
  have h':aX rows:=ok
  exact yQ (fun w hw=>⟨(yL (h'.sp w hw)).mono (by decide),(Dq (h'.pw w hw)).mono (by decide)⟩) h'.n12
abbrev Wk:=Nat×Nat×R
def vM (K:PySem.W.Frag) (H:Hp) (v:V) (w:Wk):Prop:=∃ p x,v=.ref p/\bh K H p [.int w.1,.int w.2.1,x]/\RV K H x w.2.2
theorem vM.mono {K:PySem.W.Frag} {H H':Hp} {v:V} {w:Wk} (h:vM K H v w) (t:au K H H'):vM K H' v w:=let ⟨p,x,e,s,r⟩:=h;⟨p,x,e,t _ _ s,r.mono t⟩
instance:ip vM:=⟨fun t q=>q.mono t⟩
structure Bh (r:R):Prop where
 top:1≤r.1
 top':r.1≤12
 bot:1≤r.2
 bot':r.2≤7
 dvd:r.2∣84
 wf:Wf 4 r
structure jU (w:Wk):Prop where
 le:w.1≤w.2.1
 lt:w.2.1 < 24
 am:Bh w.2.2
def jT (K:PySem.W.Frag) (H:Hp) (v:V) (ws:List Wk):Prop:=∃ p xs,v=.ref p/\bh K H p xs/\bU (vM K H) xs ws
theorem jT.mono {K:PySem.W.Frag} {H H':Hp} {v:V} {ws:List Wk} (h:jT K H v ws) (t:au K H H'):jT K H' v ws:=let ⟨p,xs,e,s,a⟩:=h;⟨p,xs,e,t _ _ s,a.mono fun _ _ q=>q.mono t⟩
theorem xE {a b:Int} (h1:1≤a) (h2:a≤12) (h3:1≤b) (h4:b≤7) (h5:b∣84):Bh (df a b):=by
 have g0:0 < (Int.gcd a b:Int):=bI (by omega)
 have da:(Int.gcd a b:Int)∣a:=Int.gcd_dvd_left a b
 have db:(Int.gcd a b:Int)∣b:=Int.gcd_dvd_right a b
 have p1:0 < a / (Int.gcd a b:Int):=Int.ediv_pos_of_pos_of_dvd (by omega) (Int.le_of_lt g0) da
 have p2:0 < b / (Int.gcd a b:Int):=Int.ediv_pos_of_pos_of_dvd (by omega) (Int.le_of_lt g0) db
 have q1:a / (Int.gcd a b:Int)≤a:=Int.ediv_le_self _ (by omega)
 have q2:b / (Int.gcd a b:Int)≤b:=Int.ediv_le_self _ (by omega)
 refine⟨p1,by show a / (Int.gcd a b:Int)≤12;omega,p2,by show b / (Int.gcd a b:Int)≤7;omega,Int.dvd_trans ?_ h5,gO (by omega) (by show a.natAbs < 16;omega) (by show b.natAbs < 16;omega)⟩
 exact⟨(Int.gcd a b:Int),(Int.ediv_mul_cancel db).symm⟩
def lK (w:Wk) (t:Nat):Bool:=decide (w.1≤t) && decide (t≤w.2.1)
def kO (K:PySem.W.Frag):Sp:=fun vs H Q _=>∃ (v:V) (w:Wk) (t:Nat),vs=[v,.int t]/\vM K H v w/\Q (.bl (lK w t)) H
theorem kQ {i:Int} (h:i.natAbs < 2 ^ 100):Sh 0 2000 (.int i):=by
 refine⟨?_,rfl,Nat.le_refl _,Nat.le_trans (jB h (by decide)) (by decide)⟩
 show decide (i.natAbs.log2 < 1920)=true
 refine decide_eq_true ?_
 by_cases z:i.natAbs=0
 ·rw [z];decide
 ·exact Nat.lt_of_lt_of_le ((Nat.log2_lt z).mpr h) (by decide)
def D5 (w:Wk):PyData:=.tuple [.int w.1,.int w.2.1,dR w.2.2]
def xD (ws:List Wk):PyData:=.tuple (ws.map D5)
theorem vM.deep {K:PySem.W.Frag} {H:Hp} {v:V} {w:Wk} (h:vM K H v w):cI K H v (D5 w):=by
 obtain⟨p,x,rfl,hS,rx⟩:=h
 exact .tup hS (.cons (.int _) (.cons (.int _) (.cons rx.deep .nil)))
theorem jT.deep {K:PySem.W.Frag} {H:Hp} {v:V} {ws:List Wk} (h:jT K H v ws):cI K H v (xD ws):=by
 obtain⟨p,xs,rfl,hS,al⟩:=h
 exact .tup hS (al.deep fun _ _ q=>q.deep)
theorem j8 {n:Nat} (h:n < 24):((n:Int)).natAbs < 2 ^ 100:=by
 have:(2:Nat) ^ 100=1267650600228229401496703205376:=by decide
 omega
theorem yR {w:Wk} (h:jU w):Sh 2 20000 (D5 w):=by
 have o:=h.am
 have big:(2:Nat) ^ 100=1267650600228229401496703205376:=by decide
 have l1:=h.le
 have l2:=h.lt
 have t1:=o.top
 have t2:=o.top'
 have b1:=o.bot
 have b2:=o.bot'
 refine Sh.tup (k:=1) (n:=6100) (m:=3) (fun d hd=>?_) (Nat.le_refl _) (by decide)
 simp only [List.mem_cons,List.not_mem_nil,or_false] at hd
 rcases hd with rfl | rfl | rfl
 ·exact (kQ (j8 (by omega))).mono (by decide) (by decide)
 ·exact (kQ (j8 (by omega))).mono (by decide) (by decide)
 ·refine Sh.tup (k:=0) (n:=2000) (m:=2) (fun d hd=>?_) (Nat.le_refl _) (by decide)
  simp only [List.mem_cons,List.not_mem_nil,or_false] at hd
  rcases hd with rfl | rfl
  ·exact kQ (by omega)
  ·exact kQ (by omega)
def kH (K:PySem.W.Frag):Sp:=fun vs H Q _=>∃ (t s:Addr) (m:Nat),vs=[.ref t,.int m]/\bG K H t s/\m≤64/\∀ (v:V) (ws:List Wk) (H':Hp),bo t H H'->bG K H' t s->jT K H' v ws->ws.length=m->(∀ w∈ws,jU w)->Q v H'
def kJ (K:PySem.W.Frag):Sp:=fun vs H Q _=>∃ (v w:V) (rl:Rl) (s:R),vs=[v,w]/\m8 K H v rl/\dG rl/\RV K H w s/\ee s/\cX rl s/\vU K H Q (dz rl s)
theorem uP {a b:R×R} {s:R} (a0:cO a.1) (a1:cO a.2) (b0:cO b.1) (b1:cO b.2) (hs:cO s) (h:0 < (ai b.1 a.1).1):aH a.2 (ar (ar (ai b.2 a.2) (ai s a.1)) ((ai b.1 a.1).2,(ai b.1 a.1).1))=ic a b s:=by
 have m1:=cH b0.pos a0.pos
 have m2:=cH b1.pos a1.pos
 have m3:=cH hs.pos a0.pos
 have ne:(ai b.1 a.1).1≠0:=by omega
 have t1:cO (ar (ai b.2 a.2) (ai s a.1)):=cB (Int.mul_pos m2.pos m3.pos)
 have iv:0 < (((ai b.1 a.1).2,(ai b.1 a.1).1):R).2:=h
 have t2:cO (ar (ar (ai b.2 a.2) (ai s a.1)) ((ai b.1 a.1).2,(ai b.1 a.1).1)):=cB (Int.mul_pos t1.pos iv)
 have so:cO (bV a b):=h8 m2.pos ne
 have t3:cO (ar (bV a b) (ai s a.1)):=cB (Int.mul_pos so.pos m3.pos)
 unfold ic
 refine eu (cB (Int.mul_pos a1.pos t2.pos)) (cB (Int.mul_pos a1.pos t3.pos)) ?_
 rw [bA a1.pos t2.pos,bA a1.pos t3.pos,bw t1.pos iv,bw m2.pos m3.pos,bw so.pos m3.pos]
 unfold bV
 rw [gT m2.pos m1.pos ne]
 have e:val (((ai b.1 a.1).2,(ai b.1 a.1).1):R)=1 / val (ai b.1 a.1):=by
  unfold val
  have x1:=cj m1.pos
  have x2:=cj h
  grind
 rw [e]
 have vz:val (ai b.1 a.1)≠0:=fun z=>ne ((gR m1.pos).mp z)
 grind
theorem xF {K:PySem.W.Frag} {H:Hp} {xs:List V} {rs:List R} (h:bU (RV K H) xs rs):Di K H xs rs:=⟨h.len,fun i x r hx hr=>by obtain⟨d,hd,p⟩:=h.at hx;rw [hr] at hd;cases hd;exact p⟩
theorem bU.rep {α:Type} {P:V->α->Prop} {v:V} {d:α} (k:P v d):∀ n:Nat,bU P (List.replicate n v) (List.replicate n d)
 | 0=>.nil
 | n+1=>.cons k (bU.rep k n)
theorem xx {n t:Nat} (h:t < n):uV n (t:Int)=some t:=by
 unfold uV
 simp
 omega
def dE (ls:List Nat):List V:=ls.map fun n:Nat=>V.int n
theorem lu:gc "int" "tuple" = some false:=by decide +kernel
theorem mM:gc "int" "list" = some false:=by decide +kernel
theorem nX:gc "int" "str" = some false:=by decide +kernel
theorem iN:gc "int" "bool" = some false:=by decide +kernel
theorem nY:gc "int" "int" = some true:=by decide +kernel
theorem eU:gc "tuple" "tuple" = some true:=by decide +kernel
theorem gF:gc "tuple" "list" = some false:=by decide +kernel
def pU:Wk:=(0,0,(0,1))
def nA (K:PySem.W.Frag):Sp:=fun vs H Q _=>∃ (a:Addr) (xs:List V) (rs:List R) (D N n:Nat),vs=[.ref a]/\aW K H a xs/\bU (RV K H) xs rs/\(∀ r∈rs,Bq D N r)/\0 < D/\D < 2 ^ n/\N * 64 * D < 2 ^ n/\rs.length≤64/\n≤1400/\vU K H Q (eY rs)
def Gg (K:PySem.W.Frag) (H:Hp) (a:Addr) (xs:List V):Prop:=aW K H a xs∨bh K H a xs
def rQ (K:PySem.W.Frag):Sp:=fun vs H Q _=>∃ (a:Addr) (xs:List V) (rs:List R) (n D:Nat),vs=[.ref a]/\Gg K H a xs/\Di K H xs rs/\(∀ r∈rs,Wf n r/\r.2∣(D:Int))/\0 < D/\D < 2 ^ n/\rs.length≤64/\n≤900/\∀ (v':V) (H':Hp),aO H H'->RV K H' v' (eY rs)->Q v' H'
theorem xG {D i n:Nat} {ps:List (Int×Int)} {r:R} (h:∀ p∈ps,p.1∣(D:Int)) (hr:r.2∣(D:Int)):∀ p∈fB ps r.2 r.1,p.1∣(D:Int):=fun p hp=>by
 rcases (io ps r.2 r.1 p.1).mp (List.mem_map.mpr ⟨p,hp,rfl⟩) with z | z
 ·obtain⟨q,hq,e⟩:=List.mem_map.mp z
  rw [← e]
  exact h q hq
 ·rw [z];exact hr
theorem AN {D n i:Nat} {ps:List (Int×Int)} (ok:iS n i ps) (hd:∀ p∈ps,p.1∣(D:Int)) (hi:i≤64) {q:Int×Int} (hq:q∈ps):Bq D (64 * 2 ^ n) (df q.2 q.1):=by
 have b:=(ok.bot q hq).1
 refine iQ b (hd q hq) (Nat.le_trans (ok.top q hq) ?_)
 refine Nat.le_trans (Nat.mul_le_mul_right _ hi) (Nat.le_mul_of_pos_right _ (by omega))
theorem A7 {D n j:Nat} {r:R} (h:Bq D (64 * 2 ^ n * j) r) (hj:j≤64) (h0:0 < D) (hD:D < 2 ^ n):Wf (2 * n+12) r:=by
 refine h.wf h0 (Nat.lt_of_lt_of_le hD (Nat.pow_le_pow_right (by decide) (by omega))) ?_
 have a:64 * 2 ^ n * j≤64 * 2 ^ n * 64:=Nat.mul_le_mul_left _ hj
 have b:64 * 2 ^ n * j * D < 64 * 2 ^ n * 64 * 2 ^ n:=Nat.lt_of_le_of_lt (Nat.mul_le_mul_right _ a) (Nat.mul_lt_mul_of_pos_left hD (Nat.mul_pos (Nat.mul_pos (by decide) (Nat.pow_pos (by decide))) (by decide)))
 refine Nat.lt_of_lt_of_le b ?_
 rw [show 2 * n+12=n+(n+12) by omega,Nat.pow_add,Nat.pow_add,show (2:Nat) ^ 12=4096 by decide]
 rw [show 64 * 2 ^ n * 64 * 2 ^ n=2 ^ n * (2 ^ n * 4096) by rw [show (4096:Nat)=64 * 64 by decide];ac_rfl]
 exact Nat.le_refl _
theorem vy {r:R} (h:Bh r):Bq 84 12 r:=by
 have a:=h.top
 have b:=h.top'
 have c:=h.bot
 refine⟨by omega,h.wf.cop,h.dvd,?_⟩
 have:12 * 1≤12 * r.2.natAbs:=Nat.mul_le_mul_left _ (by omega)
 omega
theorem rO {D N:Nat} (hD:0 < D):∀ {rs:List R},(∀ r∈rs,Bq D N r)->∀ {a:R} {M:Nat},Bq D M a->Bq D (M+N * rs.length) (rs.foldl aH a)
 | [],_,a,M,h=>by simpa using h
 | r :: rs,hr,a,M,h=>by
  have:=rO hD (fun q hq=>hr q (List.mem_cons_of_mem _ hq)) (h.plus hD (hr r List.mem_cons_self))
  rw [List.foldl_cons,List.length_cons,Nat.mul_succ]
  refine this.mono (Nat.dvd_refl _) (by omega)
theorem D6 {D:Nat}:Bq D 0 ((0,1):R):=⟨by decide,by decide,⟨(D:Int),by show (D:Int)=1 * D;omega⟩,by show 0≤_;exact Nat.zero_le _⟩
theorem kG {D N:Nat} (hD:0 < D) {rs:List R} (h:∀ r∈rs,Bq D N r):Bq D (N * rs.length) (eY rs):=by
 have:=rO hD h (D6 (D:=D))
 rw [Nat.zero_add] at this
 exact this
theorem vX {D N n:Nat} {rs:List R} (h:∀ r∈rs,Bq D N r) (h0:0 < D) (h1:D < 2 ^ n) (h2:N * 64 * D < 2 ^ n) (hl:rs.length≤64):Wf n (eY rs):=
 (kG h0 h).wf h0 h1 (Nat.lt_of_le_of_lt (Nat.mul_le_mul_right _ (Nat.mul_le_mul_left _ hl)) h2)
theorem AX {D N n:Nat} {r:R} (h:Bq D N r) (h0:0 < D) (h1:D < 2 ^ n) (h2:N * 64 * D < 2 ^ n):Wf n r:=
 h.wf h0 h1 (Nat.lt_of_le_of_lt (Nat.mul_le_mul_right _ (Nat.le_mul_of_pos_right _ (by decide))) h2)
theorem AT {H:Hp} {x d:Addr} (n:d≠x):yG H x d=H d:=by unfold yG;rw [if_neg n]
def jM (K:PySem.W.Frag):Sp:=fun vs H Q _=>∃ (a:Addr) (xs:List V) (rs:List R),vs=[.ref a]/\aW K H a xs/\bU (RV K H) xs rs/\(∀ r∈rs,Wf 98 r)/\rs.length≤20/\∀ (l:Addr) (ys:List V) (zs:List R) (H':Hp),aO H H'->H l=none->H' l=some (.lst ys)->bU (RV K H') ys zs->zs.length≤rs.length->Bl zs->(∀ z∈zs,z∈rs)->Q (.ref l) H'
def vL (H:Hp) (t D:Addr):Hp:=yG (yG H t) D
theorem AM {t D p:Addr} {H:Hp} {o:HO} (g:H p=none) (h:∃ xs,H t=some (.lst xs)) (h2:∃ ys,H D=some (.lst ys)):vL (ax H p o) t D p=some o:=by
 unfold vL
 rw [AT (show p≠D from fun z=>by subst z;obtain⟨_,q⟩:=h2;rw [g] at q;cases q)]
 exact AR g h
theorem F6 {t D p:Addr} {H:Hp} {o:HO} (g:H p=none) (h:∃ xs,H t=some (.lst xs)) (h2:∃ ys,H D=some (.lst ys)):aO H (ax H p o)/\ax H p o p=some o/\vL (ax H p o) t D p=some o:=⟨aj g o,ah,AM g h h2⟩
theorem j6 {t p:Addr} {H:Hp} (g:H p=none) (h:∃ xs,H t=some (.lst xs)):p≠t:=fun z=>by subst z;obtain⟨_,q⟩:=h;rw [g] at q;cases q
theorem tS {K:PySem.W.Frag} {H H':Hp} (e:aO H H') {p:Addr} {xs:List V} (h:bh K H p xs):bh K H' p xs:=au.same e _ _ h
theorem tP {K:PySem.W.Frag} {t:Addr} {H H':Hp} (e:bo t H H') {p:Addr} {xs:List V} (h:bh K H p xs):bh K H' p xs:=au.step e _ _ h
theorem eE {t D p:Addr} {H H':Hp} {o:HO} (e:ax H p o=H') (g:H p=none) (h:∃ xs,H t=some (.lst xs)) (h2:∃ ys,H D=some (.lst ys)):aO H H'/\H' p=some o/\vL H' t D p=some o:=e ▸ F6 g h h2
theorem d9 {K:PySem.W.Frag} {t s D:Addr} {H0 H H':Hp} (e:aO H H') (S:bo t H0 H) (T:bG K H t s) (h:∃ ys,H D=some (.lst ys)):bo t H0 H'/\bG K H' t s/\∃ ys,H' D=some (.lst ys):=⟨S.trans (.same e T.lst),T.same e,h.imp fun _ q=>e _ _ q⟩
abbrev l8:=rR
abbrev mf:=rV
def me (_:PySem.W.Frag):Sp:=fun vs H Q _=>∃ a b:Int,vs=[.int a,.int b]/\0 < b/\b.natAbs < 2 ^ 4000/\qA H Q (df a b)
abbrev nC:=oH
abbrev nB:=lW
def xL (r:R):Prop:=Bq 6 5 r
theorem xL.wf {r:R} (h:xL r):Wf 98 r:=Bq.wf h (by decide) (by decide) (by decide)
theorem eV {a b:Int} (hb:0 < b) (hd:b∣((6:Nat):Int)) (hl:a.natAbs≤5 * b.natAbs) (g:Int.gcd a b=1):xL ((a,b):R):=by
 have:=iQ (D:=6) (N:=5) hb hd hl
 rw [cG hb hb g rfl] at this
 exact this
def m9:Rl->Prop
 | .pow _=>True
 | .tab rows=>∀ r∈rows,Bq 360 6 r.1/\Bq 2160 2522 r.2
def Dg (rows:List (R×R)):Prop:=∀ k,k+1 < rows.length->Bq 6 21 (fx rows k)/\0≤(fx rows k).1
def na:Rl->Prop
 | .pow _=>True
 | .tab rows=>vN rows/\Dg rows
def xI (rows:List (R×R)) (sl:R):Prop:=Cv rows (val sl)/\Dg rows
theorem v7 (w:R×R) (sl:R):xI [w] sl:=⟨AV w _,fun k h=>by simp at h⟩
theorem xI.up {rows:List (R×R)} {a b:R} (h:xI rows a) (l:val a≤val b):xI rows b:=⟨h.1.up l,h.2⟩
theorem jc {w:R}:val ((-w.1,w.2):R)=- val w:=by
 unfold val
 show ((-w.1:Int):Rat) / (w.2:Rat)=-((w.1:Rat) / (w.2:Rat))
 rw [Rat.intCast_neg,Rat.div_def,Rat.div_def,Rat.neg_mul]
theorem gN {w:R} (h:cO w):cO ((-w.1,w.2):R):=⟨h.pos,by show Int.gcd (-w.1) w.2=1;rw [Int.neg_gcd];exact h.cop⟩
theorem jd {r:R} (hr:0 < r.2):0≤val r↔0≤r.1:=by
 have a:=cc hr (show (0:Int) < ((0,1):R).2 by decide)
 rw [eI] at a
 rw [← a]
 exact fL
theorem qd {w z:R} (hw:cO w) (hz:cO z):aH w (aH z (-w.1,w.2))=z:=by
 have nr:=gN hw
 refine eu (cR hw (cR hz nr)) hz ?_
 rw [bA hw.pos (cR hz nr).pos,bA hz.pos nr.pos,jc]
 grind
theorem v6 {rows:List (R×R)} {w:R×R} {j:Nat} (h:j+1 < rows.length):fx (rows++[w]) j=fx rows j:=by
 have g:∀ i,i < rows.length->(rows++[w]).getD i cU=rows.getD i cU:=fun i hi=>by
  rw [List.getD_eq_getElem?_getD,List.getD_eq_getElem?_getD,List.getElem?_append_left hi]
 unfold fx
 rw [g j (by omega),g (j+1) h]
theorem rP {w z:R} (hw:cO w) (hz:cO z) (lt:av w z=true):0 < (aH z (-w.1,w.2)).1:=by
 have l:=(dA hw.pos hz.pos).mp lt
 have pr:=cR hz (gN hw)
 have e:val (aH z (-w.1,w.2))=val z - val w:=by rw [bA hz.pos (gN hw).pos,jc];grind
 have g:0≤(aH z (-w.1,w.2)).1:=(jd pr.pos).mp (by rw [e];grind)
 have ne:(aH z (-w.1,w.2)).1≠0:=fun q=>by
  have:=(gR pr.pos).mpr q
  rw [e] at this
  grind
 omega
theorem xI.snoc {rows:List (R×R)} {i:Nat} {w:R×R} {slo z:R} (hl:rows.length=i+1) (hw:rows[i]?=some w) (h:xI rows slo) (w1:cO w.1) (w2:cO w.2) (bs:Bq 6 21 slo) (ns:0≤slo.1) (hz:cO z) (lt:av w.1 z=true) :
  xI (rows++[(z,aH w.2 (ar slo (aH z (-w.1.1,w.1.2))))]) slo:=by
 have st:=cR hz (gN w1)
 have hp:=rP w1 hz lt
 have c:=Cv.snoc hl hw h.1 w1.pos w2.pos bs.red st hp
 rw [qd w1 hz] at c
 refine⟨c,fun k hk=>?_⟩
 by_cases e:k+1 < rows.length
 ·rw [v6 e];exact h.2 k e
 ·have ek:k=i:=by rw [List.length_append] at hk;have hk':k+1 < rows.length+1:=hk;omega
  subst ek
  have tr:=dn bs.red st
  have g1:(rows++[(z,aH w.2 (ar slo (aH z (-w.1.1,w.1.2))))])[k]?=some w:=by rw [List.getElem?_append_left (by omega)];exact hw
  have g2:(rows++[(z,aH w.2 (ar slo (aH z (-w.1.1,w.1.2))))])[k+1]?=some (z,aH w.2 (ar slo (aH z (-w.1.1,w.1.2)))):=by
   rw [List.getElem?_append_right (by omega),show k+1 - rows.length=0 by omega];rfl
  have ne:=mJ hz w1 lt
  have m1:=cH (cR w2 tr).pos w2.pos
  have m2:=cH hz.pos w1.pos
  have e:fx (rows++[(z,aH w.2 (ar slo (aH z (-w.1.1,w.1.2))))]) k=slo:=by
   rw [jk g1 g2]
   unfold bV
   refine eu (h8 m1.pos ne) bs.red ?_
   show val (fO (ai (aH w.2 (ar slo (aH z (-w.1.1,w.1.2)))) w.2) (ai z w.1))=val slo
   have vs:val (aH z (-w.1.1,w.1.2))=val z - val w.1:=by rw [bA hz.pos (gN w1).pos,jc];grind
   rw [gT m1.pos m2.pos ne,dm (cR w2 tr).pos w2.pos,dm hz.pos w1.pos,bA w2.pos tr.pos,bw bs.pos st.pos,vs]
   have:=(dA w1.pos hz.pos).mp lt
   generalize val slo=u at *
   generalize val z=v at *
   generalize val w.1=a at *
   generalize val w.2=b at *
   have:v - a≠0:=by grind
   grind
  rw [e]
  exact⟨bs,ns⟩
theorem ol {D N:Nat} {s:R} (h:Bq D N s):∀ n,Bq (D ^ n) (N ^ n) (dj s n)
 | 0=>⟨by show (0:Int) < 1;decide,by show Int.gcd 1 1=1;decide,⟨1,rfl⟩,by show 1≤1 * 1;decide⟩
 | n+1=>by
  rw [Nat.pow_succ,Nat.pow_succ]
  exact Bq.times (ol h n) h
theorem DV {k:Int} (h:2≤k/\k≤4):Bq 1 4 ((k,1):R):=⟨by show (0:Int) < 1;decide,by show Int.gcd k 1=1;simp,⟨1,rfl⟩,by show k.natAbs≤4 * 1;omega⟩
theorem se {rl:Rl} {s:R} (ok:dG rl) (rk:na rl) (h6:Bq 360 6 s) (hs:ee s) (hb:cX rl s):Bq 46656000 864 (bL rl s).1/\∀ x,(bL rl s).2=some x->Bq 46656000 864 x/\val (bL rl s).1≤val x:=by
 cases rl with
 | pow k=>
  have ok':2≤k/\k≤4:=ok
  have b:Bq 46656000 864 (hZ k s):=by
   have h:=Bq.times (DV ok') (ol h6 (k - 1).toNat)
   rcases (show k=2∨k=3∨k=4 by omega) with rfl | rfl | rfl
   ·exact h.mono (by decide) (by decide)
   ·exact h.mono (by decide) (by decide)
   ·exact h.mono (by decide) (by decide)
  exact⟨b,fun x e=>by cases e;exact⟨b,Rat.le_refl⟩⟩
 | tab rows=>
  have ok':aX rows:=ok
  obtain⟨cv,sq⟩:vN rows/\Dg rows:=rk
  have n2:=ok'.n2
  have pl:=ok'.p_lt hs.bq.pos hb
  have qp:=ok'.q_pos hs.bq.pos hs.nn
  have mono:∀ {r:R},Bq 6 21 r->Bq 46656000 864 r:=fun h=>h.mono (by decide) (by decide)
  have pq:cz rows s≤fc rows s:=by
   obtain⟨r,e⟩:∃ r,rows[cz rows s]?=some r:=⟨_,List.getElem?_eq_getElem pl⟩
   obtain⟨q1,q2⟩:=ok'.pq hs.bq.pos hs.nn pl e
   cases c:av s r.1 with
   | true=>have:=(q1 c).2;omega
   | false=>have:=q2 c;omega
  refine⟨?_,fun x e=>?_⟩
  ·show Bq 46656000 864 (dY rows s)
   unfold dY
   split
   ·exact⟨by decide,by decide,by decide,by decide⟩
   ·exact mono (sq _ (by omega)).1
  ·have e':cZ rows s=some x:=e
   unfold cZ at e'
   split at e'
   ·rename_i hq
    cases e'
    have sk:=sq (fc rows s - 1) (by omega)
    refine⟨mono sk.1,?_⟩
    show val (dY rows s)≤_
    unfold dY
    split
    ·rw [eI];exact (jd sk.1.pos).mpr sk.2
    ·rw [iW ok' (by omega),iW ok' (by omega)]
     have:=iz cv.of (i:=cz rows s - 1) (fc rows s - cz rows s) (by omega)
     rw [show cz rows s - 1+(fc rows s - cz rows s)=fc rows s - 1 by omega] at this
     exact this
   ·cases e'
theorem kn {rl:Rl} {s o g:R} (ok:dG rl) (rk:na rl) (hs:ee s) (hb:cX rl s) (ho:ee o) (hbo:cX rl o) (hg:0 < g.2) (hB:gj (bL rl s).1 (bL rl s).2 g=true):val (dz rl s)+val g * (val o - val s)≤val (dz rl o):=by
 cases rl with
 | pow k=>exact ql ok hs ho hg hB
 | tab rows=>
  show val (jP rows s)+_≤val (jP rows o)
  rw [oR,oR]
  exact qa ok rk.1 hs hb ho hbo hg (sd ok hs hb).1 hB
theorem eD {rl:Rl} {s:R} (ok:dG rl) (rk:na rl) (sm:m9 rl) (h6:Bq 360 6 s) (hs:ee s) (hb:cX rl s):Bq 16796160000 3000 (dz rl s):=by
 cases rl with
 | pow k=>
  have ok':2≤k/\k≤4:=ok
  show Bq 16796160000 3000 (dj s k.toNat)
  have h:=ol h6 k.toNat
  rcases (show k=2∨k=3∨k=4 by omega) with rfl | rfl | rfl
  ·exact h.mono (by decide) (by decide)
  ·exact h.mono (by decide) (by decide)
  ·exact h.mono (by decide) (by decide)
 | tab rows=>
  have ok':aX rows:=ok
  obtain⟨cv,sq⟩:vN rows/\Dg rows:=rk
  have n2:=ok'.n2
  have pl:=ok'.p_lt hs.bq.pos hb
  show Bq 16796160000 3000 (jP rows s)
  unfold jP
  split
  ·obtain⟨r,e⟩:∃ r,rows[0]?=some r:=⟨_,List.getElem?_eq_getElem (by omega)⟩
   rw [bF e]
   exact (sm r (List.mem_of_getElem? e)).2.mono (by decide) (by decide)
  ·rename_i c0
   obtain⟨a,ea⟩:∃ a,rows[cz rows s - 1]?=some a:=⟨_,List.getElem?_eq_getElem (by omega)⟩
   obtain⟨b,eb⟩:∃ b,rows[cz rows s]?=some b:=⟨_,List.getElem?_eq_getElem pl⟩
   have eb':rows[cz rows s - 1+1]?=some b:=by rw [Nat.sub_add_cancel (by omega)];exact eb
   have sk:=(sq (cz rows s - 1) (by omega)).1
   rw [jk ea eb'] at sk
   rw [bF ea,bF eb]
   unfold ic
   have ma:=sm a (List.mem_of_getElem? ea)
   have m:=Bq.minus (D:=360) (by decide) h6 ma.1
   have t:=(Bq.times sk m).mono (D':=2160) (N':=252) (by decide) (by decide)
   exact (Bq.plus (by decide) ma.2 t).mono (by decide) (by decide)
def l9 (K:PySem.W.Frag):Sp:=fun vs H Q _=>∃ (t s kl:Addr) (xk:List V) (v:V) (ks:List R) (rm:R),vs=[.ref t,.ref kl,v]/\bG K H t s/\kl≠t/\H kl=some (.lst xk)/\bU (RV K H) xk ks/\(∀ r∈ks,xL r)/\ks.length≤4/\RV K H v rm/\xL rm/\0≤rm.1/\∀ (u:V) (rl:Rl) (H':Hp),bo t H H'->bG K H' t s->m8 K H' u rl->dG rl->m9 rl->na rl->Q u H'
def vC (K:PySem.W.Frag) (H:Hp) (v:V) (w:R×R×R):Prop:=∃ p x y z,v=.ref p/\bh K H p [x,y,z]/\RV K H x w.1/\RV K H y w.2.1/\RV K H z w.2.2
theorem vC.mono {K:PySem.W.Frag} {H H':Hp} {v:V} {w:R×R×R} (h:vC K H v w) (t:au K H H'):vC K H' v w:=let ⟨p,x,y,z,e,s,a,b,c⟩:=h;⟨p,x,y,z,e,t _ _ s,a.mono t,b.mono t,c.mono t⟩
def dD (rows:List (R×R)) (k:Nat):R×R×R:=((rows.getD k cU).1,(rows.getD (k+1) cU).1,fx rows k)
theorem fX {r q:R}:aH r (-q.1,q.2)=ai r q:=by
 unfold aH ai
 congr 1
 show r.1 * q.2+-q.1 * r.2=r.1 * q.2 - q.1 * r.2
 rw [Int.neg_mul]
 rfl
theorem pY {r q:R} (hr:0 < r.2) (hq:0 < q.1):ar r (q.2,q.1)=fO r q:=by
 unfold ar fO i6
 rw [if_neg (by have:=Int.mul_pos hr hq;omega)]
def jL (K:PySem.W.Frag):Sp:=fun vs H Q _=>∃ (v w:V) (rl:Rl) (s:R),vs=[v,w]/\m8 K H v rl/\dG rl/\RV K H w s/\ee s/\cX rl s/\∀ (v':V) (H':Hp),aO H H'->Ed K H' v' (bL rl s)->Q v' H'
theorem xC (p m:Nat) (h:p≤m):(List.range m).filter (fun k=>decide (k < p))=List.range p:=by
 obtain⟨d,rfl⟩:=Nat.exists_eq_add_of_le h
 induction d with
 | zero=>exact List.filter_eq_self.mpr fun k hk=>decide_eq_true (by have:=List.mem_range.mp hk;omega)
 | succ d ih=>rw [← Nat.add_assoc,List.range_succ,List.filter_append,ih (by omega),List.filter_cons,if_neg (by rw [decide_eq_true_iff];omega),List.filter_nil,List.append_nil]
theorem lx (q m:Nat) (h:q < m):((List.range m).filter (fun k=>decide (q≤k))).head?=some q:=by
 rw [List.head?_filter,List.find?_range_eq_some]
 exact⟨decide_eq_true (Nat.le_refl _),List.mem_range.mpr h,fun j hj=>by rw [decide_eq_false (by omega)];rfl⟩
theorem mS (q m:Nat) (h:m≤q):(List.range m).filter (fun k=>decide (q≤k))=[]:=by
 rw [List.filter_eq_nil_iff]
 intro k hk
 have:=List.mem_range.mp hk
 rw [decide_eq_true_iff]
 omega
def kI (K:PySem.W.Frag):Sp:=fun vs H Q _=>∃ (t s:Addr) (v w:V) (rl:Rl) (z:R),vs=[.ref t,v,w]/\bG K H t s/\m8 K H v rl/\dG rl/\m9 rl/\na rl/\RV K H w z/\ee z/\Bq 360 6 z/\cX rl z/\∀ (u:V) (g:R) (H':Hp),bo t H H'->bG K H' t s->fu K H' u (z,g)->gj (bL rl z).1 (bL rl z).2 g=true->Bq 279936000 2592 g->Q u H'
def ow (z:R):Prop:=Bq 360 6 z/\0≤z.1
theorem ow.ok {z:R} (h:ow z):ee z:=⟨h.1.mono ⟨16174233075000000 * 2,by decide⟩ (by decide),h.2⟩
theorem ow.wf {z:R} (h:ow z):Wf 98 z:=h.1.wf (by decide) (by decide) (by decide)
theorem e8 {a b:Int} (hb:0 < b) (hd:b∣((360:Nat):Int)) (hl:a.natAbs≤6 * b.natAbs) (g:Int.gcd a b=1) (h0:0≤a):ow ((a,b):R):=by
 have:=iQ (D:=360) (N:=6) hb hd hl
 rw [cG hb hb g rfl] at this
 exact⟨this,h0⟩
theorem oN {rows:List (R×R)} (ok:aX rows) (sm:m9 (.tab rows)) {r:R×R} (hr:r∈rows):ow r.1:=⟨(sm r hr).1,by obtain⟨i,hi,e⟩:=List.mem_iff_getElem.mp hr;exact tM ok (e ▸ List.getElem?_eq_getElem hi)⟩
def gZ (K:PySem.W.Frag):Sp:=fun vs H Q _=>∃ (t s kl:Addr) (xk:List V) (v:V) (ks:List R) (rl:Rl),vs=[.ref t,v,.ref kl]/\bG K H t s/\m8 K H v rl/\dG rl/\m9 rl/\kl≠t/\H kl=some (.lst xk)/\bU (RV K H) xk ks/\(∀ r∈ks,ow r)/\ks.length≤4/\∀ (u:V) (z:R) (H':Hp),bo t H H'->bG K H' t s->RV K H' u z->ow z->cX rl z->Q u H'
theorem m5 {K:PySem.W.Frag} {H:Hp} {xs:List V} {rs:List R} (al:bU (RV K H) xs rs) {r:Int} (h0:0≤r) (h1:r < (xs.length:Int)):∃ v z,jS xs r=some v/\z∈rs/\RV K H v z:=by
 obtain⟨n,rfl⟩:=Int.eq_ofNat_of_zero_le h0
 obtain⟨v,hv⟩:∃ v,xs[n]?=some v:=⟨_,List.getElem?_eq_getElem (by omega)⟩
 obtain⟨z,hz,rv⟩:=al.at hv
 exact⟨v,z,bM hv,List.mem_of_getElem? hz,rv⟩
abbrev DG:Nat:=279936000
structure lH (rl:Rl) (r:R×R):Prop where
 sp:ow r.1
 bl:cX rl r.1
 br:gj (bL rl r.1).1 (bL rl r.1).2 r.2=true
 bq:Bq DG 2592 r.2
theorem lH.wf {rl:Rl} {r:R×R} (h:lH rl r):Wf 140 r.2:=h.bq.wf (by decide) (by decide) (by decide)
def dQ (rl:Rl) (r:R×R):R:=ai (dz rl r.1) (ar r.2 r.1)
abbrev DS:Nat:=100776960000
theorem iC {rl:Rl} {r:R×R} (ok:dG rl) (rk:na rl) (sm:m9 rl) (h:lH rl r):Bq DS 18552 (dQ rl r):=
 Bq.minus (by decide) ((eD ok rk sm h.sp.1 h.sp.ok h.bl).mono (D':=DS) (N':=3000) (by decide) (by decide)) ((Bq.times h.bq h.sp.1).mono (D':=DS) (N':=15552) (by decide) (by decide))
theorem iY {rl:Rl} {r:R×R} (ok:dG rl) (rk:na rl) (sm:m9 rl) (h:lH rl r):val (dQ rl r)=val (dz rl r.1) - val r.2 * val r.1:=by
 unfold dQ
 rw [dm (eD ok rk sm h.sp.1 h.sp.ok h.bl).pos (dn h.bq.red h.sp.1.red).pos,bw h.bq.pos h.sp.1.pos]
theorem zc {rl:Rl} {r q:R×R} (ok:dG rl) (rk:na rl) (sm:m9 rl) (h:lH rl r) (k:lH rl q) (l:av r.2 q.2=false):val (dQ rl r)≤val (dQ rl q):=by
 rw [iY ok rk sm h,iY ok rk sm k]
 have b:=kn ok rk h.sp.ok h.bl k.sp.ok k.bl h.bq.pos h.br
 have g:=(cc h.bq.pos k.bq.pos).mp l
 have n:=(jd k.sp.1.pos).mpr k.sp.2
 have m:=Rat.mul_le_mul_of_nonneg_right g n
 generalize val (dz rl r.1)=a at *
 generalize val (dz rl q.1)=b at *
 generalize val r.2=c at *
 generalize val q.2=d at *
 grind
theorem cF:ow ((0,1):R):=⟨⟨by decide,by decide,⟨360,by decide⟩,by decide⟩,by decide⟩
theorem dH {rl:Rl} (ok:dG rl):cX rl (0,1):=by
 cases rl with
 | pow k=>trivial
 | tab rows=>
  have ok':aX rows:=ok
  have n2:=ok'.n2
  obtain⟨r,e⟩:∃ r,rows[rows.length - 1]?=some r:=⟨_,List.getElem?_eq_getElem (by omega)⟩
  exact⟨r,e,fL.mpr (tM ok' e)⟩
theorem qj {rl:Rl} {r:R×R} (ok:dG rl) (rk:na rl) (sm:m9 rl) (h:lH rl r):val (dQ rl r)≤val (dz rl (0,1)):=by
 rw [iY ok rk sm h]
 have b:=kn ok rk h.sp.ok h.bl cF.ok (dH ok) h.bq.pos h.br
 rw [eI] at b
 grind
def jN (K:PySem.W.Frag):Sp:=fun vs H Q _=>∃ (t s kl pw:Addr) (xk xw:List V) (v:V) (ks:List R) (rl:Rl),vs=[.ref t,.ref pw,v,.ref kl]/\bG K H t s/\bh K H pw xw/\xw.length≤9/\m8 K H v rl/\dG rl/\m9 rl/\na rl/\kl≠t/\H kl=some (.lst xk)/\bU (RV K H) xk ks/\(∀ r∈ks,ow r)/\ks.length≤4/\∀ (p:Addr) (ys:List V) (prs:List (R×R)) (H':Hp),bo t H H'->bG K H' t s->bh K H' p ys->bU (fu K H') ys prs->prs.length=xw.length->(∀ r∈prs,lH rl r)->Q (.ref p) H'
def qh (_:PySem.W.Frag):Sp:=fun vs H Q _=>∃ i:Int,vs=[.int i,.int i]/\Q (.bl true) H
def kL (K:PySem.W.Frag):Sp:=fun vs H Q _=>∃ (v w:V) (r:R),vs=[v,w]/\RV K H v r/\RV K H w r/\∀ H',aO H H'->Q (.bl true) H'
theorem DQ {B b:Int} {D:Nat} (hB:0 < B) (hb:0 < b) (h1:B∣(D:Int)) (h2:b∣(D:Int)):0 < B * (b / (Int.gcd B b:Int))/\B * (b / (Int.gcd B b:Int))∣(D:Int)/\B∣B * (b / (Int.gcd B b:Int))/\b∣B * (b / (Int.gcd B b:Int)):=by
 obtain⟨m,rfl⟩:=Int.eq_ofNat_of_zero_le (Int.le_of_lt hB)
 obtain⟨n,rfl⟩:=Int.eq_ofNat_of_zero_le (Int.le_of_lt hb)
 have e:(m:Int) * ((n:Int) / (Int.gcd m n:Int))=((Nat.lcm m n:Nat):Int):=by
  show (m:Int) * ((n:Int) / ((Nat.gcd m n:Nat):Int))=_
  rw [← Int.natCast_ediv,← Int.natCast_mul]
  unfold Nat.lcm
  rw [Nat.mul_div_assoc _ (Nat.gcd_dvd_right m n)]
 rw [e]
 have p:=Nat.lcm_pos (show 0 < m by omega) (show 0 < n by omega)
 exact⟨by omega,Int.natCast_dvd_natCast.mpr (Nat.lcm_dvd (Int.natCast_dvd_natCast.mp h1) (Int.natCast_dvd_natCast.mp h2)),Int.natCast_dvd_natCast.mpr (Nat.dvd_lcm_left m n),Int.natCast_dvd_natCast.mpr (Nat.dvd_lcm_right m n)⟩
def pT (B:Int) (rs:List R):List Int:=rs.map fun r=>r.1 * (B / r.2)
def jh (K:PySem.W.Frag):Sp:=fun vs H Q _=>∃ (a:Addr) (xs:List V) (rs:List R) (D:Nat),vs=[.ref a]/\aW K H a xs/\bU (RV K H) xs rs/\rs.length≤60/\0 < D/\D < 1073741824/\(∀ r∈rs,0 < r.2/\r.2∣(D:Int))/\∀ (l:Addr) (B:Int) (H':Hp),aO H H'->H l=none->0 < B->(∀ r∈rs,r.2∣B)->H' l=some (.lst ((pT B rs).map V.int))->Q (.ref l) H'
abbrev DT:Pos:=⟨75,41,75,68⟩
abbrev DR:Str:=("falling_order" : Str) ++ ".<locals>." ++ "<lambda>"
abbrev TB (H:Hp) (T:Addr):Prop:=ot H T DR DT
def kw (rs:List R) (ms:List Nat):Prop:=ms.Perm (List.range rs.length)/\ms.Pairwise fun i j=>av (rs.getD i (0,1)) (rs.getD j (0,1))=false
def iy (K:PySem.W.Frag) (T:Addr):Sp:=fun vs H Q _=>∃ (a:Addr) (xs:List V) (rs:List R) (D:Nat),vs=[.ref a]/\aW K H a xs/\bU (RV K H) xs rs/\rs.length≤60/\0 < D/\D < 1073741824/\(∀ r∈rs,0 < r.2/\r.2∣(D:Int))/\TB H T/\∀ (l:Addr) (ms:List Nat) (H':Hp),gG T H H'->TB H' T->H l=none->kw rs ms->H' l=some (.lst (ms.map fun i:Nat=>V.int i))->Q (.ref l) H'
theorem nj {B:Int} {r q:R} (hB:0 < B) (hr:0 < r.2) (hq:0 < q.2) (dr:r.2∣B) (dq:q.2∣B) (h:-(r.1 * (B / r.2))≤-(q.1 * (B / q.2))):av r q=false:=by
 rw [dX]
 obtain⟨x,rfl⟩:=id dr
 obtain⟨y,ey⟩:=id dq
 rw [Int.mul_ediv_cancel_left _ (by omega)] at h
 rw [show r.2 * x / q.2=y by rw [ey];exact Int.mul_ediv_cancel_left _ (by omega)] at h
 have h':q.1 * y≤r.1 * x:=by omega
 have yp:0 < y:=Int.pos_of_mul_pos_right (by rw [← ey];exact hB) (by omega)
 have m:=Int.mul_le_mul_of_nonneg_right h' (show 0≤r.2 * q.2 from Int.mul_nonneg (by omega) (by omega))
 refine Int.le_of_mul_le_mul_right (a:=r.2 * x) ?_ hB
 have e1:q.1 * r.2 * (r.2 * x)=q.1 * y * (r.2 * q.2):=by rw [ey];ac_rfl
 have e2:r.1 * q.2 * (r.2 * x)=r.1 * x * (r.2 * q.2):=by ac_rfl
 rw [e1,e2]
 exact m
def fU (ws:List Wk) (ms:List Nat) (t:Nat):List Nat:=ms.filter fun m=>lK (ws.getD m pU) t
def cS (ws:List Wk) (h:Nat) (ms:List Nat):Nat->Nat->Nat
 | 0,_=>0
 | T+1,i=>cS ws h ms T i+((fU ws ms T).take h).count i
def cW (ws:List Wk) (h:Nat) (ms:List Nat) (T:Nat):List Nat:=(List.range ws.length).map (cS ws h ms T)
theorem qR (ws:List Wk) (h:Nat) (ms:List Nat):dE (cW ws h ms 0)=List.replicate ws.length (V.int 0):=by
 unfold dE cW
 rw [List.map_map]
 refine List.ext_getElem? fun i=>?_
 rw [List.getElem?_map,List.getElem?_replicate]
 by_cases hi:i < ws.length
 ·rw [List.getElem?_range hi,if_pos hi];rfl
 ·rw [if_neg hi,List.getElem?_eq_none (by rw [List.length_range];omega)];rfl
theorem wj {n m:Nat} {f g:Nat->Nat} (hm:g m=f m+1) (ho:∀ i,i≠m->g i=f i):((List.range n).map f).set m (f m+1)=(List.range n).map g:=by
 refine List.ext_getElem? fun i=>?_
 rw [List.getElem?_set]
 by_cases e:m=i
 ·subst e
  rw [if_pos rfl,List.length_map,List.length_range,List.getElem?_map]
  by_cases h:m < n
  ·rw [if_pos h,List.getElem?_range h];show _=some (g m);rw [hm]
  ·rw [if_neg h,List.getElem?_eq_none (by rw [List.length_range];omega)];rfl
 ·rw [if_neg e,List.getElem?_map,List.getElem?_map]
  cases q:(List.range n)[i]? with
  | none=>rfl
  | some j=>
   have:j=i:=by
    obtain⟨h1,h2⟩:=List.getElem?_eq_some_iff.mp q
    rw [List.getElem_range] at h2
    exact h2.symm
   subst this
   show some (f j)=some (g j)
   rw [ho j (fun z=>e z.symm)]
theorem mX {L:List Nat} {j x:Nat} (h:L[j]?=some x) (m:Nat):(L.take (j+1)).count m=(L.take j).count m+if x=m then 1 else 0:=by
 rw [List.take_add_one,h,List.count_append]
 show _+[x].count m=_
 rw [List.count_singleton]
 by_cases e:x=m
 ·subst e;simp
 ·rw [if_neg e,if_neg (by simpa using e)]
theorem i5 {ls:List Nat} {i x:Nat} (h:ls[i]?=some x):(dE ls)[i]?=some (V.int x):=by unfold dE;rw [List.getElem?_map,h];rfl
theorem uF {ls:List Nat} {i x:Nat}:(dE ls).set i (V.int ((x:Nat):Int))=dE (ls.set i x):=by unfold dE;rw [List.map_set]
theorem eP {ls:List Nat}:(dE ls).length=ls.length:=List.length_map _
theorem mF:∀ ls:List Nat,((ls.map fun n:Nat=>(n:Int))).sum=((ls.sum:Nat):Int)
 | []=>rfl
 | x :: l=>by rw [List.map_cons,List.sum_cons,List.sum_cons,mF l];omega
theorem uG (ls:List Nat):dE ls=(ls.map fun n:Nat=>(n:Int)).map V.int:=by unfold dE;rw [List.map_map];rfl
def iw (K:PySem.W.Frag):Sp:=fun vs H Q _=>∃ (v:V) (ws:List Wk) (h:Nat) (o:Addr) (ms:List Nat),vs=[v,.int h,.ref o]/\jT K H v ws/\ws.length≤60/\H o=some (.lst (dE ms))/\(∀ m∈ms,m < ws.length)/\ms.length≤60/\∀ (l:Addr) (H':Hp),aO H H'->H l=none->H' l=some (.lst (dE (cW ws h ms 24)))->Q (.ref l) H'
def ko (ws:List Wk) (i:Nat):R:=(ws.getD i pU).2.2
def fR (prs:List (R×R)) (i:Nat):R×R:=prs.getD i cU
def iE (ws:List Wk) (rl:Rl) (h:Nat) (prs:List (R×R)) (ms:List Nat):Nat->List R
 | 0=>[ar (((24 * h:Nat):Int) - ((cW ws h ms 24).sum:Nat),1) (dz rl (0,1))]
 | i+1=>iE ws rl h prs ms i++[ar (fR prs i).2 (ko ws i)]++[ar (((cS ws h ms 24 i:Nat):Int),1) (dQ rl (fR prs i))]
def AZ (ws:List Wk) (rl:Rl) (h:Nat) (prs:List (R×R)) (ms:List Nat):R:=eY (iE ws rl h prs ms ws.length)
theorem qY {T:Addr} {H H':Hp} (s:aO H H') (tb:TB H T):TB H' T:=by
 rcases tb with tb | ⟨c,o,vs,tt,h1,h2,h3⟩
 ·exact .inl (s _ _ tb)
 ·exact .inr ⟨c,o,vs,tt,s _ _ h1,s _ _ h2,h3⟩
theorem TB.tbl {T:Addr} {H:Hp} (tb:TB H T):∃ ps,H T=some (.tbl ps):=by
 rcases tb with tb | ⟨c,o,vs,tt,h1,h2,h3⟩
 ·exact⟨_,tb⟩
 ·exact⟨_,h1⟩
theorem j4 {K:PySem.W.Frag} {T:Addr} {H H':Hp} (s:gG T H H') (tb:TB H T):au K H H':=fun p xs h=>by
 obtain⟨ps,e⟩:=tb.tbl
 rcases h with h | h
 ·rcases h with h | ⟨o,h⟩
  ·exact .inl (.inl (s _ _ (fun z=>by rw [z,e] at h;cases h) h))
  ·exact .inl (.inr ⟨o,s _ _ (fun z=>by rw [z,e] at h;cases h) h⟩)
 ·exact .inr h
def ji (K:PySem.W.Frag) (T:Addr):Sp:=fun vs H Q _=>∃ (v w:V) (ws:List Wk) (rl:Rl) (h:Nat) (pp:Addr) (ys:List V) (prs:List (R×R)),vs=[v,w,.int h,.ref pp]/\jT K H v ws/\ws.length≤9/\(∀ w∈ws,jU w)/\m8 K H w rl/\dG rl/\m9 rl/\na rl/\bh K H pp ys/\bU (fu K H) ys prs/\prs.length=ws.length/\(∀ r∈prs,lH rl r)/\h≤9/\TB H T/\∀ (u:V) (ms:List Nat) (H':Hp),gG T H H'->TB H' T->kw (prs.map (·.2)) ms->RV K H' u (AZ ws rl h prs ms)->Q u H'
def sQ {α:Type} (f:α->Rat):List α->Rat
 | []=>0
 | a :: l=>f a+sQ f l
theorem gJ {α:Type} (f:α->Rat):∀ l m:List α,sQ f (l++m)=sQ f l+sQ f m
 | [],m=>by show sQ f m=0+sQ f m;grind
 | a :: l,m=>by show f a+sQ f (l++m)=f a+sQ f l+sQ f m;rw [gJ f l m];grind
theorem nI {α:Type} (f g:α->Rat):∀ l:List α,sQ (fun a=>f a+g a) l=sQ f l+sQ g l
 | []=>by show (0:Rat)=0+0;grind
 | a :: l=>by show f a+g a+sQ _ l=f a+sQ f l+(g a+sQ g l);rw [nI f g l];grind
theorem kZ {α:Type} {f g:α->Rat}:∀ {l:List α},(∀ a∈l,f a=g a)->sQ f l=sQ g l
 | [],_=>rfl
 | a :: l,h=>by show f a+sQ f l=g a+sQ g l;rw [h a List.mem_cons_self,kZ fun b hb=>h b (List.mem_cons_of_mem _ hb)]
theorem kX {α:Type} {f:α->Rat}:∀ {l:List α},(∀ a∈l,f a=0)->sQ f l=0
 | [],_=>rfl
 | a :: l,h=>by show f a+sQ f l=0;rw [h a List.mem_cons_self,kX fun b hb=>h b (List.mem_cons_of_mem _ hb)];grind
theorem kY {α β:Type} (f:β->Rat) (g:α->β):∀ l:List α,sQ f (l.map g)=sQ (fun a=>f (g a)) l
 | []=>rfl
 | a :: l=>by show f (g a)+sQ f (l.map g)=_;rw [kY f g l];rfl
theorem iT:∀ rs:List R,gA rs=sQ val rs
 | []=>rfl
 | r :: rs=>by show val r+gA rs=val r+sQ val rs;rw [iT rs]
theorem tK {f:Nat->Rat} {a:Nat}:∀ n:Nat,sQ (fun i=>(if a=i then (1:Rat) else 0) * f i) (List.range n)=if a < n then f a else 0
 | 0=>by rw [if_neg (by omega)];rfl
 | n+1=>by
  rw [List.range_succ,gJ,tK n]
  show _+((if a=n then (1:Rat) else 0) * f n+0)=_
  by_cases h:a < n
  ·have e:¬ a=n:=by omega
   rw [if_pos h,if_neg e,if_pos (show a < n+1 by omega)];grind
  ·by_cases e:a=n
   ·subst e;rw [if_neg h,if_pos rfl,if_pos (show a < a+1 by omega)];grind
   ·rw [if_neg h,if_neg e,if_neg (show ¬ a < n+1 by omega)];grind
theorem pI {f:Nat->Rat} {n:Nat}:∀ {L:List Nat},(∀ m∈L,m < n)->sQ (fun i=>((L.count i:Nat):Rat) * f i) (List.range n)=sQ f L
 | [],_=>kX fun a _=>by show ((0:Nat):Rat) * f a=0;rw [show ((0:Nat):Rat)=0 from rfl];grind
 | a :: L,h=>by
  have e:∀ i,(((a :: L).count i:Nat):Rat) * f i=(if a=i then (1:Rat) else 0) * f i+((L.count i:Nat):Rat) * f i:=fun i=>by
   rw [List.count_cons,Rat.natCast_add]
   by_cases z:a=i
   ·subst z;rw [if_pos rfl,if_pos (by simp)];rw [show ((1:Nat):Rat)=1 from rfl];grind
   ·rw [if_neg z,if_neg (by simpa using z)];rw [show ((0:Nat):Rat)=0 from rfl];grind
  rw [kZ (g:=fun i=>(if a=i then (1:Rat) else 0) * f i+((L.count i:Nat):Rat) * f i) (fun i _=>e i),nI,tK,if_pos (h a List.mem_cons_self),pI fun m hm=>h m (List.mem_cons_of_mem _ hm)]
  rfl
theorem By {ws:List Wk} {ms:List Nat} (h:∀ m∈ms,m < ws.length) (hh t:Nat):∀ m∈(fU ws ms t).take hh,m < ws.length:=fun m hm=>h m (List.mem_filter.mp (List.mem_of_mem_take hm)).1
def tU (g:Nat->Rat):Nat->Rat
 | 0=>0
 | T+1=>tU g T+g T
theorem nu (f g:Nat->Rat):∀ T,tU (fun t=>f t+g t) T=tU f T+tU g T
 | 0=>by show (0:Rat)=0+0;grind
 | T+1=>by show tU _ T+(f T+g T)=tU f T+f T+(tU g T+g T);rw [nu f g T];grind
theorem oj {ws:List Wk} {ms:List Nat} {h:Nat} {f:Nat->Rat} (hm:∀ m∈ms,m < ws.length):∀ T,sQ (fun i=>((cS ws h ms T i:Nat):Rat) * f i) (List.range ws.length)=tU (fun t=>sQ f ((fU ws ms t).take h)) T
 | 0=>kX fun a _=>by show ((0:Nat):Rat) * f a=0;rw [show ((0:Nat):Rat)=0 from rfl];grind
 | T+1=>by
  rw [kZ (g:=fun i=>((cS ws h ms T i:Nat):Rat) * f i+((((fU ws ms T).take h).count i:Nat):Rat) * f i) (fun i _=>by show ((_+_:Nat):Rat) * f i=_;rw [Rat.natCast_add];grind),nI,oj hm T,pI (By hm h T)]
  rfl
theorem o7 {x:Nat}:∀ {l:List Nat},x∈l->x≤l.sum
 | a :: l,h=>by
  rw [List.sum_cons]
  rcases List.mem_cons.mp h with z | z
  ·omega
  ·have:=o7 z;omega
theorem j7 {f:Nat->Nat}:∀ l:List Nat,(((l.map f).sum:Nat):Rat)=sQ (fun i=>((f i:Nat):Rat) * 1) l
 | []=>rfl
 | a :: l=>by rw [List.map_cons,List.sum_cons,Rat.natCast_add,j7 l];show _=((f a:Nat):Rat) * 1+_;grind
theorem uN:∀ l:List Nat,sQ (fun _=>(1:Rat)) l=((l.length:Nat):Rat)
 | []=>rfl
 | a :: l=>by show (1:Rat)+sQ _ l=_;rw [uN l,List.length_cons,Rat.natCast_add];rw [show ((1:Nat):Rat)=1 from rfl];grind
theorem mW {ws:List Wk} {ms:List Nat} {h:Nat} (hm:∀ m∈ms,m < ws.length):(((cW ws h ms 24).sum:Nat):Rat)=tU (fun t=>((((fU ws ms t).take h).length:Nat):Rat)) 24:=by
 unfold cW
 rw [j7,oj (f:=fun _=>1) hm 24]
 congr 1
 funext t
 exact uN _
theorem xQ {f:Nat->Rat} {c:Rat} (h:∀ t,f t≤c):∀ T:Nat,tU f T≤(T:Rat) * c
 | 0=>by show (0:Rat)≤((0:Nat):Rat) * c;rw [show ((0:Nat):Rat)=0 from rfl];grind
 | T+1=>by
  have:=xQ h T
  have:=h T
  show tU f T+f T≤((T+1:Nat):Rat) * c
  rw [Rat.natCast_add,show ((1:Nat):Rat)=1 from rfl]
  grind
theorem lD {ws:List Wk} {ms:List Nat} {h:Nat} (hm:∀ m∈ms,m < ws.length):(cW ws h ms 24).sum≤24 * h:=by
 have a:=mW (h:=h) hm
 have b:=xQ (f:=fun t=>((((fU ws ms t).take h).length:Nat):Rat)) (c:=(h:Rat)) (fun t=>Rat.natCast_le_natCast.mpr (by rw [List.length_take];omega)) 24
 rw [← a,← Rat.natCast_mul] at b
 exact Rat.natCast_le_natCast.mp b
def vE (l:List Rat):Prop:=l.Pairwise (·≤·)
theorem mh:∀ {l m:List Rat},l.Perm m->vE l->vE m->l=m
 | [],m,p,_,_=>(List.Perm.nil_eq p)
 | a :: l,[],p,_,_=>by have:=p.length_eq;simp at this
 | a :: l,b :: m,p,s1,s2=>by
  have h1:=List.pairwise_cons.mp s1
  have h2:=List.pairwise_cons.mp s2
  have e:a=b:=by
   have ma:a∈b :: m:=p.mem_iff.mp List.mem_cons_self
   have mb:b∈a :: l:=p.mem_iff.mpr List.mem_cons_self
   have l1:b≤a:=by
    rcases List.mem_cons.mp ma with z | z
    ·rw [z];exact Rat.le_refl
    ·exact h2.1 a z
   have l2:a≤b:=by
    rcases List.mem_cons.mp mb with z | z
    ·rw [z];exact Rat.le_refl
    ·exact h1.1 b z
   exact Rat.le_antisymm l2 l1
  subst e
  rw [mh (List.Perm.cons_inv p) h1.2 h2.2]
def m6 (l:List R):Prop:=l.Pairwise fun a b=>av b a=false
theorem v0 {l:List R} (hp:∀ r∈l,0 < r.2) (h:m6 l):vE (l.map val):=by
 unfold vE
 rw [List.pairwise_map]
 exact List.Pairwise.imp_of_mem (fun {a b} ma mb q=>(cc (hp b mb) (hp a ma)).mp q) h
def vT (ws:List Wk) (rl:Rl) (h:Nat) (prs:List (R×R)) (ms:List Nat) (t:Nat):Rat:=
 sQ (fun i=>val (dQ rl (fR prs i))) ((fU ws ms t).take h)+((h:Rat) - ((((fU ws ms t).take h).length:Nat):Rat)) * val (dz rl (0,1))
def zt (ws:List Wk) (rl:Rl) (prs:List (R×R)) (t:Nat):List R:=((List.range ws.length).filter fun i=>lK (ws.getD i pU) t).map fun i=>dQ rl (fR prs i)
theorem fH {rl:Rl} {prs:List (R×R)} (okp:∀ r∈prs,lH rl r) {i:Nat} (hi:i < prs.length):lH rl (fR prs i):=by
 unfold fR
 have e:prs[i]?=some prs[i]:=List.getElem?_eq_getElem hi
 rw [List.getD_eq_getElem?_getD,e]
 exact okp _ (List.getElem_mem hi)
theorem rE {ws:List Wk} {rl:Rl} {h:Nat} {prs:List (R×R)} {ms:List Nat} {t:Nat} {zs:List R} (ok:dG rl) (rk:na rl) (sm:m9 rl) (okp:∀ r∈prs,lH rl r) (lp:prs.length=ws.length)
  (fo:kw (prs.map (·.2)) ms) (hz:zs.Perm (zt ws rl prs t++List.replicate h (dz rl (0,1)))) (so:m6 zs) (zp:∀ r∈zs,0 < r.2):gA (zs.take h)=vT ws rl h prs ms t:=by
 have lm:(prs.map (·.2)).length=ws.length:=by rw [List.length_map,lp]
 have inM:∀ m∈ms,m < ws.length:=fun m hm=>by
  have:=List.mem_range.mp (fo.1.mem_iff.mp hm)
  rw [lm] at this
  exact this
 have e:zs.map val=(fU ws ms t).map (fun i=>val (dQ rl (fR prs i)))++List.replicate h (val (dz rl (0,1))):=by
  refine mh ?_ (v0 zp so) ?_
  ·refine (hz.map val).trans ?_
   rw [List.map_append,List.map_replicate]
   refine List.Perm.append_right _ ?_
   unfold zt
   rw [List.map_map]
   have pf:(fU ws ms t).Perm ((List.range ws.length).filter fun i=>lK (ws.getD i pU) t):=by
    have:=fo.1.filter (fun i=>lK (ws.getD i pU) t)
    rw [lm] at this
    exact this
   exact (pf.map _).symm
  ·unfold vE
   rw [List.pairwise_append]
   refine⟨?_,List.pairwise_replicate.mpr (.inr Rat.le_refl),fun a ha b hb=>?_⟩
   ·rw [List.pairwise_map]
    have pw:(fU ws ms t).Pairwise fun i j=>av ((prs.map (·.2)).getD i (0,1)) ((prs.map (·.2)).getD j (0,1))=false:=fo.2.filter _
    refine List.Pairwise.imp_of_mem (fun {i j} mi mj q=>?_) pw
    have li:i < prs.length:=by rw [lp];exact inM i (List.mem_filter.mp mi).1
    have lj:j < prs.length:=by rw [lp];exact inM j (List.mem_filter.mp mj).1
    have g:∀ i,i < prs.length->(prs.map (·.2)).getD i (0,1)=(fR prs i).2:=fun i hi=>by
     have ei:prs[i]?=some prs[i]:=List.getElem?_eq_getElem hi
     unfold fR
     rw [List.getD_eq_getElem?_getD,List.getD_eq_getElem?_getD,List.getElem?_map,ei]
     rfl
    rw [g i li,g j lj] at q
    exact zc ok rk sm (fH okp li) (fH okp lj) q
   ·obtain⟨i,mi,rfl⟩:=List.mem_map.mp ha
    rw [(List.mem_replicate.mp hb).2]
    exact qj ok rk sm (fH okp (by rw [lp];exact inM i (List.mem_filter.mp mi).1))
 have e2:(zs.take h).map val=((fU ws ms t).take h).map (fun i=>val (dQ rl (fR prs i)))++List.replicate (h - ((fU ws ms t).take h).length) (val (dz rl (0,1))):=by
  rw [List.map_take,e,List.take_append,List.take_replicate,List.map_take,List.length_map,List.length_take]
  congr 2
  omega
 rw [iT]
 have e3:sQ val (zs.take h)=sQ (fun x:Rat=>x) ((zs.take h).map val):=by rw [kY]
 have rp:∀ (n:Nat) (c:Rat),sQ (fun x:Rat=>x) (List.replicate n c)=(n:Rat) * c:=fun n c=>by
  induction n with
  | zero=>show (0:Rat)=((0:Nat):Rat) * c;rw [show ((0:Nat):Rat)=0 from rfl];grind
  | succ n ih=>rw [List.replicate_succ];show c+sQ _ _=_;rw [ih,Rat.natCast_add,show ((1:Nat):Rat)=1 from rfl];grind
 rw [e3,e2,gJ,kY,rp]
 unfold vT
 have le:((fU ws ms t).take h).length≤h:=by rw [List.length_take];omega
 have ec:((h - ((fU ws ms t).take h).length:Nat):Rat)=(h:Rat) - ((((fU ws ms t).take h).length:Nat):Rat):=by
  generalize ((fU ws ms t).take h).length=x at le
  obtain⟨d,rfl⟩:=Nat.exists_eq_add_of_le le
  rw [show x+d - x=d by omega,Rat.natCast_add]
  grind
 rw [ec]
def vB (ws:List Wk) (rl:Rl) (h:Nat) (prs:List (R×R)) (ms:List Nat) (T:Nat):Rat:=
 sQ (fun i=>val (fR prs i).2 * val (ko ws i)) (List.range ws.length)+tU (vT ws rl h prs ms) T
theorem lG {ws:List Wk} (okw:∀ w∈ws,jU w) {i:Nat} (hi:i < ws.length):Bq 84 12 (ko ws i):=by
 unfold ko
 have e:ws[i]?=some ws[i]:=List.getElem?_eq_getElem hi
 rw [List.getD_eq_getElem?_getD,e]
 exact vy (okw _ (List.getElem_mem hi)).am
abbrev DA:Nat:=8465264640000
theorem vP {z:Int} {N:Nat} (h:z.natAbs≤N):Bq 1 N ((z,1):R):=⟨by show (0:Int) < 1;decide,by show Int.gcd z 1=1;simp,⟨1,rfl⟩,by show z.natAbs≤N * 1;omega⟩
theorem xO (z:Int):val ((z,1):R)=(z:Rat):=xP z
section
variable {ws:List Wk} {rl:Rl} {h:Nat} {prs:List (R×R)} {ms:List Nat}
theorem yI (hm:∀ m∈ms,m < ws.length) {i:Nat} (hi:i < ws.length) (h9:h≤9):cS ws h ms 24 i≤216:=by
 have a:=lD (h:=h) hm
 have:cS ws h ms 24 i≤(cW ws h ms 24).sum:=o7 (List.mem_map.mpr ⟨i,List.mem_range.mpr hi,rfl⟩)
 omega
theorem nN (ok:dG rl) (rk:na rl) (sm:m9 rl) (okw:∀ w∈ws,jU w) (okp:∀ r∈prs,lH rl r) (lp:prs.length=ws.length) (hm:∀ m∈ms,m < ws.length) (h9:h≤9):∀ i,i≤ws.length->∀ r∈iE ws rl h prs ms i,Bq DA 4008000 r
 | 0,_,r,hr=>by
  rw [List.mem_singleton.mp hr]
  have:=lD (h:=h) hm
  exact (Bq.times (vP (N:=216) (by omega)) (eD ok rk sm cF.1 cF.ok (dH ok))).mono (by decide) (by decide)
 | i+1,hi,r,hr=>by
  rcases List.mem_append.mp hr with hr | hr
  ·rcases List.mem_append.mp hr with hr | hr
   ·exact nN ok rk sm okw okp lp hm h9 i (by omega) r hr
   ·rw [List.mem_singleton.mp hr]
    exact (Bq.times (fH okp (i:=i) (by omega)).bq (lG okw (by omega))).mono (by decide) (by decide)
  ·rw [List.mem_singleton.mp hr]
   have:=yI (h:=h) hm (i:=i) (by omega) h9
   exact (Bq.times (vP (N:=216) (by omega)) (iC ok rk sm (fH okp (i:=i) (by omega)))).mono (by decide) (by decide)
theorem k9:∀ i,(iE ws rl h prs ms i).length=1+2 * i
 | 0=>rfl
 | i+1=>by
  unfold iE
  rw [List.length_append,List.length_append,k9 i]
  show 1+2 * i+1+1=_
  omega
theorem oQ (ok:dG rl) (rk:na rl) (sm:m9 rl) (okw:∀ w∈ws,jU w) (okp:∀ r∈prs,lH rl r) (lp:prs.length=ws.length) (hm:∀ m∈ms,m < ws.length):∀ i,i≤ws.length→
  sQ val (iE ws rl h prs ms i)=(((24 * h:Nat):Rat) - (((cW ws h ms 24).sum:Nat):Rat)) * val (dz rl (0,1))+sQ (fun i=>val (fR prs i).2 * val (ko ws i)) (List.range i)+sQ (fun i=>((cS ws h ms 24 i:Nat):Rat) * val (dQ rl (fR prs i))) (List.range i)
 | 0,_=>by
  have p0:=(eD ok rk sm cF.1 cF.ok (dH ok)).pos
  show val (ar _ _)+0=_ * _+0+0
  rw [bw (by show (0:Int) < 1;decide) p0,xO,Rat.intCast_sub]
  rw [show (((24 * h:Nat):Int):Rat)=((24 * h:Nat):Rat) from rfl,show ((((cW ws h ms 24).sum:Nat):Int):Rat)=(((cW ws h ms 24).sum:Nat):Rat) from rfl]
  grind
 | i+1,hi=>by
  have pk:=fH okp (i:=i) (by omega)
  have ak:=lG okw (i:=i) (by omega)
  have sk:=iC ok rk sm pk
  show sQ val (_++_++_)=_
  rw [gJ,gJ,oQ ok rk sm okw okp lp hm i (by omega),List.range_succ,gJ,gJ]
  show _+(val (ar _ _)+0)+(val (ar _ _)+0)=_+(_+(_+0))+(_+(_+0))
  rw [bw pk.bq.pos ak.pos,bw (by show (0:Int) < 1;decide) sk.pos,xO]
  rw [show (((cS ws h ms 24 i:Nat):Int):Rat)=((cS ws h ms 24 i:Nat):Rat) from rfl]
  grind
theorem lR (c:Rat):∀ T:Nat,tU (fun _=>c) T=(T:Rat) * c
 | 0=>by show (0:Rat)=((0:Nat):Rat) * c;rw [show ((0:Nat):Rat)=0 from rfl];grind
 | T+1=>by show tU _ T+c=_;rw [lR c T,Rat.natCast_add,show ((1:Nat):Rat)=1 from rfl];grind
theorem rH (f:Nat->Rat) (c:Rat):∀ T:Nat,tU (fun t=>f t * c) T=tU f T * c
 | 0=>by show (0:Rat)=0 * c;grind
 | T+1=>by show tU _ T+f T * c=(tU f T+f T) * c;rw [rH f c T];grind
theorem AY (ok:dG rl) (rk:na rl) (sm:m9 rl) (okw:∀ w∈ws,jU w) (okp:∀ r∈prs,lH rl r) (lp:prs.length=ws.length) (hm:∀ m∈ms,m < ws.length) (h9:h≤9) {x:R} (hx:cO x) (e:val x=vB ws rl h prs ms 24):x=AZ ws rl h prs ms:=by
 unfold AZ
 refine rN (fun r hr=>(nN ok rk sm okw okp lp hm h9 _ (Nat.le_refl _) r hr).red) hx ?_
 rw [e,iT,oQ ok rk sm okw okp lp hm _ (Nat.le_refl _),oj hm 24,mW hm]
 unfold vB
 have a:tU (vT ws rl h prs ms) 24=tU (fun t=>sQ (fun i=>val (dQ rl (fR prs i))) ((fU ws ms t).take h)) 24+tU (fun t=>((h:Rat) - ((((fU ws ms t).take h).length:Nat):Rat)) * val (dz rl (0,1))) 24:=by
  rw [← nu];rfl
 have b:tU (fun t=>((h:Rat) - ((((fU ws ms t).take h).length:Nat):Rat)) * val (dz rl (0,1))) 24=(((24 * h:Nat):Rat) - tU (fun t=>((((fU ws ms t).take h).length:Nat):Rat)) 24) * val (dz rl (0,1)):=by
  rw [rH]
  congr 1
  have c:tU (fun t=>(h:Rat) - ((((fU ws ms t).take h).length:Nat):Rat)) 24+tU (fun t=>((((fU ws ms t).take h).length:Nat):Rat)) 24=((24 * h:Nat):Rat):=by
   rw [← nu]
   have:(fun t=>(h:Rat) - ((((fU ws ms t).take h).length:Nat):Rat)+((((fU ws ms t).take h).length:Nat):Rat))=fun _=>(h:Rat):=by funext t;grind
   rw [this,lR,Rat.natCast_mul]
  grind
 rw [a,b]
 grind
end
theorem j1 {z:R} (hz:0 < z.2):∀ {zs:List R},(∀ y∈zs,0 < y.2)->m6 zs->zs.take (zs.filter fun y=>!av z y).length=zs.filter (fun y=>!av z y)/\zs.drop (zs.filter fun y=>!av z y).length=zs.filter fun y=>av z y
 | [],_,_=>⟨rfl,rfl⟩
 | a :: t,hp,h=>by
  have h':=List.pairwise_cons.mp h
  have hpt:∀ y∈t,0 < y.2:=fun y hy=>hp y (List.mem_cons_of_mem _ hy)
  obtain⟨i1,i2⟩:=j1 hz hpt h'.2
  cases c:av z a with
  | false=>
   rw [List.filter_cons,List.filter_cons,c]
   simp only [Bool.not_false,if_true,List.length_cons,List.take_succ_cons,List.drop_succ_cons,Bool.false_eq_true,if_false]
   exact⟨by rw [i1],i2⟩
  | true=>
   have all:∀ y∈t,av z y=true:=fun y hy=>o0 hz (hp a List.mem_cons_self) (hpt y hy) c (h'.1 y hy)
   have e1:t.filter (fun y=>!av z y)=[]:=List.filter_eq_nil_iff.mpr fun y hy=>by rw [all y hy];simp
   have e2:t.filter (fun y=>av z y)=t:=List.filter_eq_self.mpr all
   rw [List.filter_cons,List.filter_cons,c]
   simp only [Bool.not_true,Bool.false_eq_true,if_false,if_true,e1,e2,List.length_nil,List.take_zero,List.drop_zero]
   exact⟨trivial,trivial⟩
theorem v5 {z:R} {zs:List R} (hz:0 < z.2) (hp:∀ y∈zs,0 < y.2) (h:m6 zs):m6 (zs.take (zs.filter fun y=>!av z y).length++z :: zs.drop (zs.filter fun y=>!av z y).length):=by
 obtain⟨i1,i2⟩:=j1 hz hp h
 rw [i1,i2]
 unfold m6
 have A:∀ y∈zs.filter (fun y=>!av z y),av z y=false/\0 < y.2:=fun y hy=>⟨by simpa using (List.mem_filter.mp hy).2,hp y (List.mem_filter.mp hy).1⟩
 have B:∀ y∈zs.filter (fun y=>av z y),av z y=true/\0 < y.2:=fun y hy=>⟨(List.mem_filter.mp hy).2,hp y (List.mem_filter.mp hy).1⟩
 refine List.pairwise_append.mpr ⟨h.filter _,List.pairwise_cons.mpr ⟨fun b hb=>dJ (B b hb).1,h.filter _⟩,fun a ha b hb=>?_⟩
 rcases List.mem_cons.mp hb with e | hb
 ·rw [e];exact (A a ha).1
 ·exact dJ (uO (A a ha).2 hz (B b hb).2 (A a ha).1 (B b hb).1)
theorem uZ {z:R} {zs rs:List R} (j:Nat) (h:zs.Perm rs):(zs.take j++z :: zs.drop j).Perm (rs++[z]):=by
 have a:(zs.take j++z :: zs.drop j).Perm (z :: (zs.take j++zs.drop j)):=List.perm_middle
 rw [List.take_append_drop] at a
 exact a.trans ((h.cons z).trans (List.perm_append_singleton z rs).symm)
def gH (K:PySem.W.Frag):Sp:=fun vs H Q _=>∃ (a:Addr) (xs:List V) (rs:List R),vs=[.ref a]/\aW K H a xs/\bU (RV K H) xs rs/\(∀ r∈rs,Wf 400 r)/\rs.length≤60/\∀ (l:Addr) (ys:List V) (zs:List R) (H':Hp),aO H H'->H l=none->H' l=some (.lst ys)->bU (RV K H') ys zs->zs.Perm rs->m6 zs->Q (.ref l) H'
theorem ww {rl:Rl} {r:R×R} (ok:dG rl) (rk:na rl) (sm:m9 rl) (h:lH rl r):aH (dz rl r.1) (ar (-r.2.1,r.2.2) r.1)=dQ rl r:=by
 have p:=eD ok rk sm h.sp.1 h.sp.ok h.bl
 have tr:=dn (gN h.bq.red) h.sp.1.red
 refine eu (cR p.red tr) (iC ok rk sm h).red ?_
 rw [iY ok rk sm h,bA p.pos tr.pos,bw (gN h.bq.red).pos h.sp.1.pos,jc]
 grind
def kK (K:PySem.W.Frag):Sp:=fun vs H Q _=>∃ (v w:V) (ws:List Wk) (rl:Rl) (h:Nat) (pp:Addr) (ys:List V) (prs:List (R×R)),vs=[v,w,.int h,.ref pp]/\jT K H v ws/\ws.length≤9/\(∀ w∈ws,jU w)/\m8 K H w rl/\dG rl/\m9 rl/\na rl/\bh K H pp ys/\bU (fu K H) ys prs/\prs.length=ws.length/\(∀ r∈prs,lH rl r)/\h≤9/\∀ (u:V) (x:R) (H':Hp),aO H H'->RV K H' u x->cO x->(∀ ms,kw (prs.map (·.2)) ms->val x=vB ws rl h prs ms 24)->Q u H'
theorem vV {D N:Nat} {zs rs:List R} (p:zs.Perm rs) (h:∀ r∈rs,Bq D N r) (n:Nat):∀ r∈zs.take n,Bq D N r:=fun r hr=>h r (p.mem_iff.mp (List.mem_of_mem_take hr))
theorem Fy {t T:Addr} {H H':Hp} (S:bo t H H') (tb:TB H T):TB H' T:=by
 obtain⟨xs,e⟩:=S.tp
 rcases tb with tb | ⟨c,o,vs,tt,h1,h2,h3⟩
 ·exact .inl (S.keep _ _ (fun z=>by rw [z,e] at tb;cases tb) tb)
 ·exact .inr ⟨c,o,vs,tt,S.keep _ _ (fun z=>by rw [z,e] at h1;cases h1) h1,S.keep _ _ (fun z=>by rw [z,e] at h2;cases h2) h2,h3⟩
theorem Bz {K:PySem.W.Frag} {H H':Hp} {t s T:Addr} (h:bG K H t s) (z:gG T H H') (tb:TB H T):bG K H' t s:=by
 obtain⟨ps,eT⟩:=TB.tbl tb
 obtain⟨ns,p,q,h1,h2,h3⟩:=h.ex
 refine⟨ns,p,q,z _ _ (fun e=>by rw [e,eT] at h1;cases h1) h1,?_,h3⟩
 rcases h2 with ⟨a,b⟩ | a
 ·refine .inl ⟨?_,b⟩
  rcases a with a | ⟨o,a⟩
  ·exact .inl (z _ _ (fun e=>by rw [e,eT] at a;cases a) a)
  ·exact .inr ⟨o,z _ _ (fun e=>by rw [e,eT] at a;cases a) a⟩
 ·exact .inr a
theorem DC {ws:List Wk} {rl:Rl} {prs:List (R×R)} (hw:∀ w∈ws,jU w) (lw:ws.length≤9) (ok:dG rl) (hp:∀ r∈prs,lH rl r) (lp:prs.length≤9):m7 (.tuple [xD ws,Bk rl,.tuple (prs.map oh)]):=by
 refine Sh.shows (k:=6) (n:=6000017) (Sh.tup (k:=5) (n:=2000000) (m:=3) (fun e he=>?_) (Nat.le_refl _) (by decide)) (by decide) (by decide)
 simp only [List.mem_cons,List.not_mem_nil,or_false] at he
 rcases he with rfl | rfl | rfl
 ·refine (Sh.tup (k:=2) (n:=20000) (m:=9) (N:=190000) (fun d hd=>?_) (by rw [List.length_map];exact lw) (by decide)).mono (by decide) (by decide)
  obtain⟨w,hw',rfl⟩:=List.mem_map.mp hd
  exact yR (hw w hw')
 ·exact (BN ok).mono (by decide) (by decide)
 ·refine (Sh.tup (k:=2) (n:=10020) (m:=9) (N:=90300) (fun d hd=>?_) (by rw [List.length_map];exact lp) (by decide)).mono (by decide) (by decide)
  obtain⟨r,hr,rfl⟩:=List.mem_map.mp hd
  exact sg ((hp r hr).sp.wf.mono (by decide)) ((hp r hr).wf.mono (by decide))
theorem yH {K:PySem.W.Frag} {H:Hp} {pt pw pp:Addr} {xw ys:List V} {vr:V} {ws:List Wk} {rl:Rl} {prs:List (R×R)} (ht:bh K H pt [.ref pw,vr,.ref pp]) (hW:bh K H pw xw) (alw:bU (vM K H) xw ws) (rv:m8 K H vr rl) (hP:bh K H pp ys) (alp:bU (fu K H) ys prs):cI K H (.ref pt) (.tuple [xD ws,Bk rl,.tuple (prs.map oh)]):=
 .tup ht (.cons (jT.deep ⟨pw,xw,rfl,hW,alw⟩) (.cons rv.deep (.cons (.tup hP (alp.deep fun _ _ q=>q.deep)) .nil)))
def kM (K:PySem.W.Frag) (T:Addr):Sp:=fun vs H Q _=>∃ (a:Addr) (ns:List Int),vs=[.ref a]/\aW K H a (ns.map V.int)/\ns.length≤63/\H T=some (.tbl #[])/\∀ H',Q (.bl true) H'
theorem j3:aL ["one", "other", "high", "low", "rest"] ["one", "other"] (ay zn):=fN
theorem nF:aL ["top", "bottom", "shared"] ["top", "bottom"] (ay sK):=fN
theorem kU:aL ["one", "other", "shared", "top", "rest"] ["one", "other"] (ay sF):=fN
theorem yT:aL ["one", "other"] ["one", "other"] (ay sJ):=fN
theorem nE:aL ["one", "other", "left", "right"] ["one", "other"] (ay sH):=fN
theorem yS:aL ["one", "other"] ["one", "other"] (ay sx):=fN
theorem iA:aL ["one", "power", "top", "bottom", "step"] ["one", "power"] (ay sM):=fN
theorem yX:aL ["one", "other"] ["one", "other"] (ay sR):=fN
theorem gI:aL ["some", "tops", "one", "so_far", "bottom", "top"] ["some"] (ay sG):=fN
theorem oK:aL ["some", "bottom", "one"] ["some"] (ay zg):=fN
theorem yd:aL ["some", "parts"] ["some"] (ay zj):=fN
theorem BQ:aL ["low", "high"] ["low", "high"] (ay zi):=fN
theorem yU:aL ["rule"] ["rule"] (ay sL):=fN
theorem sj:aL ["rule", "speed", "top"] ["rule", "speed"] (ay tH):=fN
theorem nH:aL ["rows", "speed", "place"] ["rows", "speed"] (ay tf):=fN
theorem jn:aL ["rule", "speed", "rows", "place", "high", "low"] ["rule", "speed"] (ay sY):=fN
theorem y8:aL ["work", "turn"] ["work", "turn"] (ay tG):=fN
theorem mn:aL ["works", "hands", "order", "counts", "turn", "there", "number"] ["works", "hands", "order"] (ay zh):=fN
theorem jm:aL ["works", "rule", "hands", "prices", "counts", "parts", "work", "price", "count", "saved"] ["works", "rule", "hands", "prices"] (ay zf):=fN
theorem yZ:aL ["_law_script"] ["_law_script"] (ay sX):=fN
theorem iB:aL ["_law_tape_here", "_law_many", "_law_spot", "_law_cell", "_law_mixed", "_law_found"] ["_law_tape_here", "_law_many"] (ay sW):=fN
theorem si:aL ["_law_due", "_law_found"] ["_law_due", "_law_found"] (ay tF):=fN
theorem nG:aL ["_law_top", "_law_bottom", "_law_one", "_law_other"] ["_law_top", "_law_bottom"] (ay sV):=fN
theorem yW:aL ["_law_one", "_law_other"] ["_law_one", "_law_other"] (ay sP):=fN
theorem yV:aL ["_law_one", "_law_other"] ["_law_one", "_law_other"] (ay sO):=fN
theorem yY:aL ["_law_one", "_law_other"] ["_law_one", "_law_other"] (ay sU):=fN
theorem kW:aL ["_law_some", "_law_found", "_law_one"] ["_law_some"] (ay sN):=fN
theorem eL:aL ["_law_tape_here", "_law_many", "_law_end", "_law_works_here", "_law_k", "_law_first", "_law_last", "_law_way"] ["_law_tape_here", "_law_many"] (ay tE):=fN
theorem dZ:aL ["_law_tape_here", "_law_kinks", "_law_most", "_law_way", "_law_speeds", "_law_last", "_law_power_here", "_law_slope", "_law_rows", "_law_speed", "_law_step"] ["_law_tape_here", "_law_kinks", "_law_most"] (ay sS):=fN
theorem oJ:aL ["_law_some", "_law_found", "_law_one", "_law_place"] ["_law_some"] (ay ze):=fN
theorem eK:aL ["_law_rule_here", "_law_speed", "_law_found", "_law_k", "_law_rows", "_law_at", "_law_low", "_law_high", "_law_wide", "_law_far", "_law_rise"] ["_law_rule_here", "_law_speed"] (ay tz):=fN
theorem fV:aL ["_law_rule_here", "_law_speed", "_law_slope", "_law_k", "_law_found", "_law_low", "_law_high", "_law_wide", "_law_rise", "_law_left", "_law_right"] ["_law_rule_here", "_law_speed"] (ay zd):=fN
theorem jo:aL ["_law_tape_here", "_law_rule_here", "_law_speed", "_law_left", "_law_right", "_law_part", "_law_rise"] ["_law_tape_here", "_law_rule_here", "_law_speed"] (ay tw):=fN
theorem oM:aL ["_law_tape_here", "_law_rule_here", "_law_kinks", "_law_some"] ["_law_tape_here", "_law_rule_here", "_law_kinks"] (ay zk):=fN
theorem y9:aL ["_law_tape_here", "_law_works_here", "_law_rule_here", "_law_kinks"] ["_law_tape_here", "_law_works_here", "_law_rule_here", "_law_kinks"] (ay tJ):=fN
theorem fm:aL ["_law_works_here", "_law_rule_here", "_law_hands", "_law_prices_here", "_law_still", "_law_found", "_law_rests", "_law_speed", "_law_slope", "_law_turn", "_law_some"] ["_law_works_here", "_law_rule_here", "_law_hands", "_law_prices_here"] (ay tj):=fN
theorem ss:aL ["_law_some", "_law_found", "_law_one"] ["_law_some"] (ay zm):=fN
theorem fE:aL ["_law_script", "_law_tape_here", "_law_k", "_law_works_here", "_law_kinks", "_law_rule_here", "_law_prices_here", "_law_hands", "_law_ahead"] ["_law_script"] (ay sw):=fN
end My
namespace My
open PySem L2 B PyProof.Rows
section
variable {P:Program} {w:World} {K:PySem.W.Frag} {mg:Str->Option Value} {base:Heap} {t:Ad}
theorem qy (T:fC K mg t):bO P w K mg base eF 1 t.a_Q13 t.d_Q13 ["_law_due", "_law_found"] (qh K):=by
 refine T.F_Q13.ok si (fun vs H Q E h=>?_) (fun cdv A outer s H vs Q E hr h=>?_)
 ·obtain⟨_,rfl,_⟩:=h;rfl
 obtain⟨i,rfl,k⟩:=h
 refine eg.ok (ag (bK (mo (tT (cC (aF aV (by rfl) T.z_isinstance boot_isinstance (ac (qv 0) (ac (bD (v:=V.ty "tuple") rfl T.z_tuple boot_tuple rfl) af ad) ad))) (nK (cC (aF aV (by rfl) T.z_isinstance boot_isinstance (ac (qv 0) (ac (bD (v:=V.ty "list") rfl T.z_list boot_list rfl) af ad) ad)))))) (ag (bK (aS ia (aF aV (by rfl) T.z_isinstance boot_isinstance (ac (qv 0) (ac (bD (v:=V.ty "tuple") rfl T.z_tuple boot_tuple rfl) af ad) ad)) (aF aV (by rfl) T.z_isinstance boot_isinstance (ac (qv 1) (ac (bD (v:=V.ty "tuple") rfl T.z_tuple boot_tuple rfl) af ad) ad)) (aQ _)) (aq (aJ hX)) aP)
   (ag (bK (aS ia (aF aV (by rfl) T.z_isinstance boot_isinstance (ac (qv 0) (ac (bD (v:=V.ty "list") rfl T.z_list boot_list rfl) af ad) ad)) (aF aV (by rfl) T.z_isinstance boot_isinstance (ac (qv 1) (ac (bD (v:=V.ty "list") rfl T.z_list boot_list rfl) af ad) ad)) (aQ _)) (aq (aJ hX)) aP)
   (ag (bK (aS ia (aF aR (by rfl) T.z_len boot_len (ac (qv 0) af ad)) (aF aR (by rfl) T.z_len boot_len (ac (qv 1) af ad)) (aQ _)) (aq (aJ hX)) aP)
   (aq hV)))) aP)
   (ag (bK (aS jt (qv 0) fW (aQ _)) (aq (aJ (dB jt (qv 1) fW (aQ _)))) aP)
   (ag (bK (cC (aF aV (by rfl) T.z_isinstance boot_isinstance (ac (qv 0) (ac (bD (v:=V.ty "str") rfl T.z_str boot_str rfl) af ad) ad))) (aq (aJ (fF (aF aV (by rfl) T.z_isinstance boot_isinstance (ac (qv 1) (ac (bD (v:=V.ty "str") rfl T.z_str boot_str rfl) af ad) ad)) (gK (dB dW (qv 1) (qv 0) (aQ _)))))) aP)
   (ag (bK (cC (aF aV (by rfl) T.z_isinstance boot_isinstance (ac (qv 0) (ac (bD (v:=V.ty "bool") rfl T.z_bool boot_bool rfl) af ad) ad))) (aq (aJ (fF (aF aV (by rfl) T.z_isinstance boot_isinstance (ac (qv 1) (ac (bD (v:=V.ty "bool") rfl T.z_bool boot_bool rfl) af ad) ad)) (gK (dB dW (qv 1) (qv 0) (aQ _)))))) aP)
   (aq (aJ (fF (aF aV (by rfl) T.z_isinstance boot_isinstance (ac (qv 1) (ac (bD (v:=V.ty "int") rfl T.z_int boot_int rfl) af ad) ad)) (fF (t0 (aF aV (by rfl) T.z_isinstance boot_isinstance (ac (qv 1) (ac (bD (v:=V.ty "bool") rfl T.z_bool boot_bool rfl) af ad) ad))) (gK (dB dW (qv 1) (qv 0) (aQ _))))))))))) ?_
 extract_lets +lift
 try dsimp -zeta -zetaDelta only [Cx.nox,Cx.wish,bX]
 refine⟨_,rfl,_,_,_,_,rfl,.int i,lu,_,rfl,eZ ?_⟩
 refine⟨_,rfl,_,_,_,_,rfl,.int i,mM,_,rfl,eZ ?_⟩
 refine⟨_,rfl,rfl,_,rfl,bY (by intro z;cases z) ?_⟩
 refine⟨_,rfl,_,_,_,_,rfl,.int i,nX,_,rfl,eZ ?_⟩
 refine⟨_,rfl,_,_,_,_,rfl,.int i,iN,_,rfl,eZ ?_⟩
 refine⟨_,rfl,_,_,_,_,rfl,.int i,nY,_,rfl,gC ?_⟩
 refine⟨_,rfl,_,_,_,_,rfl,.int i,iN,_,rfl,_,rfl,gC ?_⟩
 exact⟨_,rfl,_,rfl,rfl,by rw [decide_eq_true rfl];exact k⟩
theorem j5 (T:fC K mg t):bO P w K mg base eF 1 t.a_Q0 t.d_Q0 ["one", "other"] (gB K):=by
 refine T.F_Q0.ok j3 (fun vs H Q E h=>?_) (fun cdv A outer s H vs Q E hr h=>?_)
 ·obtain⟨_,_,rfl,_⟩:=h;rfl
 obtain⟨a,b,rfl,k⟩:=h
 refine eg.ok (ag (cy 2 j3.nd (aF jI (by rfl) T.z_abs boot_abs (ac (qv 0) af ad)))
   (ag (cy 3 j3.nd (aF jI (by rfl) T.z_abs boot_abs (ac (qv 1) af ad)))
   (ag (hU PassesOwn.never (aS ia (qv 3) ae (aQ _))
   (ag (cy 4 j3.nd (aK fJ (qv 2) (qv 3)))
   (ag (cy 2 j3.nd (qv 3))
   (aq (cy 3 j3.nd (qv 4))))))
   (aq (aJ (qv 2)))))) ?_
 extract_lets +lift
 try dsimp -zeta -zetaDelta only [Cx.nox,Cx.wish,bX]
 refine⟨_,rfl,_,rfl,_,rfl,_,rfl,?_⟩
 rw [oo,oo]
 refine⟨fun m σ H'=>∃ (x y:Int) (v:Option V),σ=[some (.int a),some (.int b),some (.int x),some (.int y),v]/\H'=H/\0≤x/\0≤y/\Int.gcd x y=Int.gcd a b/\m=y.toNat,⟨_,_,_,_,rfl,rfl,by omega,by omega,(by simp [Int.gcd]),rfl⟩,?_⟩
 rintro m σ H' ⟨x,y,v,rfl,rfl,hx,hy,hg,rfl⟩
 refine⟨_,rfl,rfl,_,rfl,?_⟩
 by_cases c:y=0
 ·subst c
  refine jD rfl ?_
  rw [← hg] at k
  refine⟨_,rfl,?_⟩
  have e:(x:Int)=(Int.gcd x 0:Nat):=by simp [Int.gcd];omega
  rw [← e] at k
  exact k
 ·refine uW (fun z=>c (by injection z)) ?_
  refine⟨_,fun _ _ z=>z,?_⟩
  refine⟨_,rfl,_,rfl,_,_,rfl,rfl,(by omega),_,rfl,_,rfl,?_⟩
  refine⟨_,?_,y,x % y,_,rfl,rfl,hy,Int.emod_nonneg _ c,?_,rfl⟩
  ·have:=Int.emod_lt_of_pos x (show 0 < y by omega)
   have:=Int.emod_nonneg x c
   omega
  ·rw [mP hx (by omega),hg]
theorem uA (T:fC K mg t):bO P w K mg base eF 2 t.a_Q31 t.d_Q31 ["top", "bottom"] (rS K):=by
 refine T.F_Q31.ok nF (fun vs H Q E h=>?_) (fun cdv A outer s H vs Q E hr h=>?_)
 ·obtain⟨_,_,rfl,_⟩:=h;rfl
 obtain⟨a,b,rfl,hb,hz,k⟩:=h
 refine eg.ok (ag (bK (aS dW (qv 1) ae (aQ _)) (aq hV) aP)
   (ag (cy 2 nF.nd (bP (j5 T) hr T.m_Q0 T.F_Q0.kp T.b_Q0 (ac (qv 0) (ac (qv 1) af ad) ad)))
   (ag (bK (aS mC (qv 1) ae (aQ _)) (aq (cy 2 nF.nd (dS cP (qv 2)))) aP)
   (aq (aJ (aI (ac (aK oV (qv 0) (qv 2)) (ac (aK oV (qv 1) (qv 2)) af be) be))))))) ?_
 extract_lets +lift
 try dsimp -zeta -zetaDelta only [Cx.nox,Cx.wish,bX]
 have gp:=mQ (a:=a) hb
 have gb:=pB (a:=a) hb hz
 refine⟨_,rfl,rfl,_,rfl,?_⟩
 refine bY (fun z=>by injection z with z;omega) ?_
 refine⟨_,rfl,_,rfl,a,b,rfl,?_⟩
 refine⟨_,rfl,_,_,rfl,rfl,_,rfl,?_⟩
 by_cases hn:b < 0
 ·refine dy hn ?_
  rw [← uK hn] at k
  have gm:(-((Int.gcd a b:Nat):Int)).natAbs < 2 ^ 4000:=by rw [Int.natAbs_neg];exact gb
  refine⟨_,rfl,_,rfl,?_⟩
  refine⟨_,rfl,_,rfl,_,_,rfl,rfl,⟨by omega,gm⟩,_,rfl,_,rfl,_,_,rfl,rfl,⟨by omega,gm⟩,cY,fun p hp=>?_⟩
  exact k p hp
 ·refine bY hn ?_
  rw [← uJ (by omega:0 < b)] at k
  refine⟨_,rfl,_,rfl,_,_,rfl,rfl,⟨by omega,gb⟩,_,rfl,_,rfl,_,_,rfl,rfl,⟨by omega,gb⟩,cY,fun p hp=>?_⟩
  exact k p hp
theorem nR (T:fC K mg t):bO P w K mg base eF 2 t.a_Q35 t.d_Q35 ["one", "other"] (oH K):=by
 refine T.F_Q35.ok kU (fun vs H Q E h=>?_) (fun cdv A outer s H vs Q E hr h=>?_)
 ·obtain⟨_,_,_,_,_,_,rfl,_⟩:=h;rfl
 obtain⟨v,w,r,q,n,m,rfl,hv,hw,wr,wq,hz,k⟩:=h
 refine eg.ok (ag (cy 2 kU.nd (bP (j5 T) hr T.m_Q0 T.F_Q0.kp T.b_Q0 (ac (bf ap (qv 0) ae) (ac (bf ap (qv 1) ae) af aw) aw)))
   (ag (cy 3 kU.nd (aK dk (aK cA (bf ap (qv 0) ae) (aK eO (bf ap (qv 1) ae) (qv 2))) (aK cA (bf ap (qv 1) ae) (aK eO (bf ap (qv 0) ae) (qv 2)))))
   (ag (cy 4 kU.nd (bP (j5 T) hr T.m_Q0 T.F_Q0.kp T.b_Q0 (ac (qv 3) (ac (qv 2) af ad) ad)))
   (aq (aJ (aI (ac (aK eO (qv 3) (qv 4)) (ac (aK cA (aK eO (bf ap (qv 0) ae) (qv 2)) (aK eO (bf ap (qv 1) ae) (qv 4))) af be) be))))))) ?_
 extract_lets +lift
 try dsimp -zeta -zetaDelta only [Cx.nox,Cx.wish,bX]
 obtain⟨p,rfl,hv⟩:=hv
 obtain⟨p',rfl,hw⟩:=hw
 have c1:=bj wr.top (show n≤4000 by omega)
 have c2:=bj wr.bot (show n≤4000 by omega)
 have c3:=bj wq.top (show m≤4000 by omega)
 have c4:=bj wq.bot (show m≤4000 by omega)
 have gp:(0:Int) < (Int.gcd r.2 q.2:Nat):=bI wq.pos
 have gb:=jF (a:=r.2) wq.pos c4
 refine⟨_,rfl,p,_,_,_,rfl,rfl,hv,rfl,_,rfl,p',_,_,_,rfl,rfl,hw,rfl,r.2,q.2,rfl,?_⟩
 have z:=uk ⟨wr.pos,wr.cop⟩ ⟨wq.pos,wq.cop⟩
 have kk:qA H Q (mx r q):=by rw [z];exact k
 unfold mx at kk
 simp only at kk
 generalize ((Int.gcd r.2 q.2:Nat):Int)=d at gp gb kk ⊢
 refine⟨_,rfl,p,_,_,_,rfl,rfl,hv,rfl,_,rfl,p',_,_,_,rfl,rfl,hw,rfl,_,rfl,_,_,rfl,rfl,⟨gp,gb⟩,_,_,rfl,rfl,⟨c1,gf gp c4⟩,_,rfl,p',_,_,_,rfl,rfl,hw,rfl,_,rfl,p,_,_,_,rfl,rfl,hv,rfl,_,rfl,_,_,rfl,rfl,⟨gp,gb⟩,_,_,rfl,rfl,⟨c3,gf gp c2⟩,_,_,rfl,rfl,?_⟩
 refine⟨_,rfl,_,rfl,_,_,rfl,?_⟩
 have ep:(0:Int) < (Int.gcd (r.1 * (q.2 / d)+q.1 * (r.2 / d)) d:Nat):=bI gp
 have eb:=jF (a:=r.1 * (q.2 / d)+q.1 * (r.2 / d)) gp gb
 generalize ((Int.gcd (r.1 * (q.2 / d)+q.1 * (r.2 / d)) d:Nat):Int)=e at ep eb kk ⊢
 refine⟨_,rfl,_,rfl,_,_,rfl,rfl,⟨ep,eb⟩,_,rfl,p,_,_,_,rfl,rfl,hv,rfl,_,rfl,_,_,rfl,rfl,⟨gp,gb⟩,_,rfl,p',_,_,_,rfl,rfl,hw,rfl,_,rfl,_,_,rfl,rfl,⟨ep,eb⟩,_,_,rfl,rfl,⟨gf gp c2,gf ep c4⟩,cY,kk⟩
theorem ln (T:fC K mg t):bO P w K mg base eF 3 t.a_Q32 t.d_Q32 ["one", "other"] (rT K):=by
 refine T.F_Q32.ok yT (fun vs H Q E h=>?_) (fun cdv A outer s H vs Q E hr h=>?_)
 ·obtain⟨_,_,_,_,_,_,rfl,_⟩:=h;rfl
 obtain⟨v,w,r,q,n,m,rfl,hv,hw,wr,wq,hz,k⟩:=h
 refine eg.ok (aq (aJ (bP (nR T) hr T.m_Q35 T.F_Q35.kp T.b_Q35 (ac (qv 0) (ac (aI (ac (dS cP (bf ap (qv 1) ae)) (ac (bf ap (qv 1) ae) af aw) eB)) af aG) ad)))) ?_
 extract_lets +lift
 try dsimp -zeta -zetaDelta only [Cx.nox,Cx.wish,bX]
 obtain⟨p',rfl,hw⟩:=hw
 refine⟨_,rfl,_,rfl,p',_,_,_,rfl,rfl,hw,rfl,_,rfl,_,rfl,p',_,_,_,rfl,rfl,hw,rfl,cY,fun pt ht=>?_⟩
 have s1:=aj ht (.tup [.int (-q.1),.int q.2])
 refine⟨v,.ref pt,r,(-q.1,q.2),n,m,rfl,hv.mono (au.same s1),RV.of ah,wr,⟨wq.pos,by show (-q.1).natAbs < _;rw [Int.natAbs_neg];exact wq.top,wq.bot,vo wq.cop⟩,hz,fun p hp=>?_⟩
 refine k _ _ (s1.trans (aj hp _)) ?_
 rw [← mK]
 exact RV.of ah
theorem iG (T:fC K mg t):bO P w K mg base eF 2 t.a_Q33 t.d_Q33 ["one", "other"] (lW K):=by
 refine T.F_Q33.ok nE (fun vs H Q E h=>?_) (fun cdv A outer s H vs Q E hr h=>?_)
 ·obtain⟨_,_,_,_,_,_,rfl,_⟩:=h;rfl
 obtain⟨v,w,r,q,n,m,rfl,hv,hw,wr,wq,hz,k⟩:=h
 refine eg.ok (ag (cy 2 nE.nd (bP (j5 T) hr T.m_Q0 T.F_Q0.kp T.b_Q0 (ac (bf ap (qv 0) ae) (ac (bf ap (qv 1) ae) af aw) aw)))
   (ag (cy 3 nE.nd (bP (j5 T) hr T.m_Q0 T.F_Q0.kp T.b_Q0 (ac (bf ap (qv 1) ae) (ac (bf ap (qv 0) ae) af aw) aw)))
   (aq (aJ (aI (ac (aK cA (aK eO (bf ap (qv 0) ae) (qv 2)) (aK eO (bf ap (qv 1) ae) (qv 3))) (ac (aK cA (aK eO (bf ap (qv 0) ae) (qv 3)) (aK eO (bf ap (qv 1) ae) (qv 2))) af be) be)))))) ?_
 extract_lets +lift
 try dsimp -zeta -zetaDelta only [Cx.nox,Cx.wish,bX]
 obtain⟨p,rfl,hv⟩:=hv
 obtain⟨p',rfl,hw⟩:=hw
 have c1:=bj wr.top (show n≤4000 by omega)
 have c2:=bj wr.bot (show n≤4000 by omega)
 have c3:=bj wq.top (show m≤4000 by omega)
 have c4:=bj wq.bot (show m≤4000 by omega)
 have lp:(0:Int) < (Int.gcd r.1 q.2:Nat):=bI wq.pos
 have lb:=jF (a:=r.1) wq.pos c4
 have mp:(0:Int) < (Int.gcd q.1 r.2:Nat):=bI wr.pos
 have mb:=jF (a:=q.1) wr.pos c2
 have z:=pZ ⟨wr.pos,wr.cop⟩ ⟨wq.pos,wq.cop⟩
 have kk:qA H Q (jg r q):=by rw [z];exact k
 unfold jg at kk
 simp only at kk
 refine⟨_,rfl,p,_,_,_,rfl,rfl,hv,rfl,_,rfl,p',_,_,_,rfl,rfl,hw,rfl,r.1,q.2,rfl,_,rfl,p',_,_,_,rfl,rfl,hw,rfl,_,rfl,p,_,_,_,rfl,rfl,hv,rfl,q.1,r.2,rfl,?_⟩
 generalize ((Int.gcd r.1 q.2:Nat):Int)=l at lp lb kk ⊢
 generalize ((Int.gcd q.1 r.2:Nat):Int)=m' at mp mb kk ⊢
 refine⟨_,rfl,p,_,_,_,rfl,rfl,hv,rfl,_,rfl,_,_,rfl,rfl,⟨lp,lb⟩,_,rfl,p',_,_,_,rfl,rfl,hw,rfl,_,rfl,_,_,rfl,rfl,⟨mp,mb⟩,_,_,rfl,rfl,⟨gf lp c1,gf mp c3⟩,_,rfl,p,_,_,_,rfl,rfl,hv,rfl,_,rfl,_,_,rfl,rfl,⟨mp,mb⟩,_,rfl,p',_,_,_,rfl,rfl,hw,rfl,_,rfl,_,_,rfl,rfl,⟨lp,lb⟩,_,_,rfl,rfl,⟨gf mp c2,gf lp c4⟩,cY,kk⟩
theorem Ap (T:fC K mg t):bO P w K mg base eF 3 t.a_Q36 t.d_Q36 ["one", "other"] (vZ K):=by
 refine T.F_Q36.ok yS (fun vs H Q E h=>?_) (fun cdv A outer s H vs Q E hr h=>?_)
 ·obtain⟨_,_,_,_,_,_,rfl,_⟩:=h;rfl
 obtain⟨v,w,r,q,n,m,rfl,hv,hw,wr,wq,hz,hq,k⟩:=h
 refine eg.ok (ag (bK (aS dW (bf ap (qv 1) ae) ae (aQ _)) (aq hV) aP)
   (aq (aJ (bP (iG T) hr T.m_Q33 T.F_Q33.kp T.b_Q33 (ac (qv 0) (ac (bP (uA T) hr T.m_Q31 T.F_Q31.kp T.b_Q31 (ac (bf ap (qv 1) ae) (ac (bf ap (qv 1) ae) af aw) aw)) af az) ad))))) ?_
 extract_lets +lift
 try dsimp -zeta -zetaDelta only [Cx.nox,Cx.wish,bX]
 obtain⟨p',rfl,hw⟩:=hw
 refine⟨_,rfl,p',_,_,_,rfl,rfl,hw,rfl,rfl,_,rfl,?_⟩
 refine bY (fun z=>by injection z with z;exact hq z) ?_
 refine⟨_,rfl,_,rfl,p',_,_,_,rfl,rfl,hw,rfl,_,rfl,p',_,_,_,rfl,rfl,hw,rfl,q.2,q.1,rfl,hq,bj wq.top (by omega),fun ps hps=>?_⟩
 have s1:=aj hps (.tup [.int (i6 q.2 q.1).1,.int (i6 q.2 q.1).2])
 refine⟨v,.ref ps,r,i6 q.2 q.1,n,m,rfl,hv.mono (au.same s1),RV.of ah,wr,uH hq wq.bot wq.top,hz,fun p hp=>?_⟩
 refine k _ _ (s1.trans (aj hp _)) ?_
 rw [← xf ⟨wr.pos,wr.cop⟩ hq]
 exact RV.of ah
theorem As (T:fC K mg t):bO P w K mg base eF 1 t.a_Q29 t.d_Q29 ["one", "power"] (qg K):=by
 refine T.F_Q29.ok iA (fun vs H Q E h=>?_) (fun cdv A outer s H vs Q E hr h=>?_)
 ·obtain⟨_,_,_,rfl,_⟩:=h;rfl
 obtain⟨v,r,k₁,rfl,hv,wr,h0,h6,k⟩:=h
 refine eg.ok (ag (cy 2 iA.nd ae)
   (ag (cy 3 iA.nd ae)
   (ag (cM PassesOwn.never rfl (cK rfl T.z_range (ac (qv 1) af ad)) (aN (i:=4) iA.nd rfl (by first | exact Or.inl rfl | exact Or.inr rfl))
   (ag (cy 2 iA.nd (aK cA (qv 2) (bf ap (qv 0) ae)))
   (aq (cy 3 iA.nd (aK cA (qv 3) (bf ap (qv 0) ae))))))
   (aq (aJ (aI (ac (qv 2) (ac (qv 3) af ad) ad))))))) ?_
 extract_lets +lift
 try dsimp -zeta -zetaDelta only [Cx.nox,Cx.wish,bX]
 have kb:=Bx h0 (by omega:k₁≤100)
 obtain⟨p,rfl,hv⟩:=hv
 refine⟨_,rfl,k₁,rfl,kb.1,kb.2,dM (lo:=0) (n:=k₁.toNat) (fun i σ H'=>∃ (x:Option V),σ=[some (.ref p),some (.int k₁),some (.int (r.1 ^ i)),some (.int (r.2 ^ i)),x]/\H'=H) ⟨none,by rw [Int.pow_zero,Int.pow_zero] <;> rfl,rfl⟩ ?_ ?_⟩
 ·rintro i σ H1 hi ⟨x,rfl,rfl⟩
  have b1:=mw (i:=i) wr.top (by omega)
  have b2:=mw (i:=i) wr.bot (by omega)
  refine⟨_,rfl,_,rfl,p,_,_,_,rfl,rfl,hv,rfl,_,_,rfl,rfl,⟨b1,bj wr.top (by decide)⟩,?_⟩
  refine⟨_,rfl,_,rfl,p,_,_,_,rfl,rfl,hv,rfl,_,_,rfl,rfl,⟨b2,bj wr.bot (by decide)⟩,?_⟩
  exact⟨_,by rw [Int.pow_succ,Int.pow_succ] <;> rfl,rfl⟩
 ·rintro σ H1 ⟨x,rfl,rfl⟩
  refine⟨_,rfl,_,rfl,cY,fun q hq=>?_⟩
  have e:=fI ⟨wr.pos,wr.cop⟩ k₁.toNat
  refine k _ _ (aj hq _) ?_
  rw [e]
  exact RV.of ah
theorem uC (T:fC K mg t):bO P w K mg base eF 1 t.a_Q25 t.d_Q25 ["one", "other"] (jj K):=by
 refine T.F_Q25.ok yX (fun vs H Q E h=>?_) (fun cdv A outer s H vs Q E hr h=>?_)
 ·obtain⟨_,_,_,_,_,_,rfl,_⟩:=h;rfl
 obtain⟨v,w,r,q,n,m,rfl,hv,hw,wr,wq,hz,k⟩:=h
 refine eg.ok (aq (aJ (dB mC (aK cA (bf ap (qv 0) ae) (bf ap (qv 1) ae)) (aK cA (bf ap (qv 1) ae) (bf ap (qv 0) ae)) (aQ _)))) ?_
 extract_lets +lift
 try dsimp -zeta -zetaDelta only [Cx.nox,Cx.wish,bX]
 obtain⟨p,rfl,hv⟩:=hv
 obtain⟨p',rfl,hw⟩:=hw
 have c1:=bj wr.top (show n≤4000 by omega)
 have c2:=bj wr.bot (show n≤4000 by omega)
 have c3:=bj wq.top (show m≤4000 by omega)
 have c4:=bj wq.bot (show m≤4000 by omega)
 refine⟨_,rfl,p,_,_,_,rfl,rfl,hv,rfl,_,rfl,p',_,_,_,rfl,rfl,hw,rfl,_,_,rfl,rfl,⟨c1,c4⟩,_,rfl,p',_,_,_,rfl,rfl,hw,rfl,_,rfl,p,_,_,_,rfl,rfl,hv,rfl,_,_,rfl,rfl,⟨c3,c2⟩,_,_,rfl,rfl,k⟩
theorem Aq (T:fC K mg t):bO P w K mg base eF 3 t.a_Q34 t.d_Q34 ["some"] (rQ K):=by
 refine T.F_Q34.ok gI (fun vs H Q E h=>?_) (fun cdv A outer s H vs Q E hr h=>?_)
 ·obtain⟨_,_,_,_,_,rfl,_⟩:=h;rfl
 obtain⟨a,xs,rs,n,D₀,rfl,hS,hR,hWD,h0,hDn₀,hlen,hn,k⟩:=h
 refine eg.ok (ag (cy 1 gI.nd t6)
   (ag (cM PassesOwn.never rfl (zJ (qv 0)) (aN (i:=2) gI.nd rfl (by first | exact Or.inl rfl | exact Or.inr rfl))
   (aq (wC (ym hr) (qv 1) (bf ap (qv 2) ae) (aK dk (ua (ym hr) (qv 1) (bf ap (qv 2) ae) ae ⟨rfl,rfl,rfl,rfl⟩) (bf ap (qv 2) ae)) rfl)))
   (ag (cy 3 gI.nd (gx (v:=.ref t.c_NOUGHT) rfl T.m_NOUGHT rfl))
   (ag (cM PassesOwn.never rfl (tY (qv 1)) (iD rfl (cD (aN (i:=4) gI.nd rfl (by first | exact Or.inl rfl | exact Or.inr rfl)) (cD (aN (i:=5) gI.nd rfl (by first | exact Or.inl rfl | exact Or.inr rfl)) gw)))
   (aq (cy 3 gI.nd (bP (nR T) hr T.m_Q35 T.F_Q35.kp T.b_Q35 (ac (qv 3) (ac (bP (uA T) hr T.m_Q31 T.F_Q31.kp T.b_Q31 (ac (qv 5) (ac (qv 4) af ad) ad)) af az) ad)))))
   (aq (aJ (qv 3))))))) ?_
 extract_lets +lift
 try dsimp -zeta -zetaDelta only [Cx.nox,Cx.wish,bX]
 refine fun D hDn=>⟨_,rfl,?_⟩
 have sD:=aj hDn (.dK [])
 rcases hS with hS | hS
 refine .inl ⟨a,rfl,⟨_,sD.seq hS⟩,eW (K:=K) (a:=a) (xs:=xs) (fun i σ H'=>∃ (x:Option V) (ps:List (Int×Int)),σ=[some (.ref a),some (.ref D),x,none,none,none]/\aO H H'/\H' D=some (.dK (og ps))/\iS n i ps/\(∀ p∈ps,p.1∣(D₀:Int))/\gX ps=gA (rs.take i)) ⟨none,[],rfl,sD,ah,iS.nil n,(fun _ h=>nomatch h),rfl⟩ (fun i σ H1 _ ⟨_,_,_,s1,_⟩=>s1.seq hS) ?_ ?_⟩
 rotate_left 2
 refine .inr ⟨a,rfl,⟨_,au.same sD _ _ hS⟩,pD (K:=K) (a:=a) (xs:=xs) (fun i σ H'=>∃ (x:Option V) (ps:List (Int×Int)),σ=[some (.ref a),some (.ref D),x,none,none,none]/\aO H H'/\H' D=some (.dK (og ps))/\iS n i ps/\(∀ p∈ps,p.1∣(D₀:Int))/\gX ps=gA (rs.take i)) ⟨none,[],rfl,sD,ah,iS.nil n,(fun _ h=>nomatch h),rfl⟩ (fun i σ H1 _ ⟨_,_,_,s1,_⟩=>au.same s1 _ _ hS) ?_ ?_⟩
 all_goals first
  | (
   rintro i y σ H1 hi ⟨x,ps,rfl,s1,hD1,ok,dv,ev⟩
   obtain⟨ry,hry,hyv⟩:=hR.at hi
   have my:ry∈rs:=List.mem_of_getElem? hry
   have hil:=(List.getElem?_eq_some_iff.mp hry).1
   obtain⟨py,rfl,hSy⟩:=hyv.mono (au.same s1)
   have el:(og ps).length=ps.length:=List.length_map _
   have hlp:(og ps).length < sizeLine:=by rw [el];exact aZ (by have:=ok.len;omega)
   refine⟨_,rfl,D,rfl,.inl ⟨_,.inl hD1⟩,_,rfl,py,_,_,_,rfl,rfl,hSy,rfl,_,jW.k (k:=Sum.inl ry.2) hD1,_,rfl,py,_,_,_,rfl,rfl,hSy,rfl,pX ps ry.2,ry.1,pA ps ry.2,rfl,_,rfl,_,rfl,py,_,_,_,rfl,rfl,hSy,rfl,D,_,rfl,qV.k (k:=Sum.inl ry.2) hD1 hlp,?_⟩
   refine⟨_,fB ps ry.2 ry.1,rfl,fun b o q=>?_,?_,ok.add (hWD ry my).1,xG (i:=0) (n:=0) dv (hWD ry my).2,?_⟩
   ·rw [aD (aB q hDn)]
    exact s1 b o q
   ·rw [oP ps _ _ ok.nd]
    exact ah
   ·rw [lV,ev,List.take_add_one,hry]
    exact (jX _ _).symm)
  | (
   rintro σ H1 ⟨x,ps,rfl,s1,hD1,ok,dv,ev⟩
   rw [hR.1,List.take_length] at ev
   rw [hR.1] at ok
   refine⟨_,rfl,D,og ps,rfl,hD1,fun ob=>qN (d:=D) (ob:=ob) (kvs:=og ps) (fun j σ H'=>∃ (u:V) (acc:R) (y4 y5:Option V),σ=[some (.ref a),some (.ref D),x,some u,y4,y5]/\aO H H'/\H' D=some (.frz ob (.dK (og ps)))/\RV K H' u acc/\Bq D₀ (64 * 2 ^ n * j) acc/\val acc=gX (ps.take j)) ⟨_,(0,1),none,none,rfl,?_,ah,⟨_,rfl,T.q_NOUGHT _⟩,⟨by decide,by decide,⟨(D₀:Int),by show (D₀:Int)=1 * D₀;omega⟩,by show 0≤_;exact Nat.zero_le _⟩,eI⟩ (fun i σ H1 ⟨_,_,_,_,_,_,z,_⟩=>z) ?_ ?_⟩
   ·intro b o q
    rw [aD (aB q hDn)]
    exact s1 b o q
   ·rintro j kk v p σ H2 hkv ⟨u,acc,y4,y5,rfl,s2,hD2,r2,w2,ev2⟩ hp
    have hkv':(ps.map fun p=>((Sum.inl p.1:cV),V.int p.2))[j]?=some (kk,v):=hkv
    rw [List.getElem?_map] at hkv'
    obtain⟨q,hq,e⟩:=Option.map_eq_some_iff.mp hkv'
    cases e
    have mq:=List.mem_of_getElem? hq
    have hjl:=(List.getElem?_eq_some_iff.mp hq).1
    have wq:=ok.wf (by omega) mq
    have lps:=ok.len
    have gq:=AN ok dv hlen mq
    have wa:=A7 w2 (by omega) h0 hDn₀
    have bq:=ok.bot q mq
    have e1:=aj hp (.tup [kV (Sum.inl q.1),V.int q.2])
    refine⟨p,_,rfl,bh.of ah,rfl,_,_,rfl,_,_,rfl,rfl,?_⟩
    refine⟨_,rfl,_,rfl,_,rfl,q.2,q.1,rfl,(by have:=bq.1;omega),bj bq.2 (by omega),fun p1 g1=>?_⟩
    rw [oY bq.1]
    have e2:=aj g1 (.tup [.int (df q.2 q.1).1,.int (df q.2 q.1).2])
    refine⟨u,.ref p1,acc,df q.2 q.1,2 * n+12,n+8,rfl,(r2.mono (au.same e1)).mono (au.same e2),RV.of ah,wa,wq,by omega,fun p2 g2=>?_⟩
    have e3:=aj g2 (.tup [.int (aH acc (df q.2 q.1)).1,.int (aH acc (df q.2 q.1)).2])
    have s3:=((e1.trans e2).trans e3)
    refine⟨_,aH acc (df q.2 q.1),_,_,rfl,s2.trans s3,s3 _ _ hD2,RV.of ah,(by rw [Nat.mul_succ];exact Bq.plus h0 w2 gq),?_⟩
    rw [bA w2.pos wq.pos,kx bq.1,ev2,List.take_add_one,hq]
    exact (j0 _ _).symm
   ·rintro σ H2 ⟨u,acc,y4,y5,rfl,s2,hD2,r2,w2,ev2⟩
    have el:(og ps).length=ps.length:=List.length_map _
    rw [el,List.take_length] at ev2
    have es:=rN (fun r hr=>(hWD r hr).1.red) w2.red (ev2.trans ev)
    rw [es] at r2
    exact⟨_,rfl,k u H2 s2 r2⟩)
theorem Cd (T:fC K mg t):bO P w K mg base eF 2 t.a_Q6 t.d_Q6 ["some"] (jh K):=by
 refine T.F_Q6.ok oK (fun vs H Q E h=>?_) (fun cdv A outer s H vs Q E hr h=>?_)
 ·obtain⟨_,_,_,_,rfl,_⟩:=h;rfl
 obtain⟨a,xs,rs,D₀,rfl,hS,al,hn,d0,d1,ok,k⟩:=h
 refine eg.ok (ag (cy 1 oK.nd ae)
   (ag (cM PassesOwn.never rfl (cN (qv 0)) (aN (i:=2) oK.nd rfl (by first | exact Or.inl rfl | exact Or.inr rfl))
   (aq (cy 1 oK.nd (aK gM (qv 1) (aK i4 (bf ap (qv 2) ae) (bP (j5 T) hr T.m_Q0 T.F_Q0.kp T.b_Q0 (ac (qv 1) (ac (bf ap (qv 2) ae) af aw) ad)))))))
   (aq (aJ (dU (N':=["one", "bottom"]) (src:=[none,some 1]) rfl (by exact (cN (qv 0))) (fun _ _ _ _ _=>(by exact (by exact aN (i:=0) (by show List.Nodup (["one", "bottom"]:List Str);decide +kernel) (by exact rfl) (by first | exact Or.inl rfl | exact Or.inr rfl)))) (fun _ _ _ _ _=>gs) (fun _ _ _ _ _=>(by exact (by exact (aK gM (by exact (cE (bH (K:=K) (by exact rfl)) (by exact (qv 0)) ae (by exact fun _ _=>rfl))) (by exact (aK i4 (by exact (qv 1)) (by exact (cE (bH (K:=K) (by exact rfl)) (by exact (qv 0)) ae (by exact fun _ _=>rfl))))))))) (by exact⟨rfl,rfl,rfl,rfl,trivial⟩) rfl (by decide +kernel) rfl (by decide +kernel) (by exact cr rfl ⟨rfl,trivial⟩)))))) ?_
 extract_lets +lift
 try dsimp -zeta -zetaDelta only [Cx.nox,Cx.wish,bX]
 have hlen:=al.len
 refine⟨_,rfl,a,rfl,⟨_,hS⟩,eW (K:=K) (a:=a) (xs:=xs) (fun i σ H'=>∃ (B:Int) (x3:Option V),σ=[some (.ref a),some (.int B),x3]/\H'=H/\0 < B/\B∣(D₀:Int)/\∀ r∈rs.take i,r.2∣B) ⟨1,none,rfl,rfl,by decide,⟨(D₀:Int),by omega⟩,by simp⟩ (fun i σ H1 _ ⟨_,_,_,e,_⟩=>by rw [e];exact hS) ?_ ?_⟩
 ·rintro i x σ H1 hx ⟨B,x3,rfl,rfl,b0,bd,all⟩
  obtain⟨r,hr,px,rfl,hSx⟩:=al.at hx
  obtain⟨c1,c2⟩:=ok r (List.mem_of_getElem? hr)
  have c3:=Int.le_of_dvd (by omega) c2
  have B84:=Int.le_of_dvd (by omega) bd
  have g0:0 < (Int.gcd B r.2:Int):=bI (by omega)
  have g1:(Int.gcd B r.2:Int)≤r.2:=Int.le_of_dvd (by omega) (Int.gcd_dvd_right _ _)
  obtain⟨l0,l1,l2,l3⟩:=DQ b0 c1 bd c2
  refine⟨_,rfl,_,rfl,px,_,_,_,rfl,rfl,hSx,rfl,_,rfl,_,rfl,px,_,_,_,rfl,rfl,hSx,rfl,B,r.2,rfl,_,_,rfl,rfl,⟨by omega,by omega⟩,_,_,rfl,rfl,.inl ⟨by omega,by omega⟩,?_⟩
  refine⟨_,_,rfl,rfl,l0,l1,fun z hz=>?_⟩
  rw [List.take_add_one,hr] at hz
  rcases List.mem_append.mp hz with h | h
  ·exact Int.dvd_trans (all z h) l2
  ·have:z=r:=by simpa using h
   subst this
   exact l3
 ·rintro σ H1 ⟨B,x3,rfl,rfl,b0,bd,all⟩
  rw [hlen,List.take_length] at all
  have B84:=Int.le_of_dvd (by omega) bd
  refine⟨_,rfl,a,rfl,⟨_,hS⟩,fun D hD=>lB (oB hS) (fun _=>true) (fun i=>V.int ((pT B rs).getD i 0)) hD (by omega) (fun i x H' hi s' hx R E kR kE=>?_) fun H4 s4 h4=>?_⟩
  ·obtain⟨r,hr,px,rfl,hSx⟩:=al.at hx
   obtain⟨c1,c2⟩:=ok r (List.mem_of_getElem? hr)
   have c3:=Int.le_of_dvd (by omega) c2
   have t':=au.same (K:=K) s'
   have e:(pT B rs).getD i 0=r.1 * (B / r.2):=dC 0 (by unfold pT;rw [List.getElem?_map,hr];rfl)
   have q:=kR rfl _ (aO.refl _)
   rw [e] at q
   have e0:0≤B / r.2:=Int.ediv_nonneg (by omega) (by omega)
   have e1:B / r.2≤B:=Int.ediv_le_self _ (by omega)
   exact⟨iK.set rfl,_,rfl,px,_,_,_,rfl,rfl,t' _ _ hSx,rfl,_,rfl,_,rfl,px,_,_,_,rfl,rfl,t' _ _ hSx,rfl,_,_,rfl,rfl,⟨by omega,by omega⟩,_,_,rfl,rfl,.inr ⟨by omega,by omega⟩,q⟩
  ·refine k D B H4 s4 hD b0 all ?_
   rw [h4,show xs.length=(pT B rs).length by unfold pT;rw [List.length_map];exact hlen,lE 0 V.int]
theorem Cg (T:fC K mg t) (hB:base.BuiltinsAt mg t.c_LT):bO P w K mg base eF 3 t.a_Q3 t.d_Q3 ["some"] (iy K t.c_LT):=by
 refine B.Fun.okC T.F_Q3 T.lcd yd (fun vs H Q E h=>?_) (fun A outer s H vs Q E hr h=>?_)
 ·obtain⟨_,_,_,_,rfl,_⟩:=h;rfl
 obtain⟨a,xs,rs,D₀,rfl,hS,al,hn,d0,d1,ok,tb,k⟩:=h
 refine eg.ok (ag (cy 1 yd.nd (bP (Cd T) hr T.m_Q6 T.F_Q6.kp T.b_Q6 (ac (qv 0) af ad)))
   (aq (aJ (tZ (c0:=t.c_LC) (T:=t.c_LT) (j:=1) (x := "place") (y := "parts") rfl T.lhd hB (hr.mono (by decide)) rfl ⟨rfl,rfl,rfl,rfl,rfl,rfl⟩ rfl rfl rfl rfl rfl (fun _ _ _ _=>rfl) (fun _ _ _ _ _=>(by exact dS cP (by exact cE (mN (K:=K) (by exact rfl)) (by exact qv 1) (by exact qv 0) (by exact fun _ _=>rfl)))) rfl T.z_sorted (ac (wF rfl T.z_range (ac (aF aR (by rfl) T.z_len boot_len (ac (qv 1) af ad)) af az)) af az))))) ?_
 extract_lets +lift
 try dsimp -zeta -zetaDelta only [Cx.nox,Cx.wish,bX]
 refine⟨_,rfl,a,xs,rs,D₀,rfl,hS,al,hn,d0,d1,ok,fun l B H1 s1 hl b0 bd hl1=>?_⟩
 have lw:(pT B rs).length=rs.length:=List.length_map _
 have lm:((pT B rs).map V.int).length=rs.length:=by rw [List.length_map,lw]
 have qY:∀ {H H':Hp},aO H H'->TB H t.c_LT->TB H' t.c_LT:=fun s tb=>by
  rcases tb with tb | ⟨c,o,vs,tt,h1,h2,h3⟩
  ·exact .inl (s _ _ tb)
  ·exact .inr ⟨c,o,vs,tt,s _ _ h1,s _ _ h2,h3⟩
 refine⟨_,rfl,l,_,rfl,.inl (aW.of hl1),?_⟩
 rw [lm]
 refine⟨_,rfl,fun pr hpr=>?_⟩
 have s2:=aj hpr (.rng 0 rs.length)
 have s02:=s1.trans s2
 refine⟨pr,rs.length,fun i=>-((pT B rs).getD i 0),rfl,ah,by omega,qY s02 tb,fun i H' Qk hi sT q=>?_,fun lo ms H' pm so sT tb' hlo hno=>?_⟩
 ·have nT:l≠t.c_LT:=fun z=>by
   have tb1:=qY s1 tb
   rcases tb1 with e | ⟨_,_,_,_,e,_⟩
   ·rw [z,e] at hl1;cases hl1
   ·rw [z,e] at hl1;cases hl1
  have hg:((pT B rs).map V.int)[i]?=some (V.int ((pT B rs).getD i 0)):=by
   rw [List.getElem?_map,List.getElem?_eq_getElem (by omega),List.getD_eq_getElem?_getD,List.getElem?_eq_getElem (by omega)]
   rfl
  exact⟨_,rfl,_,rfl,l,_,_,_,rfl,rfl,aW.of (sT _ _ nT (s2 _ _ hl1)),bM hg,_,rfl,q⟩
 ·refine k lo ms H' (fun b o nb e=>sT b o nb (s02 _ _ e)) tb' ?_ ⟨pm,?_⟩ hlo
  ·cases e:H lo with
   | none=>rfl
   | some o=>rw [s02 _ _ e] at hno;cases hno
  ·refine List.Pairwise.imp_of_mem (fun {i j} mi mj h=>?_) so
   have hi:i < rs.length:=List.mem_range.mp (pm.mem_iff.mp mi)
   have hj:j < rs.length:=List.mem_range.mp (pm.mem_iff.mp mj)
   have gi:∀ i,i < rs.length->(pT B rs).getD i 0=(rs.getD i (0,1)).1 * (B / (rs.getD i (0,1)).2)/\rs.getD i (0,1)∈rs:=fun i hi=>by
    have e:rs[i]?=some rs[i]:=List.getElem?_eq_getElem hi
    rw [dC (0,1) e]
    exact⟨dC 0 (by unfold pT;rw [List.getElem?_map,e];rfl),List.getElem_mem hi⟩
   obtain⟨e1,m1⟩:=gi i hi
   obtain⟨e2,m2⟩:=gi j hj
   dsimp only at h
   rw [e1,e2] at h
   exact nj b0 (ok _ m1).1 (ok _ m2).1 (bd _ m1) (bd _ m2) h
theorem Cf (T:fC K mg t):bO P w K mg base eF 4 t.a_Q4 t.d_Q4 ["low", "high"] (ix K):=by
 refine T.F_Q4.ok BQ (fun vs H Q E h=>?_) (fun cdv A outer s H vs Q E hr h=>?_)
 ·obtain⟨_,_,_,_,rfl,_⟩:=h;rfl
 obtain⟨v,w,a,b,rfl,⟨p,x,y,rfl,hS,hx,hy⟩,⟨p2,x2,y2,rfl,hS2,hx2,hy2⟩,ok,k⟩:=h
 refine eg.ok (aq (aJ (bP (Ap T) hr T.m_Q36 T.F_Q36.kp T.b_Q36 (ac (bP (ln T) hr T.m_Q32 T.F_Q32.kp T.b_Q32 (ac (bf ap (qv 1) ae) (ac (bf ap (qv 0) ae) af aw) aw)) (ac (bP (ln T) hr T.m_Q32 T.F_Q32.kp T.b_Q32 (ac (bf ap (qv 1) ae) (ac (bf ap (qv 0) ae) af aw) aw)) af az) az)))) ?_
 extract_lets +lift
 try dsimp -zeta -zetaDelta only [Cx.nox,Cx.wish,bX]
 refine⟨_,rfl,p2,_,_,_,rfl,rfl,hS2,rfl,_,rfl,p,_,_,_,rfl,rfl,hS,rfl,y2,y,b.2,a.2,197,197,rfl,hy2,hy,ok.b2,ok.a2,by decide,fun v1 H1 s1 h1=>?_⟩
 refine⟨_,rfl,p2,_,_,_,rfl,rfl,au.same s1 _ _ hS2,rfl,_,rfl,p,_,_,_,rfl,rfl,au.same s1 _ _ hS,rfl,x2,x,b.1,a.1,98,98,rfl,hx2.mono (au.same s1),hx.mono (au.same s1),ok.b1,ok.a1,by decide,fun v2 H2 s2 h2=>?_⟩
 exact⟨v1,v2,_,_,198,99,rfl,h1.mono (au.same s2),h2,ok.w2,ok.w1,by decide,ok.ne,fun v3 H3 s3 h3=>k v3 H3 (s1.trans (s2.trans s3)) h3⟩
theorem Ar (T:fC K mg t):bO P w K mg base eF 1 t.a_Q30 t.d_Q30 ["rule"] (qf K):=by
 refine T.F_Q30.ok yU (fun vs H Q E h=>?_) (fun cdv A outer s H vs Q E hr h=>?_)
 ·obtain⟨_,_,rfl,_⟩:=h;rfl
 obtain⟨v,rl,rfl,hv,ok,k1,k2⟩:=h
 refine eg.ok (ag (bK (aS dW (bf ap (qv 0) ae) (gx (v:=.str "power") rfl T.m_POWER ⟨_,rfl⟩) (aQ _)) (aq (aJ fW)) aP)
   (aq (aJ (bf ap (bf ap (bf ap (qv 0) ae) (dS cP ae)) ae)))) ?_
 extract_lets +lift
 try dsimp -zeta -zetaDelta only [Cx.nox,Cx.wish,bX]
 cases rl with
 | pow kk=>
  obtain⟨p,rfl,hS⟩:=hv
  exact⟨_,rfl,p,_,_,_,rfl,rfl,hS,rfl,rfl,_,rfl,dy rfl (k1 kk rfl)⟩
 | tab rows=>
  obtain⟨p,q,xs,rfl,hS,hq,al⟩:=hv
  have ok':aX rows:=ok
  have n2:=ok'.n2
  obtain⟨xl,w,hat,hw,⟨pw,y1,y2,rfl,hSw,h1,h2⟩,_⟩:=al.last (n:=rows.length - 1) (by omega)
  refine⟨_,rfl,p,_,_,_,rfl,rfl,hS,rfl,rfl,_,rfl,bY (by decide) ?_⟩
  refine⟨_,rfl,p,_,_,_,rfl,rfl,hS,rfl,_,rfl,q,_,_,_,rfl,rfl,hq,hat,pw,_,_,_,rfl,rfl,hSw,rfl,k2 rows _ rfl ?_⟩
  unfold kD
  rw [bF hw]
  exact h1
theorem AB (T:fC K mg t):bO P w K mg base eF 2 t.a_Q11 t.d_Q11 ["rule", "speed"] (kN K):=by
 refine T.F_Q11.ok sj (fun vs H Q E h=>?_) (fun cdv A outer s H vs Q E hr h=>?_)
 ·obtain⟨_,_,_,_,rfl,_⟩:=h;rfl
 obtain⟨v,w,rl,s,rfl,hv,ok,hw,ws,k⟩:=h
 refine eg.ok (ag (cy 2 sj.nd (bP (Ar T) hr T.m_Q30 T.F_Q30.kp T.b_Q30 (ac (qv 0) af ad)))
   (aq (aJ (fF (dB xh (qv 2) fW (aQ _)) (gK (bP (uC T) hr T.m_Q25 T.F_Q25.kp T.b_Q25 (ac (qv 2) (ac (qv 1) af ad) ad))))))) ?_
 extract_lets +lift
 try dsimp -zeta -zetaDelta only [Cx.nox,Cx.wish,bX]
 refine⟨_,rfl,v,rl,rfl,hv,ok,?_,?_⟩
 ·rintro kk rfl
  exact⟨_,rfl,rfl,_,rfl,jD rfl k⟩
 ·rintro rows x rfl hx
  obtain⟨px,rfl,_⟩:=id hx
  have ok':aX rows:=ok
  obtain⟨r,e,er⟩:=o9 ok'
  have wt:Wf 98 (kD rows):=by rw [er];exact yL (ok'.sp r (List.mem_of_getElem? e))
  refine⟨_,rfl,rfl,_,rfl,uW (fun z=>nomatch z) ?_⟩
  exact⟨_,rfl,_,rfl,.ref px,w,kD rows,s,98,98,rfl,hx,hw,wt,ws,by decide,k⟩
theorem Av (T:fC K mg t):bO P w K mg base eF 2 t.a_Q18 t.d_Q18 ["rows", "speed"] (lY K):=by
 refine T.F_Q18.ok nH (fun vs H Q E h=>?_) (fun cdv A outer s H vs Q E hr h=>?_)
 ·obtain⟨_,_,_,_,_,rfl,_⟩:=h;rfl
 obtain⟨q,v,xs,rows,s,rfl,hq,al,ok,hv,hs,hb,k⟩:=h
 refine eg.ok (ag (cy 2 nH.nd ae)
   (ag (hU PassesOwn.never (cC (bP (uC T) hr T.m_Q25 T.F_Q25.kp T.b_Q25 (ac (bf ap (bf ap (qv 0) (qv 2)) ae) (ac (qv 1) af ad) aw)))
   (aq (zH (i:=2) nH.nd rfl (by first | exact Or.inl rfl | exact Or.inr rfl) ae uY)))
   (aq (aJ (qv 2))))) ?_
 extract_lets +lift
 try dsimp -zeta -zetaDelta only [Cx.nox,Cx.wish,bX]
 have pl:=ok.p_lt hs.bq.pos hb
 refine⟨fun m σ H'=>∃ i:Nat,σ=[some (.ref q),some v,some (.int (i:Int))]/\H'=H/\i≤cz rows s/\m=cz rows s - i,⟨_,0,rfl,rfl,Nat.zero_le _,rfl⟩,?_⟩
 rintro m σ H' ⟨i,rfl,rfl,hi,rfl⟩
 have hx0:xs[i]?=some (xs[i]'(by rw [al.len];omega)):=List.getElem?_eq_getElem _
 obtain⟨r,hr,hrv⟩:=al.at hx0
 obtain⟨pa,x,y,ex,hS,hx,hy⟩:=id hrv
 have mr:=List.mem_of_getElem? hr
 refine⟨_,rfl,_,rfl,q,_,_,_,rfl,rfl,hq,bM hx0,pa,_,_,_,ex,rfl,hS,rfl,_,rfl,x,v,r.1,s,98,98,rfl,hx,hv,yL (ok.sp r mr),hs.wf,by decide,_,rfl,?_⟩
 rw [fh hs.bq.pos ok.inc ok.allP hr]
 by_cases c:i < cz rows s
 ·refine dy c ?_
  refine⟨_,fun _ _ z=>z,?_⟩
  exact⟨_,rfl,_,_,rfl,rfl,_,(by omega),i+1,rfl,rfl,c,rfl⟩
 ·refine bY c ?_
  have e:i=cz rows s:=by omega
  subst e
  exact⟨_,rfl,k⟩
theorem uD (T:fC K mg t):bO P w K mg base eF 5 t.a_Q19 t.d_Q19 ["rule", "speed"] (lX K):=by
 refine T.F_Q19.ok jn (fun vs H Q E h=>?_) (fun cdv A outer s H vs Q E hr h=>?_)
 ·obtain⟨_,_,_,_,rfl,_⟩:=h;rfl
 obtain⟨v,w,rl,s,rfl,hv,ok,hw,hs,hbl,k⟩:=h
 refine eg.ok (ag (bK (aS dW (bf ap (qv 0) ae) (gx (v:=.str "power") rfl T.m_POWER ⟨_,rfl⟩) (aQ _)) (aq (aJ (bP (As T) hr T.m_Q29 T.F_Q29.kp T.b_Q29 (ac (qv 1) (ac (bf ap (qv 0) ae) af aw) ad)))) aP)
   (ag (bK (cC (bP (AB T) hr T.m_Q11 T.F_Q11.kp T.b_Q11 (ac (qv 0) (ac (qv 1) af ad) ad))) (aq hV) aP)
   (ag (cy 2 jn.nd (bf ap (qv 0) ae))
   (ag (cy 3 jn.nd (bP (Av T) hr T.m_Q18 T.F_Q18.kp T.b_Q18 (ac (qv 2) (ac (qv 1) af ad) ad)))
   (ag (cy 4 jn.nd (bf ap (qv 2) (qv 3)))
   (ag (bK (aS (uz hr) (bf ap (qv 4) ae) (qv 1) (aQ _)) (aq (aJ (bf ap (qv 4) ae))) aP)
   (ag (cy 5 jn.nd (bf ap (qv 2) (aK iF (qv 3) ae)))
   (aq (aJ (bP (nR T) hr T.m_Q35 T.F_Q35.kp T.b_Q35 (ac (bf ap (qv 5) ae) (ac (bP (iG T) hr T.m_Q33 T.F_Q33.kp T.b_Q33 (ac (bP (Cf T) hr T.m_Q4 T.F_Q4.kp T.b_Q4 (ac (qv 5) (ac (qv 4) af ad) ad)) (ac (bP (ln T) hr T.m_Q32 T.F_Q32.kp T.b_Q32 (ac (qv 1) (ac (bf ap (qv 5) ae) af aw) ad)) af az) az)) af az) aw))))))))))) ?_
 extract_lets +lift
 try dsimp -zeta -zetaDelta only [Cx.nox,Cx.wish,bX]
 cases rl with
 | pow kk=>
  obtain⟨p,rfl,hS⟩:=hv
  have ok':2≤kk/\kk≤4:=ok
  refine⟨_,rfl,p,_,_,_,rfl,rfl,hS,rfl,rfl,_,rfl,dy rfl ?_⟩
  exact⟨_,rfl,_,rfl,p,_,_,_,rfl,rfl,hS,rfl,w,s,kk,rfl,hw,hs.wf,by omega,by omega,k⟩
 | tab rows=>
  have ok':aX rows:=ok
  obtain⟨p,q,xs,rfl,hS,hq,al⟩:=id hv
  refine⟨_,rfl,p,_,_,_,rfl,rfl,hS,rfl,rfl,_,rfl,bY (by decide) ?_⟩
  refine⟨_,rfl,_,rfl,.ref p,w,.tab rows,s,rfl,hv,ok,hw,hs.wf,_,rfl,?_⟩
  cases c:A4 (.tab rows) s with
  | true=>rw [(pL ok).mpr hbl] at c;cases c
  | false=>
   refine eZ ?_
   have hb:=(pL ok).mp c
   have pl:=ok'.p_lt hs.bq.pos hb
   have hx0:xs[cz rows s]?=some (xs[cz rows s]'(by rw [al.len];exact pl)):=List.getElem?_eq_getElem _
   obtain⟨r,hr',hrv⟩:=al.at hx0
   obtain⟨pa,x,y,ex,hSr,hx,hy⟩:=id hrv
   have mr:=List.mem_of_getElem? hr'
   refine⟨_,rfl,p,_,_,_,rfl,rfl,hS,rfl,_,rfl,_,rfl,q,w,xs,rows,s,rfl,hq,al,ok',hw,hs,hb,?_⟩
   refine⟨_,rfl,_,rfl,q,_,_,_,rfl,rfl,hq,bM hx0,?_⟩
   refine⟨_,rfl,pa,_,_,_,ex,rfl,hSr,rfl,_,rfl,dR r.1,dR s,hx.deep,hw.deep,iH _,iH _,mT _,_,rfl,?_⟩
   rw [pE]
   have kb:vU K H Q (jP rows s):=k
   unfold jP at kb
   rw [bF hr'] at kb
   by_cases ce:r.1=s
   ·refine dy ce ?_
    refine⟨_,rfl,pa,_,_,_,ex,rfl,hSr,rfl,?_⟩
    by_cases c0:cz rows s=0
    ·rw [if_pos c0] at kb
     rw [c0] at hr'
     rw [bF hr'] at kb
     exact kb _ _ (aO.refl H) hy
    ·rw [if_neg c0] at kb
     obtain⟨r1,e1⟩:∃ r1,rows[cz rows s - 1]?=some r1:=⟨_,List.getElem?_eq_getElem (by omega)⟩
     rw [bF e1] at kb
     have sl:=wc ok' (by omega) e1 hr'
     have m1:=List.mem_of_getElem? e1
     have le:=uM (ok'.sp _ m1).red (ok'.pw _ m1).red (ok'.sp r mr).red (ok'.pw r mr).red sl.ne
     unfold ic at kb
     rw [← ce,le] at kb
     exact kb _ _ (aO.refl H) hy
   ·refine bY ce ?_
    have c0:cz rows s≠0:=fun z=>by
     have e:=oA ok' hs z
     obtain⟨y0,ey⟩:=ok'.zero
     rw [z,ey] at hr'
     cases hr'
     exact ce e.symm
    rw [if_neg c0] at kb
    have hw0:xs[cz rows s - 1]?=some (xs[cz rows s - 1]'(by rw [al.len];omega)):=List.getElem?_eq_getElem _
    obtain⟨r0,hr0,hrv0⟩:=al.at hw0
    rw [bF hr0] at kb
    obtain⟨pb,x0,y0,ex0,hS0,hx0',hy0⟩:=id hrv0
    have sl:=wc ok' (by omega) hr0 hr'
    obtain⟨wm,wt,wl⟩:=xn sl (ok'.slope (by omega) hr0 hr').2.2.2 hs.wf
    refine⟨_,rfl,_,rfl,_,_,rfl,rfl,q,_,_,_,rfl,rfl,hq,(by rw [show ((cz rows s:Int) - 1)=((cz rows s - 1:Nat):Int) by omega];exact bM hw0),?_⟩
    refine⟨_,rfl,pb,_,_,_,ex0,rfl,hS0,rfl,_,rfl,_,rfl,_,_,r0,r,rfl,hrv0,hrv,sl,fun v3 H3 s3 h3=>?_⟩
    refine⟨_,rfl,_,rfl,pb,_,_,_,ex0,rfl,au.same s3 _ _ hS0,rfl,w,x0,s,r0.1,98,98,rfl,hw.mono (au.same s3),hx0'.mono (au.same s3),hs.wf,sl.a1,by decide,fun v4 H4 s4 h4=>?_⟩
    refine⟨v3,v4,bV r0 r,ai s r0.1,300,197,rfl,h3.mono (au.same s4),h4,(ok'.slope (by omega) hr0 hr').2.2.2,wm,by decide,fun p5 g5=>?_⟩
    have s5:=aj g5 (.tup [.int (ar (bV r0 r) (ai s r0.1)).1,.int (ar (bV r0 r) (ai s r0.1)).2])
    have s35:=(s3.trans s4).trans s5
    refine⟨y0,.ref p5,r0.2,ar (bV r0 r) (ai s r0.1),197,497,rfl,hy0.mono (au.same s35),jp (K:=K) s5,sl.a2,wt,by decide,fun p6 g6=>?_⟩
    have s6:=aj g6 (.tup [.int (aH r0.2 (ar (bV r0 r) (ai s r0.1))).1,.int (aH r0.2 (ar (bV r0 r) (ai s r0.1))).2])
    exact kb _ _ (s35.trans s6) (jp (K:=K) s6)
theorem AA (T:fC K mg t):bO P w K mg base eF 1 t.a_Q12 t.d_Q12 ["work", "turn"] (kO K):=by
 refine T.F_Q12.ok y8 (fun vs H Q E h=>?_) (fun cdv A outer s H vs Q E hr h=>?_)
 ·obtain⟨_,_,_,rfl,_⟩:=h;rfl
 obtain⟨v,w,t₀,rfl,⟨p,x,rfl,hS,rx⟩,k⟩:=h
 refine eg.ok (aq (aJ (ub oW oW (bf ap (qv 0) ae) (qv 1) (bf ap (qv 0) ae)))) ?_
 extract_lets +lift
 try dsimp -zeta -zetaDelta only [Cx.nox,Cx.wish,bX]
 refine⟨_,rfl,p,_,_,_,rfl,rfl,hS,rfl,_,rfl,_,_,rfl,rfl,_,rfl,?_⟩
 by_cases c:w.1≤t₀
 ·refine dy (by omega) ?_
  have e:lK w t₀=decide ((t₀:Int)≤(w.2.1:Int)):=by
   unfold lK
   rw [decide_eq_true c,Bool.true_and]
   exact decide_eq_decide.mpr (by omega)
  rw [e] at k
  exact⟨_,rfl,p,_,_,_,rfl,rfl,hS,rfl,_,_,rfl,rfl,k⟩
 ·refine bY (by omega) ?_
  have e:lK w t₀=false:=by
   unfold lK
   rw [decide_eq_false c,Bool.false_and]
  rw [e] at k
  exact k
theorem Ce (T:fC K mg t):bO P w K mg base eF 2 t.a_Q5 t.d_Q5 ["works", "hands", "order"] (iw K):=by
 refine T.F_Q5.ok mn (fun vs H Q E h=>?_) (fun cdv A outer s H vs Q E hr h=>?_)
 ·obtain⟨_,_,_,_,_,rfl,_⟩:=h;rfl
 obtain⟨v,ws,hh,o,ms,rfl,hv,hn,ho,hm,hml,k⟩:=h
 refine eg.ok (ag (cy 3 mn.nd (aK oU (cu (ac ae af ao)) (aF aR (by rfl) T.z_len boot_len (ac (qv 0) af ad))))
   (ag (cM PassesOwn.never rfl (cK rfl T.z_range (ac (gx (v:=.int (24)) rfl T.m_TURNS ⟨_,rfl⟩) af ad)) (aN (i:=4) mn.nd rfl (by first | exact Or.inl rfl | exact Or.inr rfl))
   (ag (gt (i:=5) (N':=["number", "turn", "works"]) (src:=[none,some 4,some 0]) mn.nd rfl (by first | exact Or.inl rfl | exact Or.inr rfl) rfl (by exact (cN (qv 2))) (fun _ _ _ _ _=>(by exact (by exact aN (i:=0) (by show List.Nodup (["number", "turn", "works"]:List Str);decide +kernel) (by exact rfl) (by first | exact Or.inl rfl | exact Or.inr rfl)))) (fun _ _ _ _ _=>(e9 (cC (by exact (cJ (AA T) (by exact hr.mono (by decide)) (by exact rfl) T.m_Q12 T.F_Q12.kp T.b_Q12 (by exact .nil) (by exact eN) (ac (by exact (cE (bH (K:=K) (by exact rfl)) (by exact (qv 2)) (by exact (qv 0)) (by exact fun _ _=>rfl))) (ac (by exact (qv 1)) af ad) aw)))))) (fun _ _ _ _ _=>(by exact (by exact (qv 0)))) (by exact⟨rfl,rfl,rfl,rfl,⟨rfl,rfl,rfl,rfl,trivial⟩⟩) rfl (by decide +kernel) rfl (by decide +kernel) (by exact cr rfl ⟨rfl,⟨rfl,trivial⟩⟩))
   (aq (cM PassesOwn.never rfl (cN (fz iX (qv 5) gv (gu (qv 1)))) (aN (i:=6) mn.nd rfl (by first | exact Or.inl rfl | exact Or.inr rfl))
   (aq (wD (qv 3) (qv 6) qM ae uY hJ))))))
   (aq (aJ (qv 3))))) ?_
 extract_lets +lift
 try dsimp -zeta -zetaDelta only [Cx.nox,Cx.wish,bX]
 obtain⟨p,xs,rfl,hp,al⟩:=hv
 have hlen:=al.len
 refine⟨Bn,fun l0 hl0=>?_⟩
 have s0:=aj hl0 (.lst [.int 0])
 refine⟨_,rfl,p,_,rfl,.inr (au.same s0 _ _ hp),l0,_,xs.length,rfl,rfl,ah,by omega,fun l hl=>?_⟩
 have s1:=s0.trans (aj hl (.lst (List.replicate xs.length (.int 0))))
 have hl0':H l=none:=by
  cases e:H l with
  | none=>rfl
  | some u=>rw [s0 _ _ e] at hl;cases hl
 have hc0:ax (ax H l0 (.lst [.int 0])) l (.lst (List.replicate xs.length (.int 0))) l=some (.lst (dE (cW ws hh ms 0))):=by rw [ah,qR,hlen]
 generalize ax (ax H l0 (.lst [.int 0])) l (.lst (List.replicate xs.length (.int 0)))=H1 at s1 hc0 ⊢
 refine⟨24,rfl,by decide,by decide,dM (lo:=0) (n:=24) (fun i σ H'=>∃ x4 x5 x6:Option V,σ=[some (.ref p),some (.int hh),some (.ref o),some (.ref l),x4,x5,x6]/\aO H H'/\H' l=some (.lst (dE (cW ws hh ms i)))) ⟨none,none,none,rfl,s1,hc0⟩ ?_ ?_⟩
 ·rintro i σ H2 hi ⟨x4,x5,x6,rfl,sm,hc⟩
  rw [Int.zero_add]
  have t2:=au.same (K:=K) sm
  have hoS:aW K H2 o (dE ms):=aW.of (sm _ _ ho)
  refine⟨_,rfl,o,rfl,⟨_,hoS⟩,fun D hD=>lB (oB hoS) (fun j=>lK (ws.getD (ms.getD j 0) pU) i) (fun j=>V.int ((ms.getD j 0:Nat):Int)) hD (by rw [eP];omega) (fun j x H' hj s' hx R E kR kE=>?_) fun HA sA hA=>?_⟩
  ·rw [eP] at hj
   have em:ms[j]?=some (ms[j]'hj):=List.getElem?_eq_getElem _
   have gm:ms.getD j 0=ms[j]'hj:=dC 0 em
   rw [i5 em] at hx
   cases hx
   rw [gm] at kR kE
   have lt:ms[j]'hj < ws.length:=hm _ (List.getElem_mem hj)
   obtain⟨xw,hxw⟩:∃ y,xs[ms[j]'hj]?=some y:=⟨_,List.getElem?_eq_getElem (by omega)⟩
   obtain⟨w,hw,wv⟩:=al.at hxw
   rw [dC pU hw] at kR kE
   have t':=t2.trans (au.same (K:=K) s')
   refine⟨iK.set rfl,_,rfl,_,rfl,p,_,_,_,rfl,rfl,t' _ _ hp,bM hxw,_,rfl,xw,w,i,rfl,wv.mono t',_,rfl,?_⟩
   cases c:lK w i with
   | true=>exact gC ⟨_,rfl,kR c _ (aO.refl _)⟩
   | false=>exact eZ (kE c _ (aO.refl _))
  have hA':HA D=some (.lst (dE (fU ws ms i))):=by
   rw [hA,eP]
   have:=jJ 0 (fun m=>lK (ws.getD m pU) i) (fun m:Nat=>V.int (m:Int)) ms
   rw [this]
   rfl
  have sm3:=sm.trans sA
  have hc3:=sA _ _ hc
  refine⟨_,rfl,_,rfl,_,rfl,D,_,rfl,aW.of hA',fun D2 hD2=>?_⟩
  rw [i8]
  have e2:(dE (fU ws ms i)).take hh=dE ((fU ws ms i).take hh):=by unfold dE;rw [List.map_take]
  rw [e2]
  have s4:=aj hD2 (.lst (dE ((fU ws ms i).take hh)))
  have hD4:ax HA D2 (.lst (dE ((fU ws ms i).take hh))) D2=some (.lst (dE ((fU ws ms i).take hh))):=ah
  have nl:l≠D2:=aB hc3 hD2
  have hc4:=s4 _ _ hc3
  have sm4:=sm3.trans s4
  generalize ax HA D2 (.lst (dE ((fU ws ms i).take hh)))=H4 at s4 hD4 hc4 sm4 ⊢
  have inT:∀ m∈(fU ws ms i).take hh,m < ws.length:=fun m hm'=>hm m (List.mem_filter.mp (List.mem_of_mem_take hm')).1
  have eC:cW ws hh ms (i+1)=(List.range ws.length).map fun m=>cS ws hh ms i m+((fU ws ms i).take hh).count m:=rfl
  generalize (fU ws ms i).take hh=TH at hD4 inT eC ⊢
  refine⟨D2,rfl,⟨_,aW.of hD4⟩,eW (K:=K) (a:=D2) (xs:=dE TH) (fun j σ H'=>∃ x6:Option V,σ=[some (.ref p),some (.int hh),some (.ref o),some (.ref l),some (.int i),some (.ref D),x6]/\aO H H'/\H' D2=some (.lst (dE TH))/\H' l=some (.lst (dE ((List.range ws.length).map fun m=>cS ws hh ms i m+(TH.take j).count m)))) ⟨x6,rfl,sm4,hD4,?_⟩ (fun j σ H' _ ⟨_,_,_,q,_⟩=>aW.of q) ?_ ?_⟩
  ·rw [hc4];rfl
  ·rintro j x σ H5 hx ⟨x6,rfl,sm5,hD5,hc5⟩
   have hj:j < TH.length:=by have:=(List.getElem?_eq_some_iff.mp hx).1;rw [eP] at this;exact this
   have em:TH[j]?=some (TH[j]'hj):=List.getElem?_eq_getElem _
   rw [i5 em] at hx
   cases hx
   have lt:=inT _ (List.getElem_mem hj)
   generalize TH[j]'hj=mm at em lt ⊢
   have gl:(dE ((List.range ws.length).map fun m=>cS ws hh ms i m+(TH.take j).count m))[mm]?=some (V.int ((cS ws hh ms i mm+(TH.take j).count mm:Nat):Int)):=i5 (by rw [List.getElem?_map,List.getElem?_range lt];rfl)
   refine⟨_,rfl,_,rfl,l,_,mm,_,rfl,rfl,aW.of hc5,gl,_,_,rfl,rfl,l,_,_,mm,rfl,rfl,hc5,xx (by rw [eP,List.length_map,List.length_range];exact lt),?_⟩
   refine⟨_,rfl,fun b u e=>?_,?_,?_⟩
   ·rw [aD (aB e hl0')];exact sm5 _ _ e
   ·rw [aD (Ne.symm nl)];exact hD5
   ·rw [ah]
    dsimp only
    have e1:((cS ws hh ms i mm+(TH.take j).count mm:Nat):Int)+1=((cS ws hh ms i mm+(TH.take j).count mm+1:Nat):Int):=by omega
    rw [e1,uF,wj (g:=fun m=>cS ws hh ms i m+(TH.take (j+1)).count m) (by show _+_=_+_+1;rw [mX em,if_pos rfl];omega) (fun m ne=>by show _+_=_+_;rw [mX em,if_neg (fun z=>ne z.symm)];omega)]
  ·rintro σ H5 ⟨x6,rfl,sm5,hD5,hc5⟩
   rw [eP,List.take_length] at hc5
   exact⟨_,_,_,rfl,sm5,by rw [hc5,eC]⟩
 ·rintro σ H2 ⟨x4,x5,x6,rfl,sm,hc⟩
  exact⟨_,rfl,k l H2 sm hl0' hc⟩
theorem Cc (T:fC K mg t) (hB:base.BuiltinsAt mg t.c_LT):bO P w K mg base eF 6 t.a_Q7 t.d_Q7 ["works", "rule", "hands", "prices"] (ji K t.c_LT):=by
 refine T.F_Q7.ok jm (fun vs H Q E h=>?_) (fun cdv A outer s H vs Q E hr h=>?_)
 ·obtain⟨_,_,_,_,_,_,_,_,rfl,_⟩:=h;rfl
 obtain⟨v,w,ws,rl,hh,pp,ys,prs,rfl,hv,hn,okw,hw,ok,sm,rk,hP,alp,lpw,okp,h9,tb,k⟩:=h
 refine eg.ok (ag (cy 4 jm.nd (bP (Ce T) hr T.m_Q5 T.F_Q5.kp T.b_Q5 (ac (qv 0) (ac (qv 2) (ac (cJ (Cg T hB) (hr.mono (by decide)) rfl T.m_Q3 T.F_Q3.kp T.b_Q3 .nil eN (ac (dU (N':=["price"]) (src:=[none]) rfl (by exact (k8 (qv 3))) (fun _ _ _ _ _=>(by exact (by exact aN (i:=0) (by show List.Nodup (["price"]:List Str);decide +kernel) (by exact rfl) (by first | exact Or.inl rfl | exact Or.inr rfl)))) (fun _ _ _ _ _=>gs) (fun _ _ _ _ _=>(by exact (by exact (cE (bH (K:=K) (by exact rfl)) (by exact (qv 0)) ae (by exact fun _ _=>rfl))))) (by exact trivial) rfl (by decide +kernel) rfl (by decide +kernel) (by exact cr rfl trivial)) af gk)) af az) ad) ad)))
   (ag (cy 5 jm.nd (cu (ac (bP (iG T) hr T.m_Q33 T.F_Q33.kp T.b_Q33 (ac (aI (ac (aK iF (aK gM (gx (v:=.int (24)) rfl T.m_TURNS ⟨_,rfl⟩) (qv 2)) (aF (qS rfl) (by rfl) T.z_sum boot_sum (ac (qv 4) af ad))) (ac ae af ao) be)) (ac (bP (uD T) hr T.m_Q19 T.F_Q19.kp T.b_Q19 (ac (qv 1) (ac (gx (v:=.ref t.c_NOUGHT) rfl T.m_NOUGHT rfl) af ad) ad)) af az) aG)) af az)))
   (ag (cM PassesOwn.never rfl (wE rfl T.z_zip (ac (qv 0) (ac (qv 3) (ac (qv 4) af ad) ad) ad)) (iD rfl (cD (aN (i:=6) jm.nd rfl (by first | exact Or.inl rfl | exact Or.inr rfl)) (cD (aN (i:=7) jm.nd rfl (by first | exact Or.inl rfl | exact Or.inr rfl)) (cD (aN (i:=8) jm.nd rfl (by first | exact Or.inl rfl | exact Or.inr rfl)) gw))))
   (ag (cy 9 jm.nd (bP (ln T) hr T.m_Q32 T.F_Q32.kp T.b_Q32 (ac (bP (uD T) hr T.m_Q19 T.F_Q19.kp T.b_Q19 (ac (qv 1) (ac (bf ap (qv 7) ae) af aw) ad)) (ac (bP (iG T) hr T.m_Q33 T.F_Q33.kp T.b_Q33 (ac (bf ap (qv 7) ae) (ac (bf ap (qv 7) ae) af aw) aw)) af az) az)))
   (ag (fb (iL PySem.F.plainAttrs_list PySem.F.slot_list_append PySem.F.type_list_append dI (qv 5) (ac (bP (iG T) hr T.m_Q33 T.F_Q33.kp T.b_Q33 (ac (bf ap (qv 7) ae) (ac (bf ap (qv 6) ae) af aw) aw)) af az)))
   (aq (fb (iL PySem.F.plainAttrs_list PySem.F.slot_list_append PySem.F.type_list_append dI (qv 5) (ac (bP (iG T) hr T.m_Q33 T.F_Q33.kp T.b_Q33 (ac (aI (ac (qv 8) (ac ae af ao) ad)) (ac (qv 9) af ad) aG)) af az)))))))
   (aq (aJ (bP (Aq T) hr T.m_Q34 T.F_Q34.kp T.b_Q34 (ac (qv 5) af ad))))))) ?_
 extract_lets +lift
 try dsimp -zeta -zetaDelta only [Cx.nox,Cx.wish,bX]
 have lyp:=alp.len
 refine⟨_,rfl,_,rfl,_,rfl,pp,rfl,⟨_,hP⟩,fun D hD=>qP (K:=K) (P:=RV K) (ds:=prs) (f:=fun r:R×R=>r.2) (fun _ _ _ _ t z=>z.mono t) hD hP lyp (by omega) (fun i x d H' hx hd s' R E kR=>?_) fun HA qs sA hA aA=>?_⟩
 ·obtain⟨d',hd',pr,a,b,rfl,hSr,ra,rb⟩:=alp.at hx
  rw [hd] at hd'
  cases hd'
  have t':=au.same (K:=K) s'
  exact⟨iK.set rfl,_,rfl,pr,_,_,_,rfl,rfl,t' _ _ hSr,rfl,kR _ _ (aO.refl _) (rb.mono t')⟩
 refine⟨D,qs,prs.map (fun r:R×R=>r.2),DG,rfl,aW.of hA,aA,by rw [List.length_map];omega,by decide,by decide,(fun r hr=>?_),qY sA tb,fun lo ms HB sB tbB hlo0 fo hlo=>?_⟩
 ·obtain⟨q,hq,rfl⟩:=List.mem_map.mp hr
  exact⟨(okp q hq).bq.pos,(okp q hq).bq.dvd⟩
 have lms:ms.length=ws.length:=by rw [fo.1.length_eq,List.length_range,List.length_map,lpw]
 have inM:∀ m∈ms,m < ws.length:=fun m hm=>by
  have:=List.mem_range.mp (fo.1.mem_iff.mp hm)
  rw [List.length_map,lpw] at this
  exact this
 have sT:gG t.c_LT H HB:=fun b o nb e=>sB b o nb (sA _ _ e)
 have tAB:=j4 (K:=K) sT tb
 refine⟨v,ws,hh,lo,ms,rfl,hv.mono tAB,by omega,hlo,inM,by omega,fun lc HC sC hlc0 hlc=>?_⟩
 have sTC:gG t.c_LT H HC:=fun b o nb e=>sC _ _ (sT b o nb e)
 have tbC:=qY sC tbB
 have tC:=tAB.trans (au.same (K:=K) sC)
 replace hv:=hv.mono tC
 replace hw:=hw.mono tC
 replace hP:=tC _ _ hP
 replace alp:=alp.mono fun _ _ q=>q.mono tC
 clear hA aA hlo sB tbB sT tAB sA sC tC tb
 obtain⟨p,xs,rfl,hp,al⟩:=hv
 have hlen:=al.len
 have lc24:(cW ws hh ms 24).length=ws.length:=by unfold cW;rw [List.length_map,List.length_range]
 have csum:(cW ws hh ms 24).sum≤216:=by
  have:=lD (h:=hh) inM
  omega
 refine⟨_,rfl,_,_,rfl,rfl,.inl ⟨by decide,by decide⟩,_,rfl,lc,_,rfl,uG _ ▸ aW.of hlc,_,_,rfl,rfl,cY,fun p1 hp1=>?_⟩
 rw [mF]
 dsimp only
 generalize hz:(24:Int) * (hh:Int) - ((cW ws hh ms 24).sum:Nat)=z0
 have bz:Bq 1 216 ((z0,1):R):=vP (by omega)
 have e0:iE ws rl hh prs ms 0=[ar (z0,1) (dz rl (0,1))]:=by
  have:(((24 * hh:Nat):Int) - ((cW ws hh ms 24).sum:Nat))=z0:=by omega
  show [ar (((24 * hh:Nat):Int) - ((cW ws hh ms 24).sum:Nat),1) (dz rl (0,1))]=_
  rw [this]
 have s1:=aj hp1 (.tup [.int z0,.int 1])
 have r1:RV K (ax HC p1 (.tup [.int z0,.int 1])) (.ref p1) (z0,1):=RV.of ah
 generalize ax HC p1 (.tup [.int z0,.int 1])=H1 at s1 r1 ⊢
 have t1:=au.same (K:=K) s1
 have bp0:=eD ok rk sm cF.1 cF.ok (dH ok)
 refine⟨_,rfl,w,.ref t.c_NOUGHT,rl,(0,1),rfl,hw.mono t1,ok,⟨_,rfl,T.q_NOUGHT _⟩,cF.ok,dH ok,fun u2 H2 s2 r2=>?_⟩
 refine⟨.ref p1,u2,(z0,1),dz rl (0,1),10,50,rfl,r1.mono (au.same s2),r2,bz.wf (by decide) (by decide) (by decide),bp0.wf (by decide) (by decide) (by decide),by decide,fun p3 hp3=>?_⟩
 generalize ar (z0,1) (dz rl (0,1))=q0 at e0 ⊢
 have s3:=aj hp3 (.tup [.int q0.1,.int q0.2])
 have r3:RV K (ax H2 p3 (.tup [.int q0.1,.int q0.2])) (.ref p3) q0:=RV.of ah
 generalize ax H2 p3 (.tup [.int q0.1,.int q0.2])=H3 at s3 r3 ⊢
 refine⟨Bn,fun lp hlp=>?_⟩
 have s4:=aj hlp (.lst [.ref p3])
 have hq4:ax H3 lp (.lst [.ref p3]) lp=some (.lst [.ref p3]):=ah
 have s14:=((s1.trans s2).trans s3).trans s4
 have al4:bU (RV K (ax H3 lp (.lst [.ref p3]))) [.ref p3] (iE ws rl hh prs ms 0):=by rw [e0];exact .cons (r3.mono (au.same s4)) .nil
 have hlpC:HC lp=none:=by
  cases e:HC lp with
  | none=>rfl
  | some u=>rw [((s1.trans s2).trans s3) _ _ e] at hlp;cases hlp
 generalize ax H3 lp (.lst [.ref p3])=H4 at s4 hq4 s14 al4 ⊢
 have t4:=au.same (K:=K) s14
 replace hw:=hw.mono t4
 replace hP:=t4 _ _ hP
 replace alp:=alp.mono fun _ _ q=>q.mono t4
 replace hp:=t4 _ _ hp
 replace al:=al.mono fun _ _ q=>q.mono t4
 have nlc:lc≠lp:=aB hlc hlpC
 have hlc4:=s14 _ _ hlc
 clear s1 s2 s3 s4 r1 r2 r3 t1 e0 bz bp0 t4
 refine⟨_,rfl,_,rfl,_,rfl,p,pp,lc,rfl,⟨_,hp⟩,⟨_,hP⟩,⟨_,aW.of hlc4⟩,u9 (K:=K) (a:=p) (b:=pp) (c:=lc) (n:=ws.length) (fun i σ H'=>∃ (x6 x7 x8 x9:Option V) (qs:List V),σ=[some (.ref p),some w,some (.int hh),some (.ref pp),some (.ref lc),some (.ref lp),x6,x7,x8,x9]/\(∀ b o,b≠lp->H4 b=some o->H' b=some o)/\au K H4 H'/\H' lp=some (.lst qs)/\bU (RV K H') qs (iE ws rl hh prs ms i)) hlen (lyp.trans lpw) (eP.trans lc24) ⟨none,none,none,none,_,rfl,fun _ _ _ q=>q,au.refl _ _,hq4,al4⟩ (fun i σ H' _ ⟨_,_,_,_,_,_,kp,tt,_⟩=>⟨tt _ _ hp,tt _ _ hP,aW.of (kp _ _ nlc hlc4)⟩) ?_ ?_⟩
 ·rintro i x y z pt σ HI hi hx hy hz' ⟨x6,x7,x8,x9,qs,rfl,kp,tI,hq,alq⟩ hpt
  obtain⟨wk,hwk,pw,xa,rfl,hSw,ra⟩:=al.at hx
  obtain⟨r,hr',pr,a,b,rfl,hSr,rva,rvb⟩:=alp.at hy
  have ez:(dE (cW ws hh ms 24))[i]?=some (V.int ((cS ws hh ms 24 i:Nat):Int)):=i5 (by unfold cW;rw [List.getElem?_map,List.getElem?_range hi];rfl)
  rw [ez] at hz'
  cases hz'
  have c216:=yI (h:=hh) inM hi h9
  have ePr:iE ws rl hh prs ms (i+1)=iE ws rl hh prs ms i++[ar r.2 wk.2.2]++[ar (((cS ws hh ms 24 i:Nat):Int),1) (dQ rl r)]:=by
   show iE ws rl hh prs ms i++[ar (fR prs i).2 (ko ws i)]++[ar (((cS ws hh ms 24 i:Nat):Int),1) (dQ rl (fR prs i))]=_
   rw [show fR prs i=r from dC cU hr',show ko ws i=wk.2.2 by unfold ko;rw [dC pU hwk]]
  generalize cS ws hh ms 24 i=ci at c216 ePr ⊢
  have pk:=okp r (List.mem_of_getElem? hr')
  have bam:=vy (okw wk (List.mem_of_getElem? hwk)).am
  have bpw:=eD ok rk sm pk.sp.1 pk.sp.ok pk.bl
  have bsv:=iC ok rk sm pk
  have btm:=Bq.times pk.bq pk.sp.1
  have s1:=aj hpt (.tup [.ref pw,.ref pr,.int ((ci:Nat):Int)])
  refine⟨pt,_,rfl,bh.of ah,rfl,_,_,rfl,_,_,rfl,_,_,rfl,rfl,?_⟩
  generalize ax HI pt (.tup [.ref pw,.ref pr,.int ((ci:Nat):Int)])=H1 at s1 ⊢
  have t1:=tI.trans (au.same (K:=K) s1)
  refine⟨_,rfl,_,rfl,pr,_,_,_,rfl,rfl,t1 _ _ hSr,rfl,w,a,rl,r.1,rfl,hw.mono t1,ok,rva.mono t1,pk.sp.ok,pk.bl,fun u2 H2 s2 r2=>?_⟩
  have t2:=t1.trans (au.same (K:=K) s2)
  refine⟨_,rfl,pr,_,_,_,rfl,rfl,t2 _ _ hSr,rfl,_,rfl,pr,_,_,_,rfl,rfl,t2 _ _ hSr,rfl,b,a,r.2,r.1,140,98,rfl,rvb.mono t2,rva.mono t2,pk.wf,pk.sp.wf,by decide,fun p3 hp3=>?_⟩
  have eS:dQ rl r=ai (dz rl r.1) (ar r.2 r.1):=rfl
  generalize ar r.2 r.1=tm at btm eS ⊢
  have s3:=aj hp3 (.tup [.int tm.1,.int tm.2])
  have r3:RV K (ax H2 p3 (.tup [.int tm.1,.int tm.2])) (.ref p3) tm:=RV.of ah
  generalize ax H2 p3 (.tup [.int tm.1,.int tm.2])=H3 at s3 r3 ⊢
  refine⟨u2,.ref p3,dz rl r.1,tm,50,60,rfl,r2.mono (au.same s3),r3,bpw.wf (by decide) (by decide) (by decide),btm.wf (by decide) (by decide) (by decide),by decide,fun u4 HS s4 r4=>?_⟩
  rw [← eS] at r4
  generalize dQ rl r=sv at bsv r4 ePr
  have s14':=((s1.trans s2).trans s3).trans s4
  have t4:=tI.trans (au.same (K:=K) s14')
  have hqS:=s14' _ _ hq
  have alS:=alq.mono fun _ _ z=>z.mono (au.same s14')
  clear s1 s2 s3 s4 r2 r3 t1 t2 eS
  refine⟨_,rfl,.inl ⟨rfl,_,aW.of hqS⟩,_,rfl,pr,_,_,_,rfl,rfl,t4 _ _ hSr,rfl,_,rfl,pw,_,_,_,rfl,rfl,t4 _ _ hSw,rfl,b,xa,r.2,wk.2.2,140,20,rfl,rvb.mono t4,ra.mono t4,pk.wf,bam.wf (by decide) (by decide) (by decide),by decide,fun p5 hp5=>?_⟩
  generalize ar r.2 wk.2.2=ga at ePr ⊢
  have s5:=aj hp5 (.tup [.int ga.1,.int ga.2])
  have r5:RV K (ax HS p5 (.tup [.int ga.1,.int ga.2])) (.ref p5) ga:=RV.of ah
  have hq5:=s5 _ _ hqS
  have lq:=alq.len
  rw [k9] at lq
  refine⟨lp,qs,_,rfl,rfl,hq5,aZ (by omega),?_⟩
  have tu:=au.up (K:=K) hq5 (qs++[.ref p5])
  have kp5:∀ b o,b≠lp->H4 b=some o->ax (ax HS p5 (.tup [.int ga.1,.int ga.2])) lp (.lst (qs++[.ref p5])) b=some o:=fun b o nb e=>by rw [aD nb];exact s5 _ _ (s14' _ _ (kp b o nb e))
  have tSU:=(au.same (K:=K) s5).trans tu
  have al5:=(alS.mono fun _ _ z=>z.mono tSU).snoc (r5.mono tu)
  have r45:=r4.mono tSU
  have tI5:=t4.trans tSU
  have hq6:ax (ax HS p5 (.tup [.int ga.1,.int ga.2])) lp (.lst (qs++[.ref p5])) lp=some (.lst (qs++[.ref p5])):=ah
  generalize ax (ax HS p5 (.tup [.int ga.1,.int ga.2])) lp (.lst (qs++[.ref p5]))=H5 at kp5 al5 r45 tI5 hq6 ⊢
  clear tu tSU hq5 s5 r5 alS r4 hqS s14' alq hq kp tI t4
  refine⟨_,rfl,.inl ⟨rfl,_,aW.of hq6⟩,_,rfl,cY,fun p6 hp6=>?_⟩
  have s6:=aj hp6 (.tup [.int ((ci:Nat):Int),.int 1])
  have r6:RV K (ax H5 p6 (.tup [.int ((ci:Nat):Int),.int 1])) (.ref p6) (((ci:Nat):Int),1):=RV.of ah
  generalize ax H5 p6 (.tup [.int ((ci:Nat):Int),.int 1])=H6 at s6 r6 ⊢
  have bc:Bq 1 216 ((((ci:Nat):Int),1):R):=vP (by omega)
  refine⟨_,rfl,.ref p6,u4,(((ci:Nat):Int),1),sv,10,70,rfl,r6,r45.mono (au.same s6),bc.wf (by decide) (by decide) (by decide),bsv.wf (by decide) (by decide) (by decide),by decide,fun p7 hp7=>?_⟩
  generalize ar (((ci:Nat):Int),1) sv=cs at ePr ⊢
  have s7:=aj hp7 (.tup [.int cs.1,.int cs.2])
  have r7:RV K (ax H6 p7 (.tup [.int cs.1,.int cs.2])) (.ref p7) cs:=RV.of ah
  have s67:=s6.trans s7
  have hq7:=s67 _ _ hq6
  refine⟨lp,qs++[.ref p5],_,rfl,rfl,hq7,aZ (by rw [List.length_append];show qs.length+1≤_;omega),?_⟩
  have tu:=au.up (K:=K) hq7 (qs++[.ref p5]++[.ref p7])
  have tSU:=(au.same (K:=K) s67).trans tu
  refine⟨_,_,_,_,_,rfl,fun b o nb e=>?_,tI5.trans tSU,ah,?_⟩
  ·rw [aD nb];exact s67 _ _ (kp5 b o nb e)
  ·rw [ePr];exact (al5.mono fun _ _ z=>z.mono tSU).snoc (r7.mono tu)
 ·rintro σ HI ⟨x6,x7,x8,x9,qs,rfl,kp,tI,hq,alq⟩
  refine⟨_,rfl,lp,qs,iE ws rl hh prs ms ws.length,70,DA,rfl,.inl (aW.of hq),xF alq,(fun r hr=>?_),by decide,by decide,by rw [k9];omega,by decide,fun u HZ sZ rZ=>?_⟩
  ·have bq:=nN ok rk sm okw okp lpw inM h9 _ (Nat.le_refl _) r hr
   exact⟨bq.wf (by decide) (by decide) (by decide),bq.dvd⟩
  ·have nT:t.c_LT≠lp:=fun z=>by
    obtain⟨ps,e⟩:=TB.tbl tbC
    rw [z,hlpC] at e
    cases e
   have back:gG t.c_LT H HZ:=fun b o nb e=>by
    have eC:=sTC b o nb e
    exact sZ _ _ (kp b o (aB eC hlpC) (s14 _ _ eC))
   refine k u ms HZ back ?_ fo rZ
   rcases tbC with e | ⟨c,o,vs,tt,h1,h2,h3⟩
   ·exact .inl (sZ _ _ (kp _ _ nT (s14 _ _ e)))
   ·exact .inr ⟨c,o,vs,tt,sZ _ _ (kp _ _ nT (s14 _ _ h1)),sZ _ _ (kp _ _ (aB h2 hlpC) (s14 _ _ h2)),h3⟩
theorem Au (T:fC K mg t):bO P w K mg base eF 1 t.a_Q20 t.d_Q20 ["_law_script"] (l8 K):=by
 refine T.F_Q20.ok yZ (fun vs H Q E h=>?_) (fun cdv A outer s H vs Q E hr h=>?_)
 ·obtain⟨_,_,rfl,_⟩:=h;rfl
 obtain⟨a,ns,rfl,hS,hl,k⟩:=h
 refine eg.ok (aq (aJ (cu (ac (qv 0) (ac ae (ac ae af ao) ao) ad)))) ?_
 extract_lets +lift
 try dsimp -zeta -zetaDelta only [Cx.nox,Cx.wish,bX]
 refine⟨_,rfl,xN,fun t ht=>?_⟩
 exact k t _ (aj ht _) ht (bG.mk3 hS hl ht)
theorem bW (T:fC K mg t):bO P w K mg base eF 1 t.a_Q21 t.d_Q21 ["_law_tape_here", "_law_many"] (mf K):=by
 refine T.F_Q21.ok iB (fun vs H Q E h=>?_) (fun cdv A outer s H vs Q E hr h=>?_)
 ·obtain⟨_,_,_,rfl,_⟩:=h;rfl
 obtain⟨t₁,s₁,m,rfl,tp,hm0,hm1,k⟩:=h
 refine eg.ok (ag (bK (aS dW (bf bE (qv 0) ae) ae (aQ _)) (ag (cy 2 iB.nd (bf bE (qv 0) ae))
   (ag (jq (aK dk (qv 2) ae) (nM (qv 0) ae hJ))
   (ag (cy 3 iB.nd (qv 2))
   (ag (bK (aS oX (aF aR (by rfl) T.z_len boot_len (ac (bf bE (qv 0) ae) af aw)) ae (aQ _)) (aq (cy 3 iB.nd (bf bE (bf bE (qv 0) ae) (aK fJ (qv 2) (aF aR (by rfl) T.z_len boot_len (ac (bf bE (qv 0) ae) af aw)))))) aP)
   (ag (bK (mo (tT (aS mC (qv 3) (aK Al ae ae) (aQ _)) (nK (aS B8 (qv 2) (aF aR (by rfl) T.z_len boot_len (ac (bf bE (qv 0) ae) af aw)) (aQ _))))) (ag (cy 4 iB.nd (aK fJ (aK gM (aK dk (aK fJ (qv 3) ae) ae) (aK dk ae (aK gM ae (aK fJ (qv 2) ae)))) ae))
   (aq (aJ (aK fJ (aK i4 (aK fJ (aK gM (aK dk (qv 4) (aK gM ae (qv 2))) ae) ae) ae) (qv 1))))) aP)
   (aq (jq (qv 3) (nM (qv 0) ae hJ)))))))) aP)
   (ag (cy 5 iB.nd (aK fJ (bf bE (qv 0) ae) (qv 1)))
   (ag (jq (aK i4 (bf bE (qv 0) ae) (qv 1)) (nM (qv 0) ae hJ))
   (aq (aJ (qv 5)))))) ?_
 extract_lets +lift
 try dsimp -zeta -zetaDelta only [Cx.nox,Cx.wish,bX]
 obtain⟨ns,p,q,ht,hs,hlen,hp0,hq0⟩:=tp.ex
 have hs':∀ o,aW K (ax H t₁ o) s₁ (ns.map V.int):=fun o=>hs.elim (fun z=>.inl (k6 z.1 z.2.symm)) fun z=>z _
 have tap:∀ (p' q':Int),0≤p'->0≤q'->bG K (ax H t₁ (.lst [.ref s₁,.int p',.int q'])) t₁ s₁:=fun p' q' a b=>⟨ns,p',q',ah,hs.elim (fun z=>.inl ⟨k6 z.1 z.2.symm,z.2⟩) fun z=>.inr z,hlen,a,b⟩
 have hl:((ns.map V.int).length:Int)=(ns.length:Int):=by rw [List.length_map]
 refine⟨_,rfl,t₁,_,_,_,rfl,rfl,aW.of ht,rfl,rfl,_,rfl,?_⟩
 by_cases c0:q=0
 ·refine dy (by rw [c0]) ?_
  refine⟨_,rfl,t₁,_,_,_,rfl,rfl,aW.of ht,rfl,?_⟩
  refine⟨_,rfl,_,_,rfl,rfl,_,rfl,t₁,_,_,_,rfl,rfl,ht,rfl,?_⟩
  refine⟨_,rfl,?_⟩
  refine⟨_,rfl,t₁,_,_,_,rfl,rfl,aW.of ah,rfl,s₁,_,rfl,.inl (hs' _),_,_,rfl,rfl,_,rfl,?_⟩
  refine qH (fun c9=>?_) (fun _=>?_)
  ·have c8:(0:Int) < (ns.length:Int):=by
    have c7:(0:Int) < ((ns.map V.int).length:Int):=of_decide_eq_true c9
    rw [hl] at c7;exact c7
   obtain⟨z,hz⟩:=B2 (ns:=ns) (r:=p % (ns.length:Int)) (Int.emod_nonneg _ (by omega)) (Int.emod_lt_of_pos _ c8)
   rw [← hl] at hz c8
   refine⟨_,rfl,t₁,_,_,_,rfl,rfl,aW.of ah,rfl,_,rfl,_,rfl,t₁,_,_,_,rfl,rfl,aW.of ah,rfl,s₁,_,rfl,.inl (hs' _),_,_,rfl,rfl,c8,s₁,_,_,_,rfl,rfl,hs' _,hz,?_⟩
   refine⟨_,rfl,_,_,rfl,rfl,⟨by decide,by decide,by decide⟩,_,_,rfl,rfl,_,rfl,?_⟩
   refine qH (fun _=>?_) (fun d1=>?_)
   ·refine gC ?_
    refine⟨_,rfl,_,_,rfl,rfl,(by show (0:Int) < _;decide),_,_,rfl,rfl,_,rfl,_,_,rfl,rfl,(by show (0:Int) < _;decide),_,_,rfl,rfl,.inl ⟨by omega,by omega⟩,_,_,rfl,rfl,_,_,rfl,rfl,.inl ⟨by omega,by omega⟩,_,_,rfl,rfl,(by show (0:Int) < _;decide),?_⟩
    refine⟨_,rfl,_,rfl,_,_,rfl,rfl,.inl ⟨by omega,by omega⟩,_,_,rfl,rfl,_,_,rfl,rfl,.inr ⟨by decide,by decide⟩,_,_,rfl,rfl,(by show (0:Int) < _;decide),_,_,rfl,rfl,⟨by decide,by decide⟩,_,rfl,_,_,rfl,rfl,hm0,?_⟩
    exact k _ _ (Int.emod_nonneg _ (by omega)) (Int.emod_lt_of_pos _ hm0) (tap (p+1) q (by omega) hq0)
   ·refine⟨_,rfl,_,rfl,t₁,_,_,_,rfl,rfl,aW.of ah,rfl,s₁,_,rfl,.inl (hs' _),_,_,rfl,rfl,_,rfl,?_⟩
    refine qH (fun _=>?_) (fun _=>?_)
    ·refine⟨_,rfl,_,_,rfl,rfl,(by show (0:Int) < _;decide),_,_,rfl,rfl,_,rfl,_,_,rfl,rfl,(by show (0:Int) < _;decide),_,_,rfl,rfl,.inl ⟨by omega,by omega⟩,_,_,rfl,rfl,_,_,rfl,rfl,.inl ⟨by omega,by omega⟩,_,_,rfl,rfl,(by show (0:Int) < _;decide),?_⟩
     refine⟨_,rfl,_,rfl,_,_,rfl,rfl,.inl ⟨by omega,by omega⟩,_,_,rfl,rfl,_,_,rfl,rfl,.inr ⟨by decide,by decide⟩,_,_,rfl,rfl,(by show (0:Int) < _;decide),_,_,rfl,rfl,⟨by decide,by decide⟩,_,rfl,_,_,rfl,rfl,hm0,?_⟩
     exact k _ _ (Int.emod_nonneg _ (by omega)) (Int.emod_lt_of_pos _ hm0) (tap (p+1) q (by omega) hq0)
    ·have d2:(0:Int)≤z:=by
      have d3:1000000000000000000≤z:=by simpa using d1
      omega
     refine⟨_,rfl,_,rfl,t₁,_,_,_,rfl,rfl,ah,rfl,?_⟩
     rw [iV]
     refine⟨_,rfl,t₁,_,_,_,rfl,rfl,aW.of ah,rfl,_,rfl,_,_,rfl,rfl,hm0,?_⟩
     refine⟨_,rfl,t₁,_,_,_,rfl,rfl,aW.of ah,rfl,_,rfl,_,_,rfl,rfl,⟨hm0,hm1⟩,_,rfl,t₁,_,_,_,rfl,rfl,ah,rfl,?_⟩
     refine⟨_,rfl,?_⟩
     rw [iV]
     exact k _ _ (Int.emod_nonneg _ (by omega)) (Int.emod_lt_of_pos _ hm0) (tap (p+1) (z / m) (by omega) (Int.ediv_nonneg d2 (by omega)))
  ·obtain⟨z,hz⟩:∃ z,z=p:=⟨_,rfl⟩
   refine⟨_,rfl,_,_,rfl,rfl,⟨by decide,by decide,by decide⟩,_,_,rfl,rfl,_,rfl,?_⟩
   refine qH (fun _=>?_) (fun d1=>?_)
   ·refine gC ?_
    refine⟨_,rfl,_,_,rfl,rfl,(by show (0:Int) < _;decide),_,_,rfl,rfl,_,rfl,_,_,rfl,rfl,(by show (0:Int) < _;decide),_,_,rfl,rfl,.inl ⟨by omega,by omega⟩,_,_,rfl,rfl,_,_,rfl,rfl,.inl ⟨by omega,by omega⟩,_,_,rfl,rfl,(by show (0:Int) < _;decide),?_⟩
    refine⟨_,rfl,_,rfl,_,_,rfl,rfl,.inl ⟨by omega,by omega⟩,_,_,rfl,rfl,_,_,rfl,rfl,.inr ⟨by decide,by decide⟩,_,_,rfl,rfl,(by show (0:Int) < _;decide),_,_,rfl,rfl,⟨by decide,by decide⟩,_,rfl,_,_,rfl,rfl,hm0,?_⟩
    exact k _ _ (Int.emod_nonneg _ (by omega)) (Int.emod_lt_of_pos _ hm0) (tap (p+1) q (by omega) hq0)
   ·refine⟨_,rfl,_,rfl,t₁,_,_,_,rfl,rfl,aW.of ah,rfl,s₁,_,rfl,.inl (hs' _),_,_,rfl,rfl,_,rfl,?_⟩
    refine qH (fun _=>?_) (fun _=>?_)
    ·refine⟨_,rfl,_,_,rfl,rfl,(by show (0:Int) < _;decide),_,_,rfl,rfl,_,rfl,_,_,rfl,rfl,(by show (0:Int) < _;decide),_,_,rfl,rfl,.inl ⟨by omega,by omega⟩,_,_,rfl,rfl,_,_,rfl,rfl,.inl ⟨by omega,by omega⟩,_,_,rfl,rfl,(by show (0:Int) < _;decide),?_⟩
     refine⟨_,rfl,_,rfl,_,_,rfl,rfl,.inl ⟨by omega,by omega⟩,_,_,rfl,rfl,_,_,rfl,rfl,.inr ⟨by decide,by decide⟩,_,_,rfl,rfl,(by show (0:Int) < _;decide),_,_,rfl,rfl,⟨by decide,by decide⟩,_,rfl,_,_,rfl,rfl,hm0,?_⟩
     exact k _ _ (Int.emod_nonneg _ (by omega)) (Int.emod_lt_of_pos _ hm0) (tap (p+1) q (by omega) hq0)
    ·have d2:(0:Int)≤p:=by
      have d3:1000000000000000000≤p:=by simpa using d1
      omega
     refine⟨_,rfl,_,rfl,t₁,_,_,_,rfl,rfl,ah,rfl,?_⟩
     rw [iV]
     refine⟨_,rfl,t₁,_,_,_,rfl,rfl,aW.of ah,rfl,_,rfl,_,_,rfl,rfl,hm0,?_⟩
     refine⟨_,rfl,t₁,_,_,_,rfl,rfl,aW.of ah,rfl,_,rfl,_,_,rfl,rfl,⟨hm0,hm1⟩,_,rfl,t₁,_,_,_,rfl,rfl,ah,rfl,?_⟩
     refine⟨_,rfl,?_⟩
     rw [iV]
     exact k _ _ (Int.emod_nonneg _ (by omega)) (Int.emod_lt_of_pos _ hm0) (tap (p+1) (p / m) (by omega) (Int.ediv_nonneg d2 (by omega)))
 refine bY (fun z=>c0 (by injection z)) ?_
 refine⟨_,rfl,t₁,_,_,_,rfl,rfl,aW.of ht,rfl,_,rfl,_,_,rfl,rfl,hm0,?_⟩
 refine⟨_,rfl,t₁,_,_,_,rfl,rfl,aW.of ht,rfl,_,rfl,_,_,rfl,rfl,⟨hm0,hm1⟩,_,rfl,t₁,_,_,_,rfl,rfl,ht,rfl,?_⟩
 refine⟨_,rfl,?_⟩
 exact k _ _ (Int.emod_nonneg _ (by omega)) (Int.emod_lt_of_pos _ hm0) (tap p (q / m) hp0 (Int.ediv_nonneg hq0 (by omega)))
theorem Az (T:fC K mg t):bO P w K mg base eF 2 t.a_Q13 t.d_Q13 ["_law_due", "_law_found"] (kL K):=by
 refine T.F_Q13.ok si (fun vs H Q E h=>?_) (fun cdv A outer s H vs Q E hr h=>?_)
 ·obtain⟨_,_,_,rfl,_⟩:=h;rfl
 obtain⟨v,w,r,rfl,hv,hw,k⟩:=h
 refine eg.ok (ag (bK (mo (tT (cC (aF aV (by rfl) T.z_isinstance boot_isinstance (ac (qv 0) (ac (bD (v:=V.ty "tuple") rfl T.z_tuple boot_tuple rfl) af ad) ad))) (nK (cC (aF aV (by rfl) T.z_isinstance boot_isinstance (ac (qv 0) (ac (bD (v:=V.ty "list") rfl T.z_list boot_list rfl) af ad) ad)))))) (ag (bK (aS ia (aF aV (by rfl) T.z_isinstance boot_isinstance (ac (qv 0) (ac (bD (v:=V.ty "tuple") rfl T.z_tuple boot_tuple rfl) af ad) ad)) (aF aV (by rfl) T.z_isinstance boot_isinstance (ac (qv 1) (ac (bD (v:=V.ty "tuple") rfl T.z_tuple boot_tuple rfl) af ad) ad)) (aQ _)) (aq (aJ hX)) aP)
   (ag (bK (aS ia (aF aV (by rfl) T.z_isinstance boot_isinstance (ac (qv 0) (ac (bD (v:=V.ty "list") rfl T.z_list boot_list rfl) af ad) ad)) (aF aV (by rfl) T.z_isinstance boot_isinstance (ac (qv 1) (ac (bD (v:=V.ty "list") rfl T.z_list boot_list rfl) af ad) ad)) (aQ _)) (aq (aJ hX)) aP)
   (ag (bK (aS ia (aF aR (by rfl) T.z_len boot_len (ac (qv 0) af ad)) (aF aR (by rfl) T.z_len boot_len (ac (qv 1) af ad)) (aQ _)) (aq (aJ hX)) aP)
   (aq (aJ (aF (qU rfl) (by rfl) T.z_all boot_all (ac (dU (N':=["_law_k", "_law_due", "_law_found"]) (src:=[none,some 0,some 1]) rfl (by exact (cK rfl T.z_range (ac (aF aR (by rfl) T.z_len boot_len (ac (qv 0) af ad)) af az))) (fun _ _ _ _ _=>(by exact (by exact aN (i:=0) (by show List.Nodup (["_law_k", "_law_due", "_law_found"]:List Str);decide +kernel) (by exact rfl) (by first | exact Or.inl rfl | exact Or.inr rfl)))) (fun _ _ _ _ _=>gs) (fun _ _ _ _ _=>(by exact (by exact (cJ (qy T) (by exact hr.mono (by decide)) (by exact rfl) T.m_Q13 T.F_Q13.kp T.b_Q13 (by exact .nil) (by exact eN) (ac (by exact (cE (bH (K:=K) (by exact rfl)) (by exact (qv 1)) (by exact (qv 0)) (by exact fun _ _=>rfl))) (ac (by exact (cE (bH (K:=K) (by exact rfl)) (by exact (qv 2)) (by exact (qv 0)) (by exact fun _ _=>rfl))) af aw) aw))))) (by exact⟨rfl,rfl,rfl,rfl,⟨rfl,rfl,rfl,rfl,trivial⟩⟩) rfl (by decide +kernel) rfl (by decide +kernel) (by exact cr rfl ⟨rfl,⟨rfl,trivial⟩⟩)) af gk))))))) aP)
   (ag (bK (aS jt (qv 0) fW (aQ _)) (aq (aJ (dB jt (qv 1) fW (aQ _)))) aP)
   (ag (bK (cC (aF aV (by rfl) T.z_isinstance boot_isinstance (ac (qv 0) (ac (bD (v:=V.ty "str") rfl T.z_str boot_str rfl) af ad) ad))) (aq (aJ (fF (aF aV (by rfl) T.z_isinstance boot_isinstance (ac (qv 1) (ac (bD (v:=V.ty "str") rfl T.z_str boot_str rfl) af ad) ad)) (gK (dB dW (qv 1) (qv 0) (aQ _)))))) aP)
   (ag (bK (cC (aF aV (by rfl) T.z_isinstance boot_isinstance (ac (qv 0) (ac (bD (v:=V.ty "bool") rfl T.z_bool boot_bool rfl) af ad) ad))) (aq (aJ (fF (aF aV (by rfl) T.z_isinstance boot_isinstance (ac (qv 1) (ac (bD (v:=V.ty "bool") rfl T.z_bool boot_bool rfl) af ad) ad)) (gK (dB dW (qv 1) (qv 0) (aQ _)))))) aP)
   (aq (aJ (fF (aF aV (by rfl) T.z_isinstance boot_isinstance (ac (qv 1) (ac (bD (v:=V.ty "int") rfl T.z_int boot_int rfl) af ad) ad)) (fF (t0 (aF aV (by rfl) T.z_isinstance boot_isinstance (ac (qv 1) (ac (bD (v:=V.ty "bool") rfl T.z_bool boot_bool rfl) af ad) ad))) (gK (dB dW (qv 1) (qv 0) (aQ _))))))))))) ?_
 extract_lets +lift
 try dsimp -zeta -zetaDelta only [Cx.nox,Cx.wish,bX]
 have dv:=hv.deep
 have dw:=hw.deep
 obtain⟨a,rfl,e⟩:=hv
 obtain⟨b,rfl,e'⟩:=hw
 refine⟨_,rfl,_,_,_,_,rfl,dv,eU,_,rfl,gC ?_⟩
 refine⟨_,rfl,_,_,_,_,rfl,dv,eU,_,rfl,_,_,_,_,rfl,dw,eU,rfl,_,rfl,jD rfl ?_⟩
 refine⟨_,rfl,_,_,_,_,rfl,dv,gF,_,rfl,_,_,_,_,rfl,dw,gF,rfl,_,rfl,jD rfl ?_⟩
 refine⟨_,rfl,a,_,rfl,.inr e,_,rfl,b,_,rfl,.inr e',rfl,_,rfl,jD rfl ?_⟩
 refine⟨_,rfl,a,_,rfl,.inr e,_,rfl,(by show -(2:Int) ^ 62≤((2:Nat):Int);decide),(by show ((2:Nat):Int) < 2 ^ 62;decide),fun D hD=>lB vQ (fun _=>true) (fun _=>V.bl true) hD (by show 2≤1000;decide) (fun i x H' hi s' hx R E kR kE=>?_) fun H4 s4 h4=>?_⟩
 ·subst hx
  rw [Int.zero_add]
  have t':=au.same (K:=K) s'
  obtain⟨y,hy⟩:∃ y:Int,[V.int r.1,V.int r.2][i]?=some (.int y):=by
   match i,hi with
   | 0,_=>exact⟨_,rfl⟩
   | 1,_=>exact⟨_,rfl⟩
  exact⟨iK.set rfl,_,rfl,_,rfl,a,_,_,_,rfl,rfl,t' _ _ e,bM hy,_,rfl,_,rfl,b,_,_,_,rfl,rfl,t' _ _ e',bM hy,y,rfl,kR rfl _ (aO.refl _)⟩
 ·exact⟨D,[true,true],rfl,aW.of h4,k H4 s4⟩
theorem jw (T:fC K mg t):bO P w K mg base eF 1 t.a_Q22 t.d_Q22 ["_law_top", "_law_bottom"] (me K):=by
 refine T.F_Q22.ok nG (fun vs H Q E h=>?_) (fun cdv A outer s H vs Q E hr h=>?_)
 ·obtain⟨_,_,rfl,_⟩:=h;rfl
 obtain⟨a,b,rfl,hb,hz,k⟩:=h
 refine eg.ok (ag (k7 (i:=2) (j:=3) rfl nG.nd rfl rfl (by decide) rfl rfl (ac (aF jI (by rfl) T.z_abs boot_abs (ac (qv 0) af ad)) (ac (qv 1) af ad) az) rfl)
   (ag (hU PassesOwn.never (aS ia (qv 3) ae (aQ _))
   (aq (k7 (i:=2) (j:=3) rfl nG.nd rfl rfl (by decide) rfl rfl (ac (qv 3) (ac (aK fJ (qv 2) (qv 3)) af be) ad) rfl)))
   (aq (aJ (aI (ac (aK eO (qv 0) (qv 2)) (ac (aK eO (qv 1) (qv 2)) af be) be)))))) ?_
 extract_lets +lift
 try dsimp -zeta -zetaDelta only [Cx.nox,Cx.wish,bX]
 have gp:=bI (a:=a) hb
 have gb:=jF (a:=a) hb hz
 refine⟨_,rfl,_,rfl,_,rfl,_,_,rfl,?_⟩
 rw [oo]
 refine⟨fun m σ H'=>∃ (x y:Int),σ=[some (.int a),some (.int b),some (.int x),some (.int y)]/\H'=H/\0≤x/\0≤y/\Int.gcd x y=Int.gcd a b/\m=y.toNat,⟨_,_,_,rfl,rfl,by omega,by omega,(by simp [Int.gcd]),rfl⟩,?_⟩
 rintro m σ H' ⟨x,y,rfl,rfl,hx,hy,hg,rfl⟩
 refine⟨_,rfl,rfl,_,rfl,?_⟩
 by_cases c:y=0
 ·subst c
  refine jD rfl ?_
  have e:(x:Int)=(Int.gcd x 0:Nat):=by simp [Int.gcd];omega
  rw [hg] at e
  subst e
  exact⟨_,rfl,_,rfl,_,_,rfl,rfl,⟨gp,gb⟩,_,rfl,_,rfl,_,_,rfl,rfl,⟨gp,gb⟩,cY,fun p hp=>k p hp⟩
 ·refine uW (fun z=>c (by injection z)) ?_
  refine⟨_,fun _ _ z=>z,?_⟩
  refine⟨_,rfl,_,rfl,_,rfl,_,_,rfl,rfl,(by omega),_,_,rfl,?_⟩
  refine⟨_,?_,y,x % y,rfl,rfl,hy,Int.emod_nonneg _ c,?_,rfl⟩
  ·have:=Int.emod_lt_of_pos x (show 0 < y by omega)
   have:=Int.emod_nonneg x c
   omega
  ·rw [mP hx (by omega),hg]
theorem de (T:fC K mg t):bO P w K mg base eF 2 t.a_Q26 t.d_Q26 ["_law_one", "_law_other"] (nC K):=by
 refine T.F_Q26.ok yW (fun vs H Q E h=>?_) (fun cdv A outer s H vs Q E hr h=>?_)
 ·obtain⟨_,_,_,_,_,_,rfl,_⟩:=h;rfl
 obtain⟨v,w,r,q,n,m,rfl,hv,hw,wr,wq,hz,k⟩:=h
 refine eg.ok (aq (aJ (bP (jw T) hr T.m_Q22 T.F_Q22.kp T.b_Q22 (ac (aK dk (aK cA (bf ap (qv 0) ae) (bf ap (qv 1) ae)) (aK cA (bf ap (qv 1) ae) (bf ap (qv 0) ae))) (ac (aK cA (bf ap (qv 0) ae) (bf ap (qv 1) ae)) af be) be)))) ?_
 extract_lets +lift
 try dsimp -zeta -zetaDelta only [Cx.nox,Cx.wish,bX]
 obtain⟨p,rfl,hv⟩:=hv
 obtain⟨p',rfl,hw⟩:=hw
 have c1:=bj wr.top (show n≤4000 by omega)
 have c2:=bj wr.bot (show n≤4000 by omega)
 have c3:=bj wq.top (show m≤4000 by omega)
 have c4:=bj wq.bot (show m≤4000 by omega)
 refine⟨_,rfl,p,_,_,_,rfl,rfl,hv,rfl,_,rfl,p',_,_,_,rfl,rfl,hw,rfl,_,_,rfl,rfl,⟨c1,c4⟩,_,rfl,p',_,_,_,rfl,rfl,hw,rfl,_,rfl,p,_,_,_,rfl,rfl,hv,rfl,_,_,rfl,rfl,⟨c3,c2⟩,_,_,rfl,rfl,_,rfl,p,_,_,_,rfl,rfl,hv,rfl,_,rfl,p',_,_,_,rfl,rfl,hw,rfl,_,_,rfl,rfl,⟨c2,c4⟩,_,_,rfl,Int.mul_pos wr.pos wq.pos,bj (d8 wr.bot wq.bot) (by omega),k⟩
theorem fK (T:fC K mg t):bO P w K mg base eF 2 t.a_Q27 t.d_Q27 ["_law_one", "_law_other"] (nB K):=by
 refine T.F_Q27.ok yV (fun vs H Q E h=>?_) (fun cdv A outer s H vs Q E hr h=>?_)
 ·obtain⟨_,_,_,_,_,_,rfl,_⟩:=h;rfl
 obtain⟨v,w,r,q,n,m,rfl,hv,hw,wr,wq,hz,k⟩:=h
 refine eg.ok (aq (aJ (bP (jw T) hr T.m_Q22 T.F_Q22.kp T.b_Q22 (ac (aK cA (bf ap (qv 0) ae) (bf ap (qv 1) ae)) (ac (aK cA (bf ap (qv 0) ae) (bf ap (qv 1) ae)) af be) be)))) ?_
 extract_lets +lift
 try dsimp -zeta -zetaDelta only [Cx.nox,Cx.wish,bX]
 obtain⟨p,rfl,hv⟩:=hv
 obtain⟨p',rfl,hw⟩:=hw
 have c1:=bj wr.top (show n≤4000 by omega)
 have c2:=bj wr.bot (show n≤4000 by omega)
 have c3:=bj wq.top (show m≤4000 by omega)
 have c4:=bj wq.bot (show m≤4000 by omega)
 refine⟨_,rfl,p,_,_,_,rfl,rfl,hv,rfl,_,rfl,p',_,_,_,rfl,rfl,hw,rfl,_,_,rfl,rfl,⟨c1,c3⟩,_,rfl,p,_,_,_,rfl,rfl,hv,rfl,_,rfl,p',_,_,_,rfl,rfl,hw,rfl,_,_,rfl,rfl,⟨c2,c4⟩,_,_,rfl,Int.mul_pos wr.pos wq.pos,bj (d8 wr.bot wq.bot) (by omega),k⟩
theorem fY (T:fC K mg t):bO P w K mg base eF 1 t.a_Q23 t.d_Q23 ["_law_one", "_law_other"] (md K):=by
 refine T.F_Q23.ok yY (fun vs H Q E h=>?_) (fun cdv A outer s H vs Q E hr h=>?_)
 ·obtain⟨_,_,_,_,_,_,rfl,_⟩:=h;rfl
 obtain⟨v,w,r,q,n,m,rfl,hv,hw,wr,wq,hz,k⟩:=h
 refine eg.ok (aq (aJ (dB mC (aK cA (bf ap (qv 0) ae) (bf ap (qv 1) ae)) (aK cA (bf ap (qv 1) ae) (bf ap (qv 0) ae)) (aQ _)))) ?_
 extract_lets +lift
 try dsimp -zeta -zetaDelta only [Cx.nox,Cx.wish,bX]
 obtain⟨p,rfl,hv⟩:=hv
 obtain⟨p',rfl,hw⟩:=hw
 have c1:=bj wr.top (show n≤4000 by omega)
 have c2:=bj wr.bot (show n≤4000 by omega)
 have c3:=bj wq.top (show m≤4000 by omega)
 have c4:=bj wq.bot (show m≤4000 by omega)
 refine⟨_,rfl,p,_,_,_,rfl,rfl,hv,rfl,_,rfl,p',_,_,_,rfl,rfl,hw,rfl,_,_,rfl,rfl,⟨c1,c4⟩,_,rfl,p',_,_,_,rfl,rfl,hw,rfl,_,rfl,p,_,_,_,rfl,rfl,hv,rfl,_,_,rfl,rfl,⟨c3,c2⟩,_,_,rfl,rfl,k⟩
theorem uB (T:fC K mg t):bO P w K mg base eF 3 t.a_Q28 t.d_Q28 ["_law_some"] (nA K):=by
 refine T.F_Q28.ok kW (fun vs H Q E h=>?_) (fun cdv A outer s H vs Q E hr h=>?_)
 ·obtain⟨_,_,_,_,_,_,rfl,_⟩:=h;rfl
 obtain⟨a,xs,rs,D,N,n,rfl,hS,al,bq,h0,h1,h2,hl,hn,k⟩:=h
 refine eg.ok (ag (cy 1 kW.nd (aI (ac ae (ac ae af ao) ao)))
   (ag (cM PassesOwn.never rfl (cN (qv 0)) (aN (i:=2) kW.nd rfl (by first | exact Or.inl rfl | exact Or.inr rfl))
   (aq (cy 1 kW.nd (bP (de T) hr T.m_Q26 T.F_Q26.kp T.b_Q26 (ac (qv 1) (ac (qv 2) af ad) ad)))))
   (aq (aJ (qv 1))))) ?_
 extract_lets +lift
 try dsimp -zeta -zetaDelta only [Cx.nox,Cx.wish,bX]
 have hlen:=al.len
 refine⟨cY,fun p0 hp0=>?_⟩
 have s0:=aj hp0 (.tup [.int 0,.int 1])
 refine⟨_,rfl,a,rfl,⟨_,s0.seq hS⟩,eW (K:=K) (a:=a) (xs:=xs) (fun i σ H'=>∃ (u:V) (x3:Option V),σ=[some (.ref a),some u,x3]/\aO H H'/\RV K H' u (eY (rs.take i))) ⟨_,none,rfl,s0,RV.of ah⟩ (fun i σ H1 _ ⟨_,_,_,s1,_⟩=>s1.seq hS) ?_ ?_⟩
 ·rintro i y σ H1 hi ⟨u,x3,rfl,s1,ru⟩
  obtain⟨r,hr,rv⟩:=al.at hi
  have wr:=AX (bq r (List.mem_of_getElem? hr)) h0 h1 h2
  have wu:Wf n (eY (rs.take i)):=vX (fun z hz=>bq z (List.mem_of_mem_take hz)) h0 h1 h2 (by rw [List.length_take];omega)
  have e:eY (rs.take (i+1))=aH (eY (rs.take i)) r:=by
   unfold eY
   rw [List.take_add_one,hr,List.foldl_append]
   rfl
  refine⟨_,rfl,_,rfl,u,y,eY (rs.take i),r,n,n,rfl,ru,rv.mono (au.same s1),wu,wr,by omega,fun p hp=>?_⟩
  have s2:=aj hp (.tup [.int (aH (eY (rs.take i)) r).1,.int (aH (eY (rs.take i)) r).2])
  refine⟨_,_,rfl,s1.trans s2,?_⟩
  rw [e];exact RV.of ah
 ·rintro σ H1 ⟨u,x3,rfl,s1,ru⟩
  rw [hlen,List.take_length] at ru
  exact⟨_,rfl,k u H1 s1 ru⟩
theorem Ay (T:fC K mg t):bO P w K mg base eF 2 t.a_Q14 t.d_Q14 ["_law_tape_here", "_law_many"] (kH K):=by
 refine T.F_Q14.ok eL (fun vs H Q E h=>?_) (fun cdv A outer s H vs Q E hr h=>?_)
 ·obtain⟨_,_,_,rfl,_⟩:=h;rfl
 obtain⟨t₁,s₁,m,rfl,tp,hm,k⟩:=h
 refine eg.ok (ag (cy 2 eL.nd (bf bE (cu (ac ae (ac ae (ac ae (ac ae af ao) ao) ao) ao)) (bP (bW T) hr T.m_Q21 T.F_Q21.kp T.b_Q21 (ac (qv 0) (ac ae af ao) ad))))
   (ag (cy 3 eL.nd (cu af))
   (ag (cM PassesOwn.never rfl (cK rfl T.z_range (ac (qv 1) af ad)) (aN (i:=4) eL.nd rfl (by first | exact Or.inl rfl | exact Or.inr rfl))
   (ag (cy 5 eL.nd (bP (bW T) hr T.m_Q21 T.F_Q21.kp T.b_Q21 (ac (qv 0) (ac (qv 2) af ad) ad)))
   (ag (cy 6 eL.nd (aK dk (qv 5) (bP (bW T) hr T.m_Q21 T.F_Q21.kp T.b_Q21 (ac (qv 0) (ac (aK iF (qv 2) (qv 5)) af be) ad))))
   (ag (cy 7 eL.nd (bP (bW T) hr T.m_Q21 T.F_Q21.kp T.b_Q21 (ac (qv 0) (ac ae af ao) ad)))
   (ag (bK (aS dW (qv 7) ae (aQ _)) (aq (cy 6 eL.nd (qv 5))) aP)
   (ag (bK (aS dW (qv 7) ae (aQ _)) (aq (k7 (i:=5) (j:=6) rfl eL.nd rfl rfl (by decide) rfl rfl (ac ae (ac (aK iF (qv 2) ae) af be) ao) rfl)) aP)
   (ag (bK (mo (tV (aS dW (qv 7) ae (aQ _)) (oO (aS oX (qv 4) ae (aQ _))))) (aq (jq (fz v9 (bf bE (qv 3) (bP (bW T) hr T.m_Q21 T.F_Q21.kp T.b_Q21 (ac (qv 0) (ac (qv 4) af ad) ad))) gv (gu ae)) (iD rfl (cD (aN (i:=5) eL.nd rfl (by first | exact Or.inl rfl | exact Or.inr rfl)) (cD (aN (i:=6) eL.nd rfl (by first | exact Or.inl rfl | exact Or.inr rfl)) gw))))) aP)
   (aq (fb (iL PySem.F.plainAttrs_list PySem.F.slot_list_append PySem.F.type_list_append dI (qv 3) (ac (aI (ac (qv 5) (ac (qv 6) (ac (bP (jw T) hr T.m_Q22 T.F_Q22.kp T.b_Q22 (ac (aK dk ae (bP (bW T) hr T.m_Q21 T.F_Q21.kp T.b_Q21 (ac (qv 0) (ac ae af ao) ad))) (ac (bf bE (cu (ac ae (ac ae (ac ae (ac ae (ac ae (ac ae af ao) ao) ao) ao) ao) ao)) (bP (bW T) hr T.m_Q21 T.F_Q21.kp T.b_Q21 (ac (qv 0) (ac ae af ao) ad))) af aw) be)) af az) ad) ad)) af aG)))))))))))
   (aq (aJ (fA ft (by rfl) T.z_tuple boot_tuple (ac (qv 3) af ad))))))) ?_
 extract_lets +lift
 try dsimp -zeta -zetaDelta only [Cx.nox,Cx.wish,bX]
 obtain⟨y0,e0⟩:=tp.lst
 refine⟨Dl,fun le hle=>?_⟩
 have nle:le≠t₁:=fun z=>by subst z;rw [e0] at hle;cases hle
 have s0:=aj hle (.lst [.int 3,.int 7,.int 12,.int 24])
 have T0:=tp.new hle (.lst [.int 3,.int 7,.int 12,.int 24])
 have h00:ax H le (.lst [.int 3,.int 7,.int 12,.int 24]) le=some (.lst [.int 3,.int 7,.int 12,.int 24]):=ah
 generalize ax H le (.lst [.int 3,.int 7,.int 12,.int 24])=H0 at T0 s0 h00 ⊢
 obtain⟨y00,e00⟩:=T0.lst
 refine⟨_,rfl,t₁,s₁,4,rfl,T0,by omega,by omega,fun r0 x0_ a0 b0 T0=>?_⟩
 have S0:bo t₁ H (ax H0 t₁ (.lst x0_)):=(bo.same s0 tp.lst).trans (bo.up e00)
 have h01:ax H0 t₁ (.lst x0_) le=some (.lst [.int 3,.int 7,.int 12,.int 24]):=by rw [aD nle];exact h00
 generalize ax H0 t₁ (.lst x0_)=HA at T0 S0 h01 ⊢
 rename_i T0'
 obtain⟨en,hen,en1,en2⟩:∃ e:Nat,jS [V.int 3,.int 7,.int 12,.int 24] r0=some (.int e)/\3≤e/\e≤24:=by
  rcases (show r0=0∨r0=1∨r0=2∨r0=3 by omega) with rfl | rfl | rfl | rfl
  ·exact⟨3,rfl,by decide,by decide⟩
  ·exact⟨7,rfl,by decide,by decide⟩
  ·exact⟨12,rfl,by decide,by decide⟩
  ·exact⟨24,rfl,by decide,by decide⟩
 refine⟨le,_,_,_,rfl,rfl,aW.of h01,hen,?_⟩
 refine⟨(by show 0≤sizeLine;exact Nat.zero_le _),fun lw hlw0=>?_⟩
 obtain⟨yA,eA⟩:=T0.lst
 have nl:lw≠t₁:=fun z=>by subst z;rw [eA] at hlw0;cases hlw0
 have nls:=T0.off hlw0
 refine⟨_,rfl,m,rfl,by omega,by omega,dM (lo:=0) (n:=(m:Int).toNat) (fun i σ H'=>∃ (xs:List V) (ws:List Wk) (x5 x6 x7 x8:Option V),σ=[some (.ref t₁),some (.int m),some (.int en),some (.ref lw),x5,x6,x7,x8]/\bG K H' t₁ s₁/\(∀ b o,b≠t₁->HA b=some o->H' b=some o)/\H' lw=some (.lst xs)/\bU (vM K H') xs ws/\ws.length=i/\∀ w∈ws,jU w) ⟨[],[],none,none,none,none,rfl,T0.new hlw0 _,(fun b o _ q=>aj hlw0 _ _ _ q),ah,.nil,rfl,fun w hw=>by cases hw⟩ ?_ ?_⟩
 ·rintro i σ H1 hi ⟨xs,ws,x5,x6,x7,x8,rfl,T1,kp,hlw,alw,hlen,okw⟩
  rw [Int.zero_add]
  obtain⟨y1,e1⟩:=T1.lst
  refine⟨_,rfl,_,rfl,t₁,s₁,en,rfl,T1,by omega,by omega,fun r2 x2_ a2 b2 T2=>?_⟩
  obtain⟨ff,rfl⟩:=Int.eq_ofNat_of_zero_le a2
  have S2:bo t₁ H1 _:=bo.up (ys:=x2_) e1
  generalize ax H1 t₁ (.lst x2_)=H2 at T2 S2 ⊢
  obtain⟨y2,e2⟩:=T2.lst
  refine⟨_,rfl,_,rfl,_,rfl,_,rfl,_,_,rfl,rfl,t₁,s₁,(en:Int) - ff,rfl,T2,by omega,by omega,fun r3 x3_ a3 b3 T3=>?_⟩
  have S3:=S2.trans (bo.up (ys:=x3_) e2)
  generalize ax H2 t₁ (.lst x3_)=H3 at T3 S3 ⊢
  obtain⟨y3,e3⟩:=T3.lst
  refine⟨_,_,rfl,rfl,?_⟩
  obtain⟨la,hla⟩:∃ la:Nat,(ff:Int)+r3=(la:Nat):=⟨((ff:Int)+r3).toNat,by omega⟩
  dsimp only
  rw [hla]
  refine⟨_,rfl,t₁,s₁,7,rfl,T3,by omega,by omega,fun r4 x4_ a4 b4 T4=>?_⟩
  have S4:=S3.trans (bo.up (ys:=x4_) e3)
  generalize hHH:ax H3 t₁ (.lst x4_)=HH at T4 S4 ⊢
  have kp4:=S4.keep
  have tst4:au K H1 HH:=au.step S4
  refine⟨_,rfl,rfl,_,rfl,?_⟩
  have c4:r4=0∨r4=1∨(r4=2/\0 < i)∨(r4=2/\¬ 0 < i)∨(r4≠0/\r4≠1/\r4≠2):=by omega
  rcases c4 with rfl | rfl | ⟨rfl,ci⟩ | ⟨rfl,ci⟩ | ⟨c0,c1,c2⟩
  refine dy rfl ?_
  refine⟨_,rfl,?_⟩
  refine⟨_,rfl,rfl,_,rfl,bY (by intro z;cases z) ?_⟩
  refine⟨_,rfl,rfl,_,rfl,eZ (eZ ?_)⟩
  rotate_left
  refine bY (by intro z;cases z) ?_
  refine⟨_,rfl,rfl,_,rfl,?_⟩
  refine dy rfl ?_
  refine⟨_,rfl,_,_,rfl,rfl,_,_,rfl,?_⟩
  refine⟨_,rfl,rfl,_,rfl,eZ (eZ ?_)⟩
  dsimp only
  rw [show (en:Int) - 1=((en - 1:Nat):Int) by omega]
  rotate_left
  refine bY (by intro z;cases z) ?_
  refine⟨_,rfl,rfl,_,rfl,?_⟩
  refine bY (by intro z;cases z) ?_
  refine⟨_,rfl,rfl,_,rfl,?_⟩
  refine gC ?_
  refine⟨_,rfl,_,_,rfl,rfl,_,rfl,?_⟩
  refine dy (by omega) ?_
  obtain⟨y4,e4⟩:=T4.lst
  have hlw4:HH lw=some (.lst xs):=kp4 _ _ nl hlw
  refine⟨_,rfl,_,rfl,_,rfl,t₁,s₁,i,rfl,T4,by omega,by omega,fun r9 x9_ a9 b9 T9=>?_⟩
  have S9':=S4.trans (bo.up (ys:=x9_) e4)
  have hlwN:ax HH t₁ (.lst x9_) lw=some (.lst xs):=by rw [aD nl];exact hlw4
  clear hHH kp4 tst4 T4
  generalize ax HH t₁ (.lst x9_)=HN at T9 S9' hlwN ⊢
  obtain⟨j,rfl⟩:=Int.eq_ofNat_of_zero_le a9
  obtain⟨xw,hxw⟩:∃ xw,xs[j]?=some xw:=⟨_,List.getElem?_eq_getElem (by rw [alw.len];omega)⟩
  obtain⟨w,hw,pw0,xa,rfl,hSw,ra⟩:=alw.at hxw
  have okw0:=okw w (List.mem_of_getElem? hw)
  have hSwN:=au.step (K:=K) S9' _ _ hSw
  refine⟨lw,_,_,_,rfl,rfl,aW.of hlwN,bM hxw,?_⟩
  refine⟨_,rfl,pw0,_,rfl,hSwN,fun pc HH sQ hpc=>?_⟩
  rw [show fQ [V.int (w.1:Nat),V.int (w.2.1:Nat),xa] none (some 2)=[V.int (w.1:Nat),V.int (w.2.1:Nat)] from vk (n:=2) (by show 2≤3;decide)] at hpc
  refine⟨pc,_,rfl,hpc,rfl,_,_,rfl,_,_,rfl,rfl,?_⟩
  have S4:=S9'.trans (bo.same sQ T9.lst)
  have T4:=T9.same sQ
  have kp4:=S4.keep
  have tst4:au K H1 HH:=au.step S4
  have lew:=okw0.le
  have ltw:=okw0.lt
  obtain⟨wf,wl,wr⟩:=w
  replace lew:wf≤wl:=lew
  replace ltw:wl < 24:=ltw
  clear e4 y4 hlw4
  rotate_left
  refine bY (by intro z;cases z) ?_
  refine⟨_,rfl,rfl,_,rfl,?_⟩
  refine bY (by intro z;cases z) ?_
  refine⟨_,rfl,rfl,_,rfl,?_⟩
  refine gC ?_
  refine⟨_,rfl,_,_,rfl,rfl,_,rfl,?_⟩
  refine bY (by omega) ?_
  rotate_left
  refine bY (fun z=>c0 (by injection z)) ?_
  refine⟨_,rfl,rfl,_,rfl,?_⟩
  refine bY (fun z=>c1 (by injection z)) ?_
  refine⟨_,rfl,rfl,_,rfl,?_⟩
  refine bY (fun z=>c2 (by injection z)) (eZ ?_)
  rotate_left
  all_goals
   obtain⟨y4,e4⟩:=T4.lst
   have hlw4:HH lw=some (.lst xs):=kp4 _ _ nl hlw
   refine⟨_,rfl,.inl ⟨rfl,_,aW.of hlw4⟩,?_⟩
   refine⟨_,rfl,_,rfl,_,rfl,t₁,s₁,12,rfl,T4,by omega,by omega,fun r5 x5_ a5 b5 T5=>?_⟩
   have S5:bo t₁ HH _:=bo.up (ys:=x5_) e4
   generalize ax HH t₁ (.lst x5_)=H5 at T5 S5 ⊢
   obtain⟨y5,e5⟩:=T5.lst
   refine⟨_,_,rfl,rfl,Fp,fun l6 h6=>?_⟩
   have S6:=S5.trans (bo.new T5.lst h6 (.lst [.int 1,.int 1,.int 2,.int 3,.int 4,.int 7]))
   have n6:l6≠t₁:=fun z=>by subst z;rw [e5] at h6;cases h6
   have T6':=T5.new h6 (.lst [.int 1,.int 1,.int 2,.int 3,.int 4,.int 7])
   obtain⟨y6,e6⟩:=T6'.lst
   have h6':ax H5 l6 (.lst [.int 1,.int 1,.int 2,.int 3,.int 4,.int 7]) l6=some (.lst [.int 1,.int 1,.int 2,.int 3,.int 4,.int 7]):=ah
   generalize ax H5 l6 (.lst [.int 1,.int 1,.int 2,.int 3,.int 4,.int 7])=H6 at T6' S6 e6 h6' ⊢
   refine⟨_,rfl,t₁,s₁,6,rfl,T6',by omega,by omega,fun r7 x7_ a7 b7 T7=>?_⟩
   have S7:=S6.trans (bo.up (ys:=x7_) e6)
   have h67:ax H6 t₁ (.lst x7_) l6=some (.lst [.int 1,.int 1,.int 2,.int 3,.int 4,.int 7]):=by rw [aD n6];exact h6'
   generalize ax H6 t₁ (.lst x7_)=H7 at T7 S7 h67 ⊢
   obtain⟨bb,hbb,bo1,bo2,bo3⟩:∃ b:Int,jS [V.int 1,.int 1,.int 2,.int 3,.int 4,.int 7] r7=some (.int b)/\1≤b/\b≤7/\b∣84:=by
    rcases (show r7=0∨r7=1∨r7=2∨r7=3∨r7=4∨r7=5 by omega) with rfl | rfl | rfl | rfl | rfl | rfl
    ·exact⟨1,rfl,by decide,by decide,by decide⟩
    ·exact⟨1,rfl,by decide,by decide,by decide⟩
    ·exact⟨2,rfl,by decide,by decide,by decide⟩
    ·exact⟨3,rfl,by decide,by decide,by decide⟩
    ·exact⟨4,rfl,by decide,by decide,by decide⟩
    ·exact⟨7,rfl,by decide,by decide,by decide⟩
   refine⟨l6,_,_,_,rfl,rfl,aW.of h67,hbb,?_⟩
   refine⟨1+r5,bb,rfl,by omega,bj (n:=3) (by show bb.natAbs < 8;omega) (by decide),fun pf hpf=>?_⟩
   have am:=xE (a:=1+r5) (by omega) (by omega) bo1 bo2 bo3
   have s8:=aj hpf (.tup [.int (df (1+r5) bb).1,.int (df (1+r5) bb).2])
   have rf:RV K _ (.ref pf) (df (1+r5) bb):=⟨pf,rfl,bh.of (ah (H:=H7) (a:=pf) (o:=.tup [.int (df (1+r5) bb).1,.int (df (1+r5) bb).2]))⟩
   have T8:=T7.same s8
   generalize ax H7 pf (.tup [.int (df (1+r5) bb).1,.int (df (1+r5) bb).2])=H8 at T8 s8 rf ⊢
   refine⟨xN,fun pw hpw=>?_⟩
  ·have s9:=aj hpw (.tup [.int (ff:Nat),.int (ff:Nat),.ref pf])
   have hpw9:bh K _ pw [.int (ff:Nat),.int (ff:Nat),.ref pf]:=bh.of (ah (H:=H8) (a:=pw) (o:=.tup [.int (ff:Nat),.int (ff:Nat),.ref pf]))
   have T9:=T8.same s9
   have rf9:=rf.mono (au.same s9)
   generalize ax H8 pw (.tup [.int (ff:Nat),.int (ff:Nat),.ref pf])=H9 at T9 s9 rf9 hpw9 ⊢
   have S9:=S7.trans (bo.same (s8.trans s9) T7.lst)
   have hlw9:=S9.keep _ _ nl hlw4
   refine⟨lw,xs,_,rfl,rfl,hlw9,aZ (by rw [alw.len];omega),?_⟩
   have t9:au K H1 (ax H9 lw (.lst (xs++[.ref pw]))):=(tst4.trans (au.step S9)).trans (au.up hlw9 _)
   refine⟨_,ws++[(ff,ff,df (1+r5) bb)],_,_,_,_,rfl,T9.upl nl nls _,fun b o nb q=>?_,ah,(alw.mono fun v d m=>m.mono t9).snoc ⟨pw,.ref pf,rfl,au.up (K:=K) hlw9 _ _ _ hpw9,rf9.mono (au.up hlw9 _)⟩,by rw [List.length_append,hlen];rfl,fun z hz=>?_⟩
   ·rw [aD (aB q hlw0)]
    exact S9.keep _ _ nb (kp4 _ _ nb (kp b o nb q))
   ·rcases List.mem_append.mp hz with h | h
    ·exact okw z h
    ·rw [List.mem_singleton] at h
     subst h
     exact⟨by show ff≤ff;omega,by show ff < 24;omega,am⟩
  ·have s9:=aj hpw (.tup [.int (0:Nat),.int ((en - 1):Nat),.ref pf])
   have hpw9:bh K _ pw [.int (0:Nat),.int ((en - 1):Nat),.ref pf]:=bh.of (ah (H:=H8) (a:=pw) (o:=.tup [.int (0:Nat),.int ((en - 1):Nat),.ref pf]))
   have T9:=T8.same s9
   have rf9:=rf.mono (au.same s9)
   generalize ax H8 pw (.tup [.int (0:Nat),.int ((en - 1):Nat),.ref pf])=H9 at T9 s9 rf9 hpw9 ⊢
   have S9:=S7.trans (bo.same (s8.trans s9) T7.lst)
   have hlw9:=S9.keep _ _ nl hlw4
   refine⟨lw,xs,_,rfl,rfl,hlw9,aZ (by rw [alw.len];omega),?_⟩
   have t9:au K H1 (ax H9 lw (.lst (xs++[.ref pw]))):=(tst4.trans (au.step S9)).trans (au.up hlw9 _)
   refine⟨_,ws++[(0,(en - 1),df (1+r5) bb)],_,_,_,_,rfl,T9.upl nl nls _,fun b o nb q=>?_,ah,(alw.mono fun v d m=>m.mono t9).snoc ⟨pw,.ref pf,rfl,au.up (K:=K) hlw9 _ _ _ hpw9,rf9.mono (au.up hlw9 _)⟩,by rw [List.length_append,hlen];rfl,fun z hz=>?_⟩
   ·rw [aD (aB q hlw0)]
    exact S9.keep _ _ nb (kp4 _ _ nb (kp b o nb q))
   ·rcases List.mem_append.mp hz with h | h
    ·exact okw z h
    ·rw [List.mem_singleton] at h
     subst h
     exact⟨by show 0≤(en - 1);omega,by show (en - 1) < 24;omega,am⟩
  ·have s9:=aj hpw (.tup [.int (wf:Nat),.int (wl:Nat),.ref pf])
   have hpw9:bh K _ pw [.int (wf:Nat),.int (wl:Nat),.ref pf]:=bh.of (ah (H:=H8) (a:=pw) (o:=.tup [.int (wf:Nat),.int (wl:Nat),.ref pf]))
   have T9:=T8.same s9
   have rf9:=rf.mono (au.same s9)
   generalize ax H8 pw (.tup [.int (wf:Nat),.int (wl:Nat),.ref pf])=H9 at T9 s9 rf9 hpw9 ⊢
   have S9:=S7.trans (bo.same (s8.trans s9) T7.lst)
   have hlw9:=S9.keep _ _ nl hlw4
   refine⟨lw,xs,_,rfl,rfl,hlw9,aZ (by rw [alw.len];omega),?_⟩
   have t9:au K H1 (ax H9 lw (.lst (xs++[.ref pw]))):=(tst4.trans (au.step S9)).trans (au.up hlw9 _)
   refine⟨_,ws++[(wf,wl,df (1+r5) bb)],_,_,_,_,rfl,T9.upl nl nls _,fun b o nb q=>?_,ah,(alw.mono fun v d m=>m.mono t9).snoc ⟨pw,.ref pf,rfl,au.up (K:=K) hlw9 _ _ _ hpw9,rf9.mono (au.up hlw9 _)⟩,by rw [List.length_append,hlen];rfl,fun z hz=>?_⟩
   ·rw [aD (aB q hlw0)]
    exact S9.keep _ _ nb (kp4 _ _ nb (kp b o nb q))
   ·rcases List.mem_append.mp hz with h | h
    ·exact okw z h
    ·rw [List.mem_singleton] at h
     subst h
     exact⟨by show wf≤wl;omega,by show wl < 24;omega,am⟩
  ·have s9:=aj hpw (.tup [.int (ff:Nat),.int (la:Nat),.ref pf])
   have hpw9:bh K _ pw [.int (ff:Nat),.int (la:Nat),.ref pf]:=bh.of (ah (H:=H8) (a:=pw) (o:=.tup [.int (ff:Nat),.int (la:Nat),.ref pf]))
   have T9:=T8.same s9
   have rf9:=rf.mono (au.same s9)
   generalize ax H8 pw (.tup [.int (ff:Nat),.int (la:Nat),.ref pf])=H9 at T9 s9 rf9 hpw9 ⊢
   have S9:=S7.trans (bo.same (s8.trans s9) T7.lst)
   have hlw9:=S9.keep _ _ nl hlw4
   refine⟨lw,xs,_,rfl,rfl,hlw9,aZ (by rw [alw.len];omega),?_⟩
   have t9:au K H1 (ax H9 lw (.lst (xs++[.ref pw]))):=(tst4.trans (au.step S9)).trans (au.up hlw9 _)
   refine⟨_,ws++[(ff,la,df (1+r5) bb)],_,_,_,_,rfl,T9.upl nl nls _,fun b o nb q=>?_,ah,(alw.mono fun v d m=>m.mono t9).snoc ⟨pw,.ref pf,rfl,au.up (K:=K) hlw9 _ _ _ hpw9,rf9.mono (au.up hlw9 _)⟩,by rw [List.length_append,hlen];rfl,fun z hz=>?_⟩
   ·rw [aD (aB q hlw0)]
    exact S9.keep _ _ nb (kp4 _ _ nb (kp b o nb q))
   ·rcases List.mem_append.mp hz with h | h
    ·exact okw z h
    ·rw [List.mem_singleton] at h
     subst h
     exact⟨by show ff≤la;omega,by show la < 24;omega,am⟩
  ·have s9:=aj hpw (.tup [.int (ff:Nat),.int (la:Nat),.ref pf])
   have hpw9:bh K _ pw [.int (ff:Nat),.int (la:Nat),.ref pf]:=bh.of (ah (H:=H8) (a:=pw) (o:=.tup [.int (ff:Nat),.int (la:Nat),.ref pf]))
   have T9:=T8.same s9
   have rf9:=rf.mono (au.same s9)
   generalize ax H8 pw (.tup [.int (ff:Nat),.int (la:Nat),.ref pf])=H9 at T9 s9 rf9 hpw9 ⊢
   have S9:=S7.trans (bo.same (s8.trans s9) T7.lst)
   have hlw9:=S9.keep _ _ nl hlw4
   refine⟨lw,xs,_,rfl,rfl,hlw9,aZ (by rw [alw.len];omega),?_⟩
   have t9:au K H1 (ax H9 lw (.lst (xs++[.ref pw]))):=(tst4.trans (au.step S9)).trans (au.up hlw9 _)
   refine⟨_,ws++[(ff,la,df (1+r5) bb)],_,_,_,_,rfl,T9.upl nl nls _,fun b o nb q=>?_,ah,(alw.mono fun v d m=>m.mono t9).snoc ⟨pw,.ref pf,rfl,au.up (K:=K) hlw9 _ _ _ hpw9,rf9.mono (au.up hlw9 _)⟩,by rw [List.length_append,hlen];rfl,fun z hz=>?_⟩
   ·rw [aD (aB q hlw0)]
    exact S9.keep _ _ nb (kp4 _ _ nb (kp b o nb q))
   ·rcases List.mem_append.mp hz with h | h
    ·exact okw z h
    ·rw [List.mem_singleton] at h
     subst h
     exact⟨by show ff≤la;omega,by show la < 24;omega,am⟩
 ·rintro σ H1 ⟨xs,ws,x5,x6,x7,x8,rfl,T1,kp,hlw,alw,hlen,okw⟩
  refine⟨_,rfl,lw,_,rfl,.inl ⟨aW.of hlw,fun p hp=>?_⟩⟩
  have s5:=aj hp (.tup xs)
  exact k (.ref p) ws _ ((S0.trans ⟨kp,T0.lst,T1.lst⟩).trans (bo.same s5 T1.lst)) (T1.same s5) ⟨p,xs,rfl,bh.of ah,alw.mono fun _ _ q=>q.mono (au.same s5)⟩ (by rw [hlen];omega) okw
theorem Cb (T:fC K mg t):bO P w K mg base eF 2 t.a_Q8 t.d_Q8 ["_law_some"] (jM K):=by
 refine T.F_Q8.ok oJ (fun vs H Q E h=>?_) (fun cdv A outer s H vs Q E hr h=>?_)
 ·obtain⟨_,_,_,rfl,_⟩:=h;rfl
 obtain⟨a,xs,rs,rfl,hS,al0,wf,n20,k⟩:=h
 refine eg.ok (ag (cy 1 oJ.nd (cu af))
   (ag (cM PassesOwn.never rfl (cN (qv 0)) (aN (i:=2) oJ.nd rfl (by first | exact Or.inl rfl | exact Or.inr rfl))
   (ag (cy 3 oJ.nd (aF aR (by rfl) T.z_len boot_len (ac (dU (N':=["_law_other", "_law_one"]) (src:=[none,some 2]) rfl (by exact (cN (qv 1))) (fun _ _ _ _ _=>(by exact (by exact aN (i:=0) (by show List.Nodup (["_law_other", "_law_one"]:List Str);decide +kernel) (by exact rfl) (by first | exact Or.inl rfl | exact Or.inr rfl)))) (fun _ _ _ _ _=>(e9 (cC (by exact (cJ (fY T) (by exact hr.mono (by decide)) (by exact rfl) T.m_Q23 T.F_Q23.kp T.b_Q23 (by exact .nil) (by exact eN) (ac (by exact (qv 0)) (ac (by exact (qv 1)) af ad) ad)))))) (fun _ _ _ _ _=>(by exact (by exact (qv 0)))) (by exact⟨rfl,rfl,rfl,rfl,trivial⟩) rfl (by decide +kernel) rfl (by decide +kernel) (by exact cr rfl ⟨rfl,trivial⟩)) af gk)))
   (aq (bK (aS (qx hr) (qv 2) (qv 1) (by with_unfolding_all rfl)) (aq (fb (iL PySem.F.plainAttrs_list PySem.F.slot_list_insert PySem.F.type_list_insert j9 (qv 1) (ac (qv 3) (ac (qv 2) af ad) ad)))) aP))))
   (aq (aJ (qv 1))))) ?_
 extract_lets +lift
 try dsimp -zeta -zetaDelta only [Cx.nox,Cx.wish,bX]
 have hxl:=al0.len
 refine⟨(by show 0≤sizeLine;exact Nat.zero_le _),fun l hl=>?_⟩
 have s0:=aj hl (.lst [])
 have nin:∀ b o,H b=some o->b≠l:=fun b o q=>aB q hl
 refine⟨_,rfl,a,rfl,⟨_,s0.seq hS⟩,eW (K:=K) (a:=a) (xs:=xs) (fun i σ H'=>∃ (x2 x3:Option V) (ys:List V) (zs:List R),σ=[some (.ref a),some (.ref l),x2,x3]/\aO H H'/\H' l=some (.lst ys)/\bU (RV K H') ys zs/\zs.length≤i/\Bl zs/\∀ z∈zs,z∈rs) ⟨none,none,[],[],rfl,s0,ah,.nil,Nat.le_refl _,List.Pairwise.nil,fun z hz=>nomatch hz⟩ (fun i σ H' _ ⟨_,_,_,_,_,s,_⟩=>s.seq hS) ?_ ?_⟩
 ·rintro i x σ H1 hx ⟨x2,x3,ys,zs,rfl,s1,hl1,al1,hlen,ris,sub⟩
  obtain⟨z,hz0,rvz⟩:=al0.at hx
  have hil:i < xs.length:=(List.getElem?_eq_some_iff.mp hx).1
  have mz:=List.mem_of_getElem? hz0
  have wz:=wf z mz
  have hz:=rvz.mono (au.same s1)
  refine⟨_,rfl,l,rfl,⟨_,aW.of hl1⟩,fun D hD=>gz (K:=K) (P:=RV K) (p:=fun y=>av y z) (fun _ _ _ _ t p=>p.mono t) hD (aW.of hl1) al1 (by omega) (fun j x d H3 hx hd s3 pd R E kR kE=>?_) fun H3 ds s3 hD3 al3=>?_⟩
  ·refine⟨iK.set rfl,_,rfl,_,rfl,_,_,d,z,98,98,rfl,pd,hz.mono (au.same s3),wf d (sub d (List.mem_of_getElem? hd)),wz,by decide,_,rfl,?_⟩
   cases c:av d z with
   | true=>exact gC ⟨_,rfl,kR _ (aO.refl _) c⟩
   | false=>exact eZ (kE _ (aO.refl _) c)
  refine⟨D,ds,rfl,.inl (aW.of hD3),?_⟩
  have dl:ds.length=(zs.filter fun y=>av y z).length:=al3.len
  have dle:ds.length≤zs.length:=by rw [dl];exact List.length_filter_le _ _
  have s13:=s1.trans s3
  have hl3:=s3 _ _ hl1
  have hz3:=hz.mono (au.same s3)
  have alz:=al1.mono fun _ _ q=>q.mono (au.same s3)
  obtain⟨pz,rfl,hSz⟩:=id hz3
  refine⟨_,rfl,_,rfl,l,ys,zs.map dR,dR z,rfl,aW.of hl3,alz.deep fun _ _ q=>q.deep,xu zs,hz3.deep,iH z,ie z,_,rfl,?_⟩
  rw [A5]
  by_cases cm:z∈zs
  ·rw [decide_eq_true cm]
   refine eZ ?_
   exact⟨_,_,ys,zs,rfl,s13,hl3,alz,by omega,ris,sub⟩
  ·rw [decide_eq_false cm]
   refine gC ?_
   refine⟨_,rfl,.inl ⟨rfl,_,aW.of hl3⟩,_,rfl,_,rfl,l,ys,ds.length,.ref pz,rfl,rfl,hl3,by rw [al1.len];exact dle,aZ (by rw [al1.len];omega),?_⟩
   have tm:=au.up (K:=K) hl3 (ys.take ds.length++.ref pz :: ys.drop ds.length)
   refine⟨_,_,_,zs.take ds.length++z :: zs.drop ds.length,rfl,fun b o q=>?_,ah,?_,?_,?_,?_⟩
   ·rw [aD (nin b o q)]
    exact s13 _ _ q
   ·have alm:=alz.mono fun _ _ q=>q.mono tm
    exact (alm.take _).join (.cons (hz3.mono tm) (alm.drop _))
   ·rw [List.length_append,List.length_cons,List.length_take,List.length_drop]
    omega
   ·rw [dl]
    exact wo (fun y hy=>⟨(wf y (sub y hy)).pos,(wf y (sub y hy)).cop⟩) ⟨wz.pos,wz.cop⟩ ris cm
   ·intro y hy
    rcases List.mem_append.mp hy with q | q
    ·exact sub y (List.mem_of_mem_take q)
    ·rcases List.mem_cons.mp q with q | q
     ·rw [q];exact mz
     ·exact sub y (List.mem_of_mem_drop q)
 ·rintro σ H1 ⟨x2,x3,ys,zs,rfl,s1,hl1,al1,hlen,ris,sub⟩
  exact⟨_,rfl,k l ys zs H1 s1 hl hl1 al1 (by omega) ris sub⟩
theorem uE (T:fC K mg t):bO P w K mg base eF 3 t.a_Q15 t.d_Q15 ["_law_rule_here", "_law_speed"] (kJ K):=by
 refine T.F_Q15.ok eK (fun vs H Q E h=>?_) (fun cdv A outer s H vs Q E hr h=>?_)
 ·obtain⟨_,_,_,_,rfl,_⟩:=h;rfl
 obtain⟨v,w,rl,s,rfl,hv,ok,hw,hs,hb,k⟩:=h
 refine eg.ok (ag (bK (aS dW (bf ap (qv 0) ae) jr (aQ _)) (ag (cy 2 eK.nd (aI (ac ae (ac ae af ao) ao)))
   (ag (cM PassesOwn.never rfl (cK rfl T.z_range (ac (bf ap (qv 0) ae) af aw)) (aN (i:=3) eK.nd rfl (by first | exact Or.inl rfl | exact Or.inr rfl))
   (aq (cy 2 eK.nd (bP (fK T) hr T.m_Q27 T.F_Q27.kp T.b_Q27 (ac (qv 2) (ac (qv 1) af ad) ad)))))
   (aq (aJ (qv 2))))) aP)
   (ag (cy 4 eK.nd (bf ap (qv 0) ae))
   (ag (cy 5 eK.nd ae)
   (ag (hU PassesOwn.never (cC (bP (fY T) hr T.m_Q23 T.F_Q23.kp T.b_Q23 (ac (bf ap (bf ap (qv 4) (qv 5)) ae) (ac (qv 1) af ad) aw)))
   (aq (cy 5 eK.nd (aK dk (qv 5) ae))))
   (ag (k7 (i:=6) (j:=7) rfl eK.nd rfl rfl (by decide) rfl rfl (ac (bf ap (qv 4) (aK iF (qv 5) ae)) (ac (bf ap (qv 4) (qv 5)) af aw) aw) rfl)
   (ag (cy 8 eK.nd (bP (de T) hr T.m_Q26 T.F_Q26.kp T.b_Q26 (ac (bf ap (qv 7) ae) (ac (aI (ac (dS cP (bf ap (bf ap (qv 6) ae) ae)) (ac (bf ap (bf ap (qv 6) ae) ae) af aw) eB)) af aG) aw)))
   (ag (cy 9 eK.nd (bP (de T) hr T.m_Q26 T.F_Q26.kp T.b_Q26 (ac (qv 1) (ac (aI (ac (dS cP (bf ap (bf ap (qv 6) ae) ae)) (ac (bf ap (bf ap (qv 6) ae) ae) af aw) eB)) af aG) ad)))
   (ag (cy 10 eK.nd (bP (de T) hr T.m_Q26 T.F_Q26.kp T.b_Q26 (ac (bf ap (qv 7) ae) (ac (aI (ac (dS cP (bf ap (bf ap (qv 6) ae) ae)) (ac (bf ap (bf ap (qv 6) ae) ae) af aw) eB)) af aG) aw)))
   (aq (aJ (bP (de T) hr T.m_Q26 T.F_Q26.kp T.b_Q26 (ac (bf ap (qv 6) ae) (ac (bP (fK T) hr T.m_Q27 T.F_Q27.kp T.b_Q27 (ac (bP (fK T) hr T.m_Q27 T.F_Q27.kp T.b_Q27 (ac (qv 10) (ac (qv 9) af ad) ad)) (ac (aI (ac (bf ap (qv 8) ae) (ac (bf ap (qv 8) ae) af aw) aw)) af aG) az)) af az) aw)))))))))))) ?_
 extract_lets +lift
 try dsimp -zeta -zetaDelta only [Cx.nox,Cx.wish,bX]
 cases rl with
 | pow kk=>
  obtain⟨p,rfl,hS⟩:=hv
  have ok':2≤kk/\kk≤4:=ok
  refine⟨_,rfl,p,_,_,_,rfl,rfl,hS,rfl,rfl,_,rfl,dy rfl ?_⟩
  refine⟨cY,fun p0 h0=>?_⟩
  have s0:=aj h0 (.tup [.int 1,.int 1])
  have r0:RV K (ax H p0 (.tup [.int 1,.int 1])) (.ref p0) (dj s 0):=RV.of ah
  generalize ax H p0 (.tup [.int 1,.int 1])=H0 at s0 r0 ⊢
  refine⟨_,rfl,p,_,_,_,rfl,rfl,au.same s0 _ _ hS,rfl,kk,rfl,by omega,by omega,dM (lo:=0) (n:=kk.toNat) (fun i σ H'=>∃ (u:V) (x3:Option V),σ=[some (.ref p),some w,some u,x3,none,none,none,none,none,none,none]/\aO H H'/\RV K H' u (dj s i)) ⟨_,none,rfl,s0,r0⟩ ?_ ?_⟩
  ·rintro i σ H1 hi ⟨u,x3,rfl,sm,hu⟩
   have wp:=ld hs.wf i
   have le:1+i * 98≤500:=by
    have:i * 98≤4 * 98:=Nat.mul_le_mul_right _ (by omega)
    omega
   refine⟨_,rfl,_,rfl,u,w,dj s i,s,500,98,rfl,hu,hw.mono (au.same sm),wp.mono le,hs.wf,by decide,fun q g=>?_⟩
   have e:=aj g (.tup [.int (ar (dj s i) s).1,.int (ar (dj s i) s).2])
   exact⟨_,_,rfl,sm.trans e,jp (K:=K) e⟩
  ·rintro σ H1 ⟨u,x3,rfl,sm,hu⟩
   exact⟨_,rfl,k _ _ sm hu⟩
 | tab rows=>
  have ok':aX rows:=ok
  obtain⟨p,q,xs,rfl,hS,hq,al⟩:=hv
  have n2:=ok'.n2
  have hlen:xs.length=rows.length:=al.len
  have pl:=ok'.p_lt hs.bq.pos hb
  refine⟨_,rfl,p,_,_,_,rfl,rfl,hS,rfl,rfl,_,rfl,bY (by decide) ?_⟩
  refine⟨_,rfl,p,_,_,_,rfl,rfl,hS,rfl,?_⟩
  refine⟨fun m σ H'=>∃ i:Nat,σ=[some (.ref p),some w,none,none,some (.ref q),some (.int (i:Int)),none,none,none,none,none]/\H'=H/\1≤i/\(i=1∨i≤cz rows s)/\m=rows.length - i,⟨_,1,rfl,rfl,Nat.le_refl _,.inl rfl,rfl⟩,?_⟩
  rintro m σ H' ⟨i,rfl,rfl,i1,hi,rfl⟩
  have hir:i < rows.length:=by omega
  have hx0:xs[i]?=some (xs[i]'(by omega)):=List.getElem?_eq_getElem _
  obtain⟨r,hr,hrv⟩:=al.at hx0
  obtain⟨pa,x,y,ex,hSr,hx,hy⟩:=id hrv
  have mr:=List.mem_of_getElem? hr
  refine⟨_,rfl,_,rfl,q,_,_,_,rfl,rfl,hq,bM hx0,pa,_,_,_,ex,rfl,hSr,rfl,_,rfl,x,w,r.1,s,98,98,rfl,hx,hw,yL (ok'.sp r mr),hs.wf,by decide,_,rfl,?_⟩
  rw [fh hs.bq.pos ok'.inc ok'.allP hr]
  by_cases c:i < cz rows s
  ·refine dy c ?_
   refine⟨_,fun _ _ z=>z,?_⟩
   exact⟨_,rfl,_,_,rfl,rfl,_,(by omega),i+1,rfl,rfl,by omega,.inr c,rfl⟩
  ·refine bY c ?_
   have hw0:xs[i - 1]?=some (xs[i - 1]'(by omega)):=List.getElem?_eq_getElem _
   obtain⟨r0,hr0,hrv0⟩:=al.at hw0
   obtain⟨pb,x0,y0,ex0,hS0,⟨px0,rfl,hx0'⟩,⟨py0,rfl,hy0⟩⟩:=id hrv0
   have m0:=List.mem_of_getElem? hr0
   have e1i:i - 1+1=i:=by omega
   have sl:=wc ok' (by omega) hr0 hr
   have hlt:av r0.1 r.1=true:=by
    obtain⟨h1,e1'⟩:=List.getElem?_eq_some_iff.mp hr0
    obtain⟨h2,e2'⟩:=List.getElem?_eq_some_iff.mp hr
    have:=List.pairwise_iff_getElem.mp ok'.inc (i - 1) i h1 h2 (by omega)
    rw [e1',e2'] at this
    exact this
   have hpos:0 < (ai r.1 r0.1).1:=by
    have:=di.mp hlt
    exact oZ (by omega) (Int.mul_pos sl.b1.pos sl.a1.pos)
   have due:dz (.tab rows) s=ic r0 r s:=by
    show jP rows s=_
    unfold jP
    by_cases c0:cz rows s=0
    ·rw [if_pos c0]
     have ez:=oA ok' hs c0
     obtain⟨yz,ey⟩:=ok'.zero
     have i0:i - 1=0:=by omega
     rw [i0] at hr0
     rw [bF hr0]
     rw [ey] at hr0
     cases hr0
     rw [ez]
     unfold ic
     exact (qC (ok'.pw _ m0).red (h8 sl.w2.pos sl.ne) (ok'.sp _ m0).red).symm
    ·rw [if_neg c0]
     have ei:cz rows s=i:=by omega
     rw [ei,bF hr0,bF hr]
   have k':vU K _ Q (ic r0 r s):=due ▸ k
   have lw:=uP (ok'.sp _ m0).red (ok'.pw _ m0).red (ok'.sp _ mr).red (ok'.pw _ mr).red hs.bq.red hpos
   rw [← lw] at k'
   have wneg1:Wf 98 ((-r0.1.1,r0.1.2):R):=⟨sl.a1.pos,by show (-r0.1.1).natAbs < _;rw [Int.natAbs_neg];exact sl.a1.top,sl.a1.bot,by show Int.gcd (-r0.1.1) r0.1.2=1;rw [Int.neg_gcd];exact sl.a1.cop⟩
   have wneg2:Wf 197 ((-r0.2.1,r0.2.2):R):=⟨sl.a2.pos,by show (-r0.2.1).natAbs < _;rw [Int.natAbs_neg];exact sl.a2.top,sl.a2.bot,by show Int.gcd (-r0.2.1) r0.2.2=1;rw [Int.neg_gcd];exact sl.a2.cop⟩
   have winv:Wf 99 (((ai r.1 r0.1).2,(ai r.1 r0.1).1):R):=⟨hpos,sl.w1.bot,sl.w1.top,by show Int.gcd (ai r.1 r0.1).2 (ai r.1 r0.1).1=1;rw [Int.gcd_comm];exact sl.w1.cop⟩
   have wfar:Wf 197 (ai s r0.1):=mI hs.wf sl.a1
   refine⟨_,rfl,_,rfl,_,_,rfl,rfl,q,_,_,_,rfl,rfl,hq,(by rw [show ((i:Int) - 1)=((i - 1:Nat):Int) by omega];exact bM hw0),_,rfl,_,rfl,q,_,_,_,rfl,rfl,hq,bM hx0,_,_,rfl,?_⟩
   refine⟨_,rfl,pa,_,_,_,ex,rfl,hSr,rfl,_,rfl,pb,_,_,_,ex0,rfl,hS0,rfl,px0,_,_,_,rfl,rfl,hx0',rfl,_,rfl,_,rfl,pb,_,_,_,ex0,rfl,hS0,rfl,px0,_,_,_,rfl,rfl,hx0',rfl,cY,fun p1 g1=>?_⟩
   have f1:=aj g1 (.tup [.int (-r0.1.1),.int r0.1.2])
   have r1:RV K (ax H' p1 (.tup [.int (-r0.1.1),.int r0.1.2])) (.ref p1) (-r0.1.1,r0.1.2):=RV.of ah
   generalize ax H' p1 (.tup [.int (-r0.1.1),.int r0.1.2])=G1 at f1 r1 ⊢
   have c1:=f1
   refine⟨x,.ref p1,r.1,(-r0.1.1,r0.1.2),98,98,rfl,(hx.mono (au.same c1)),r1,sl.b1,wneg1,by decide,fun p2 g2=>?_⟩
   rw [fX]
   have f2:=aj g2 (.tup [.int (ai r.1 r0.1).1,.int (ai r.1 r0.1).2])
   have r2:RV K (ax G1 p2 (.tup [.int (ai r.1 r0.1).1,.int (ai r.1 r0.1).2])) (.ref p2) (ai r.1 r0.1):=RV.of ah
   generalize ax G1 p2 (.tup [.int (ai r.1 r0.1).1,.int (ai r.1 r0.1).2])=G2 at f2 r2 ⊢
   have c2:=c1.trans f2
   refine⟨_,rfl,_,rfl,pb,_,_,_,ex0,rfl,(au.same (K:=K) c2 _ _ hS0),rfl,px0,_,_,_,rfl,rfl,(au.same (K:=K) c2 _ _ hx0'),rfl,_,rfl,_,rfl,pb,_,_,_,ex0,rfl,(au.same (K:=K) c2 _ _ hS0),rfl,px0,_,_,_,rfl,rfl,(au.same (K:=K) c2 _ _ hx0'),rfl,cY,fun p3 g3=>?_⟩
   have f3:=aj g3 (.tup [.int (-r0.1.1),.int r0.1.2])
   have r3:RV K (ax G2 p3 (.tup [.int (-r0.1.1),.int r0.1.2])) (.ref p3) (-r0.1.1,r0.1.2):=RV.of ah
   generalize ax G2 p3 (.tup [.int (-r0.1.1),.int r0.1.2])=G3 at f3 r3 ⊢
   have c3:=c2.trans f3
   refine⟨w,.ref p3,s,(-r0.1.1,r0.1.2),98,98,rfl,(hw.mono (au.same c3)),r3,hs.wf,wneg1,by decide,fun p4 g4=>?_⟩
   rw [fX]
   have f4:=aj g4 (.tup [.int (ai s r0.1).1,.int (ai s r0.1).2])
   have r4:RV K (ax G3 p4 (.tup [.int (ai s r0.1).1,.int (ai s r0.1).2])) (.ref p4) (ai s r0.1):=RV.of ah
   generalize ax G3 p4 (.tup [.int (ai s r0.1).1,.int (ai s r0.1).2])=G4 at f4 r4 ⊢
   have c4:=c3.trans f4
   refine⟨_,rfl,pa,_,_,_,ex,rfl,(au.same (K:=K) c4 _ _ hSr),rfl,_,rfl,pb,_,_,_,ex0,rfl,(au.same (K:=K) c4 _ _ hS0),rfl,py0,_,_,_,rfl,rfl,(au.same (K:=K) c4 _ _ hy0),rfl,_,rfl,_,rfl,pb,_,_,_,ex0,rfl,(au.same (K:=K) c4 _ _ hS0),rfl,py0,_,_,_,rfl,rfl,(au.same (K:=K) c4 _ _ hy0),rfl,cY,fun p5 g5=>?_⟩
   have f5:=aj g5 (.tup [.int (-r0.2.1),.int r0.2.2])
   have r5:RV K (ax G4 p5 (.tup [.int (-r0.2.1),.int r0.2.2])) (.ref p5) (-r0.2.1,r0.2.2):=RV.of ah
   generalize ax G4 p5 (.tup [.int (-r0.2.1),.int r0.2.2])=G5 at f5 r5 ⊢
   have c5:=c4.trans f5
   refine⟨y,.ref p5,r.2,(-r0.2.1,r0.2.2),197,197,rfl,(hy.mono (au.same c5)),r5,sl.b2,wneg2,by decide,fun p6 g6=>?_⟩
   rw [fX]
   have f6:=aj g6 (.tup [.int (ai r.2 r0.2).1,.int (ai r.2 r0.2).2])
   have r6:RV K (ax G5 p6 (.tup [.int (ai r.2 r0.2).1,.int (ai r.2 r0.2).2])) (.ref p6) (ai r.2 r0.2):=RV.of ah
   generalize ax G5 p6 (.tup [.int (ai r.2 r0.2).1,.int (ai r.2 r0.2).2])=G6 at f6 r6 ⊢
   have c6:=c5.trans f6
   have rw2:RV K G6 (.ref p2) (ai r.1 r0.1):=r2.mono (au.same (((f3.trans f4).trans f5).trans f6))
   have rf4:RV K G6 (.ref p4) (ai s r0.1):=r4.mono (au.same (f5.trans f6))
   obtain⟨pw_,epw,sqw⟩:=rw2
   cases epw
   refine⟨_,rfl,pb,_,_,_,ex0,rfl,(au.same (K:=K) c6 _ _ hS0),rfl,_,rfl,_,rfl,.ref p6,.ref p4,(ai r.2 r0.2),(ai s r0.1),198,197,rfl,r6,rf4,sl.w2,wfar,by decide,fun p7 g7=>?_⟩
   have f7:=aj g7 (.tup [.int (ar (ai r.2 r0.2) (ai s r0.1)).1,.int (ar (ai r.2 r0.2) (ai s r0.1)).2])
   have r7:RV K (ax G6 p7 (.tup [.int (ar (ai r.2 r0.2) (ai s r0.1)).1,.int (ar (ai r.2 r0.2) (ai s r0.1)).2])) (.ref p7) (ar (ai r.2 r0.2) (ai s r0.1)):=RV.of ah
   generalize ax G6 p7 (.tup [.int (ar (ai r.2 r0.2) (ai s r0.1)).1,.int (ar (ai r.2 r0.2) (ai s r0.1)).2])=G7 at f7 r7 ⊢
   have c7:=c6.trans f7
   have sqw7:=au.same (K:=K) f7 _ _ sqw
   refine⟨_,rfl,p2,_,_,_,rfl,rfl,sqw7,rfl,_,rfl,p2,_,_,_,rfl,rfl,sqw7,rfl,cY,fun p8 g8=>?_⟩
   have f8:=aj g8 (.tup [.int (ai r.1 r0.1).2,.int (ai r.1 r0.1).1])
   have r8:RV K (ax G7 p8 (.tup [.int (ai r.1 r0.1).2,.int (ai r.1 r0.1).1])) (.ref p8) ((ai r.1 r0.1).2,(ai r.1 r0.1).1):=RV.of ah
   generalize ax G7 p8 (.tup [.int (ai r.1 r0.1).2,.int (ai r.1 r0.1).1])=G8 at f8 r8 ⊢
   have c8:=c7.trans f8
   refine⟨.ref p7,.ref p8,(ar (ai r.2 r0.2) (ai s r0.1)),((ai r.1 r0.1).2,(ai r.1 r0.1).1),395,99,rfl,r7.mono (au.same f8),r8,dP sl.w2 wfar,winv,by decide,fun p9 g9=>?_⟩
   have f9:=aj g9 (.tup [.int (ar (ar (ai r.2 r0.2) (ai s r0.1)) ((ai r.1 r0.1).2,(ai r.1 r0.1).1)).1,.int (ar (ar (ai r.2 r0.2) (ai s r0.1)) ((ai r.1 r0.1).2,(ai r.1 r0.1).1)).2])
   have r9:RV K (ax G8 p9 (.tup [.int (ar (ar (ai r.2 r0.2) (ai s r0.1)) ((ai r.1 r0.1).2,(ai r.1 r0.1).1)).1,.int (ar (ar (ai r.2 r0.2) (ai s r0.1)) ((ai r.1 r0.1).2,(ai r.1 r0.1).1)).2])) (.ref p9) (ar (ar (ai r.2 r0.2) (ai s r0.1)) ((ai r.1 r0.1).2,(ai r.1 r0.1).1)):=RV.of ah
   generalize ax G8 p9 (.tup [.int (ar (ar (ai r.2 r0.2) (ai s r0.1)) ((ai r.1 r0.1).2,(ai r.1 r0.1).1)).1,.int (ar (ar (ai r.2 r0.2) (ai s r0.1)) ((ai r.1 r0.1).2,(ai r.1 r0.1).1)).2])=G9 at f9 r9 ⊢
   have c9:=c8.trans f9
   refine⟨.ref py0,.ref p9,r0.2,(ar (ar (ai r.2 r0.2) (ai s r0.1)) ((ai r.1 r0.1).2,(ai r.1 r0.1).1)),197,494,rfl,⟨py0,rfl,(au.same (K:=K) c9 _ _ hy0)⟩,r9,sl.a2,dP (dP sl.w2 wfar) winv,by decide,fun pe ge=>?_⟩
   exact k' _ _ (c9.trans (aj ge _)) (RV.of ah)
theorem Ca (T:fC K mg t):bO P w K mg base eF 3 t.a_Q9 t.d_Q9 ["_law_rule_here", "_law_speed"] (jL K):=by
 refine T.F_Q9.ok fV (fun vs H Q E h=>?_) (fun cdv A outer s H vs Q E hr h=>?_)
 ·obtain⟨_,_,_,_,rfl,_⟩:=h;rfl
 obtain⟨v,w,rl,s,rfl,hv,ok,hw,hs,hb,k⟩:=h
 refine eg.ok (ag (bK (aS dW (bf ap (qv 0) ae) jr (aQ _)) (ag (cy 2 fV.nd (aI (ac (bf ap (qv 0) ae) (ac ae af ao) aw)))
   (ag (cM PassesOwn.never rfl (cK rfl T.z_range (ac (aK iF (bf ap (qv 0) ae) ae) af be)) (aN (i:=3) fV.nd rfl (by first | exact Or.inl rfl | exact Or.inr rfl))
   (aq (cy 2 fV.nd (bP (fK T) hr T.m_Q27 T.F_Q27.kp T.b_Q27 (ac (qv 2) (ac (qv 1) af ad) ad)))))
   (aq (aJ (aI (ac (qv 2) (ac (qv 2) af ad) ad)))))) aP)
   (ag (cy 4 fV.nd (cu af))
   (ag (cM PassesOwn.never rfl (zI rfl T.z_zip (ac (bf ap (qv 0) ae) (ac (fz rW (bf ap (qv 0) ae) (gu ae) gv) af aw) aw)) (iD rfl (cD (aN (i:=5) fV.nd rfl (by first | exact Or.inl rfl | exact Or.inr rfl)) (cD (aN (i:=6) fV.nd rfl (by first | exact Or.inl rfl | exact Or.inr rfl)) gw)))
   (ag (cy 7 fV.nd (bP (de T) hr T.m_Q26 T.F_Q26.kp T.b_Q26 (ac (bf ap (qv 6) ae) (ac (aI (ac (dS cP (bf ap (bf ap (qv 5) ae) ae)) (ac (bf ap (bf ap (qv 5) ae) ae) af aw) eB)) af aG) aw)))
   (ag (cy 8 fV.nd (bP (de T) hr T.m_Q26 T.F_Q26.kp T.b_Q26 (ac (bf ap (qv 6) ae) (ac (aI (ac (dS cP (bf ap (bf ap (qv 5) ae) ae)) (ac (bf ap (bf ap (qv 5) ae) ae) af aw) eB)) af aG) aw)))
   (aq (fb (iL PySem.F.plainAttrs_list PySem.F.slot_list_append PySem.F.type_list_append dI (qv 4) (ac (aI (ac (bf ap (qv 5) ae) (ac (bf ap (qv 6) ae) (ac (bP (fK T) hr T.m_Q27 T.F_Q27.kp T.b_Q27 (ac (qv 8) (ac (aI (ac (bf ap (qv 7) ae) (ac (bf ap (qv 7) ae) af aw) aw)) af aG) ad)) af az) aw) aw)) af aG)))))))
   (ag (gt (i:=9) (N':=["_law_row", "_law_speed"]) (src:=[none,some 1]) fV.nd rfl (by first | exact Or.inl rfl | exact Or.inr rfl) rfl (by exact (cN (qv 4))) (fun _ _ _ _ _=>(by exact (by exact aN (i:=0) (by show List.Nodup (["_law_row", "_law_speed"]:List Str);decide +kernel) (by exact rfl) (by first | exact Or.inl rfl | exact Or.inr rfl)))) (fun _ _ _ _ _=>(e9 (cC (by exact (cJ (fY T) (by exact hr.mono (by decide)) (by exact rfl) T.m_Q23 T.F_Q23.kp T.b_Q23 (by exact .nil) (by exact eN) (ac (by exact (cE (bH (K:=K) (by exact rfl)) (by exact (qv 0)) ae (by exact fun _ _=>rfl))) (ac (by exact (qv 1)) af ad) aw)))))) (fun _ _ _ _ _=>(by exact (by exact (cE (bH (K:=K) (by exact rfl)) (by exact (qv 0)) ae (by exact fun _ _=>rfl))))) (by exact⟨rfl,rfl,rfl,rfl,trivial⟩) rfl (by decide +kernel) rfl (by decide +kernel) (by exact cr rfl ⟨rfl,trivial⟩))
   (ag (gt (i:=10) (N':=["_law_row", "_law_speed"]) (src:=[none,some 1]) fV.nd rfl (by first | exact Or.inl rfl | exact Or.inr rfl) rfl (by exact (cN (qv 4))) (fun _ _ _ _ _=>(by exact (by exact aN (i:=0) (by show List.Nodup (["_law_row", "_law_speed"]:List Str);decide +kernel) (by exact rfl) (by first | exact Or.inl rfl | exact Or.inr rfl)))) (fun _ _ _ _ _=>(e9 (cC (by exact (cJ (fY T) (by exact hr.mono (by decide)) (by exact rfl) T.m_Q23 T.F_Q23.kp T.b_Q23 (by exact .nil) (by exact eN) (ac (by exact (qv 1)) (ac (by exact (cE (bH (K:=K) (by exact rfl)) (by exact (qv 0)) ae (by exact fun _ _=>rfl))) af aw) ad)))))) (fun _ _ _ _ _=>(by exact (by exact (cE (bH (K:=K) (by exact rfl)) (by exact (qv 0)) ae (by exact fun _ _=>rfl))))) (by exact⟨rfl,rfl,rfl,rfl,trivial⟩) rfl (by decide +kernel) rfl (by decide +kernel) (by exact cr rfl ⟨rfl,trivial⟩))
   (aq (aJ (aI (ac (mv (aS oX (aF aR (by rfl) T.z_len boot_len (ac (qv 9) af ad)) ae (aQ _)) (bf bE (qv 9) (dS cP ae)) (aI (ac ae (ac ae af ao) ao))) (ac (mv (aS oX (aF aR (by rfl) T.z_len boot_len (ac (qv 10) af ad)) ae (aQ _)) (bf bE (qv 10) ae) fW) af oF) oF))))))))) ?_
 extract_lets +lift
 try dsimp -zeta -zetaDelta only [Cx.nox,Cx.wish,bX]
 cases rl with
 | pow kk=>
  obtain⟨p,rfl,hS⟩:=hv
  have ok':2≤kk/\kk≤4:=ok
  refine⟨_,rfl,p,_,_,_,rfl,rfl,hS,rfl,rfl,_,rfl,dy rfl ?_⟩
  refine⟨_,rfl,p,_,_,_,rfl,rfl,hS,rfl,cY,fun p1 h1=>?_⟩
  have s1:=aj h1 (.tup [.int kk,.int 1])
  refine⟨_,rfl,p,_,_,_,rfl,rfl,au.same s1 _ _ hS,rfl,_,_,rfl,rfl,kk - 1,rfl,by omega,by omega,dM (lo:=0) (n:=(kk - 1).toNat) (fun i σ H'=>∃ (u:V) (x3:Option V),σ=[some (.ref p),some w,some u,x3,none,none,none,none,none,none,none]/\aO H H'/\RV K H' u (fe kk s i)) ⟨_,none,rfl,s1,by rw [nO];exact jp (K:=K) s1⟩ ?_ ?_⟩
  ·rintro i σ H1 hi ⟨u,x3,rfl,sm,hu⟩
   refine⟨_,rfl,_,rfl,u,w,fe kk s i,s,300,98,rfl,hu,hw.mono (au.same sm),ui ok' hs.wf (by omega),hs.wf,by decide,fun q g=>?_⟩
   have e:=aj g (.tup [.int (ar (fe kk s i) s).1,.int (ar (fe kk s i) s).2])
   refine⟨_,_,rfl,sm.trans e,?_⟩
   rw [← nP hs.bq.pos]
   exact jp (K:=K) e
  ·rintro σ H1 ⟨u,x3,rfl,sm,hu⟩
   rw [qm hs.bq.red] at hu
   refine⟨_,rfl,_,rfl,cY,fun q g=>?_⟩
   have e:=aj g (.tup [u,u])
   exact k _ _ (sm.trans e) ⟨q,_,_,rfl,bh.of ah,hu.mono (au.same e),hu.mono (au.same e)⟩
 | tab rows=>
  have ok':aX rows:=ok
  obtain⟨p,q,xs,rfl,hS,hq,al⟩:=hv
  have n2:=ok'.n2
  have n12:=ok'.n12
  have hlen:xs.length=rows.length:=al.len
  have pl:=ok'.p_lt hs.bq.pos hb
  have qp:=ok'.q_pos hs.bq.pos hs.nn
  refine⟨_,rfl,p,_,_,_,rfl,rfl,hS,rfl,rfl,_,rfl,bY (by decide) ?_⟩
  refine⟨(by show 0≤sizeLine;exact Nat.zero_le _),fun ls hls=>?_⟩
  have m:=aj hls (.lst [])
  refine⟨_,rfl,p,_,_,_,rfl,rfl,au.same m _ _ hS,rfl,_,rfl,p,_,_,_,rfl,rfl,au.same m _ _ hS,rfl,_,rfl,q,xs,rfl,au.same m _ _ hq,?_,fun pz hz=>?_⟩
  ·rintro⟨z,_⟩
   rw [show (some (1:Int))=some (((1:Nat):Int)) from rfl,HT.sIx_nat,Nat.min_eq_left (by omega)] at z
   omega
  rw [vn (by omega)]
  have m2:=aj hz (.tup (xs.drop 1))
  have hl0:(ax (ax H ls (.lst [])) pz (.tup (xs.drop 1))) ls=some (.lst []):=m2 _ _ ah
  have hpz0:bh K (ax (ax H ls (.lst [])) pz (.tup (xs.drop 1))) pz (xs.drop 1):=bh.of ah
  have sm0:=m.trans m2
  generalize (ax (ax H ls (.lst [])) pz (.tup (xs.drop 1)))=Hz at hl0 hpz0 sm0 ⊢
  refine⟨q,pz,rfl,⟨_,au.same sm0 _ _ hq⟩,⟨_,hpz0⟩,xA (K:=K) (a:=q) (b:=pz) (xs:=xs) (ys:=xs.drop 1) (n:=xs.length - 1) (fun i σ H'=>∃ (x5 x6 x7 x8:Option V) (ys:List V),σ=[some (.ref p),some w,none,none,some (.ref ls),x5,x6,x7,x8,none,none]/\aO H H'/\bh K H' pz (xs.drop 1)/\H' ls=some (.lst ys)/\bU (vC K H') ys ((List.range i).map (dD rows))) (by omega) (by rw [List.length_drop];omega) (.inr (by rw [List.length_drop];omega)) ⟨none,none,none,none,[],rfl,sm0,hpz0,hl0,.nil⟩ (fun i σ H1 _ ⟨_,_,_,_,_,_,sm,hpz,_⟩=>⟨au.same sm _ _ hq,hpz⟩) ?_ ?_⟩
  ·rintro i x y pt σ H1 hi hx hy ⟨x5,x6,x7,x8,ys,rfl,sm,hpz,hl,alT⟩ hpt
   have e1:=aj hpt (.tup [x,y])
   obtain⟨a,ha,rva⟩:=al.at hx
   have hy':xs[i+1]?=some y:=by rw [List.getElem?_drop,Nat.add_comm] at hy;exact hy
   obtain⟨b,hb',rvb⟩:=al.at hy'
   have slok:=wc ok' (Nat.lt_succ_self i) ha hb'
   have hlt:av a.1 b.1=true:=by
    obtain⟨h1,e1'⟩:=List.getElem?_eq_some_iff.mp ha
    obtain⟨h2,e2'⟩:=List.getElem?_eq_some_iff.mp hb'
    have:=List.pairwise_iff_getElem.mp ok'.inc i (i+1) h1 h2 (by omega)
    rw [e1',e2'] at this
    exact this
   have hpos:0 < (ai b.1 a.1).1:=by
    have:=di.mp hlt
    exact oZ (by omega) (Int.mul_pos slok.b1.pos slok.a1.pos)
   have wneg1:Wf 98 ((-a.1.1,a.1.2):R):=⟨slok.a1.pos,by show (-a.1.1).natAbs < _;rw [Int.natAbs_neg];exact slok.a1.top,slok.a1.bot,by show Int.gcd (-a.1.1) a.1.2=1;rw [Int.neg_gcd];exact slok.a1.cop⟩
   have wneg2:Wf 197 ((-a.2.1,a.2.2):R):=⟨slok.a2.pos,by show (-a.2.1).natAbs < _;rw [Int.natAbs_neg];exact slok.a2.top,slok.a2.bot,by show Int.gcd (-a.2.1) a.2.2=1;rw [Int.neg_gcd];exact slok.a2.cop⟩
   have winv:Wf 99 (((ai b.1 a.1).2,(ai b.1 a.1).1):R):=⟨hpos,slok.w1.bot,slok.w1.top,by show Int.gcd (ai b.1 a.1).2 (ai b.1 a.1).1=1;rw [Int.gcd_comm];exact slok.w1.cop⟩
   refine⟨pt,_,rfl,bh.of ah,rfl,_,_,rfl,_,_,rfl,rfl,?_⟩
   have t1:=(au.same (K:=K) sm).trans (au.same e1)
   obtain⟨pa,xa,ya,rfl,hSa,⟨pxa,rfl,hxa⟩,⟨pya,rfl,hya⟩⟩:=rva.mono t1
   obtain⟨pb,xb,yb,rfl,hSb,hxb,hyb⟩:=rvb.mono t1
   have sm1:=sm.trans e1
   have hpz1:=au.same (K:=K) e1 _ _ hpz
   have hl1:=e1 _ _ hl
   have al1:=alT.mono fun _ _ q=>q.mono (au.same e1)
   clear rva rvb t1 e1
   generalize ax H1 pt (.tup [.ref pa,.ref pb])=H2 at sm1 hpz1 hl1 al1 hSa hxa hya hSb hxb hyb ⊢
   refine⟨_,rfl,pb,_,_,_,rfl,rfl,hSb,rfl,_,rfl,pa,_,_,_,rfl,rfl,hSa,rfl,pxa,_,_,_,rfl,rfl,hxa,rfl,_,rfl,_,rfl,pa,_,_,_,rfl,rfl,hSa,rfl,pxa,_,_,_,rfl,rfl,hxa,rfl,cY,fun p1 g1=>?_⟩
   have f1:=aj g1 (.tup [.int (-a.1.1),.int a.1.2])
   have r1:RV K (ax H2 p1 (.tup [.int (-a.1.1),.int a.1.2])) (.ref p1) (-a.1.1,a.1.2):=RV.of ah
   generalize ax H2 p1 (.tup [.int (-a.1.1),.int a.1.2])=H3 at f1 r1 ⊢
   refine⟨xb,.ref p1,b.1,(-a.1.1,a.1.2),98,98,rfl,hxb.mono (au.same f1),r1,slok.b1,wneg1,by decide,fun p2 g2=>?_⟩
   rw [fX]
   have f2:=aj g2 (.tup [.int (ai b.1 a.1).1,.int (ai b.1 a.1).2])
   have q2:bh K (ax H3 p2 (.tup [.int (ai b.1 a.1).1,.int (ai b.1 a.1).2])) p2 [.int (ai b.1 a.1).1,.int (ai b.1 a.1).2]:=bh.of ah
   generalize ax H3 p2 (.tup [.int (ai b.1 a.1).1,.int (ai b.1 a.1).2])=H4 at f2 q2 ⊢
   have f12:=f1.trans f2
   have t12:=au.same (K:=K) f12
   refine⟨_,rfl,pb,_,_,_,rfl,rfl,t12 _ _ hSb,rfl,_,rfl,pa,_,_,_,rfl,rfl,t12 _ _ hSa,rfl,pya,_,_,_,rfl,rfl,t12 _ _ hya,rfl,_,rfl,_,rfl,pa,_,_,_,rfl,rfl,t12 _ _ hSa,rfl,pya,_,_,_,rfl,rfl,t12 _ _ hya,rfl,cY,fun p3 g3=>?_⟩
   have f3:=aj g3 (.tup [.int (-a.2.1),.int a.2.2])
   have r3:RV K (ax H4 p3 (.tup [.int (-a.2.1),.int a.2.2])) (.ref p3) (-a.2.1,a.2.2):=RV.of ah
   generalize ax H4 p3 (.tup [.int (-a.2.1),.int a.2.2])=H5 at f3 r3 ⊢
   have f13:=f12.trans f3
   refine⟨yb,.ref p3,b.2,(-a.2.1,a.2.2),197,197,rfl,hyb.mono (au.same f13),r3,slok.b2,wneg2,by decide,fun p4 g4=>?_⟩
   rw [fX]
   have f4:=aj g4 (.tup [.int (ai b.2 a.2).1,.int (ai b.2 a.2).2])
   have r4:RV K (ax H5 p4 (.tup [.int (ai b.2 a.2).1,.int (ai b.2 a.2).2])) (.ref p4) (ai b.2 a.2):=RV.of ah
   generalize ax H5 p4 (.tup [.int (ai b.2 a.2).1,.int (ai b.2 a.2).2])=H6 at f4 r4 ⊢
   have f34:=f3.trans f4
   have f14:=f13.trans f4
   have t14:=au.same (K:=K) f14
   have q2':=au.same (K:=K) f34 _ _ q2
   refine⟨_,rfl,.inl ⟨rfl,_,aW.of (f14 _ _ hl1)⟩,_,rfl,pa,_,_,_,rfl,rfl,t14 _ _ hSa,rfl,_,rfl,pb,_,_,_,rfl,rfl,t14 _ _ hSb,rfl,_,rfl,_,rfl,p2,_,_,_,rfl,rfl,q2',rfl,_,rfl,p2,_,_,_,rfl,rfl,q2',rfl,cY,fun p5 g5=>?_⟩
   have f5:=aj g5 (.tup [.int (ai b.1 a.1).2,.int (ai b.1 a.1).1])
   have r5:RV K (ax H6 p5 (.tup [.int (ai b.1 a.1).2,.int (ai b.1 a.1).1])) (.ref p5) ((ai b.1 a.1).2,(ai b.1 a.1).1):=RV.of ah
   generalize ax H6 p5 (.tup [.int (ai b.1 a.1).2,.int (ai b.1 a.1).1])=H7 at f5 r5 ⊢
   refine⟨.ref p4,.ref p5,ai b.2 a.2,((ai b.1 a.1).2,(ai b.1 a.1).1),198,99,rfl,r4.mono (au.same f5),r5,slok.w2,winv,by decide,fun p6 g6=>?_⟩
   rw [pY slok.w2.pos hpos,show fO (ai b.2 a.2) (ai b.1 a.1)=fx rows i from (jk ha hb').symm ▸ rfl]
   have f6:=aj g6 (.tup [.int (fx rows i).1,.int (fx rows i).2])
   have r6:RV K (ax H7 p6 (.tup [.int (fx rows i).1,.int (fx rows i).2])) (.ref p6) (fx rows i):=RV.of ah
   generalize ax H7 p6 (.tup [.int (fx rows i).1,.int (fx rows i).2])=H8 at f6 r6 ⊢
   refine⟨xN,fun p7 g7=>?_⟩
   have f7:=aj g7 (.tup [.ref pxa,xb,.ref p6])
   have f17:=((f14.trans f5).trans f6).trans f7
   have t17:=au.same (K:=K) f17
   have tri:vC K (ax H8 p7 (.tup [.ref pxa,xb,.ref p6])) (.ref p7) (dD rows i):=by
    refine⟨p7,_,_,_,rfl,bh.of ah,?_,?_,r6.mono (au.same f7)⟩
    ·show RV K _ _ (rows.getD i cU).1
     rw [bF ha]
     exact⟨pxa,rfl,t17 _ _ hxa⟩
    ·show RV K _ _ (rows.getD (i+1) cU).1
     rw [bF hb']
     exact hxb.mono t17
   generalize ax H8 p7 (.tup [.ref pxa,xb,.ref p6])=H9 at f17 t17 tri ⊢
   have lyt:=al1.len
   rw [List.length_map,List.length_range] at lyt
   have hl9:=f17 _ _ hl1
   refine⟨ls,ys,_,rfl,rfl,hl9,aZ (by omega),?_⟩
   have tu:=au.up (K:=K) hl9 (ys++[.ref p7])
   refine⟨_,_,_,_,_,rfl,fun b_ o_ q_=>?_,tu _ _ (t17 _ _ hpz1),ah,?_⟩
   ·rw [aD (aB q_ hls)]
    exact f17 _ _ (sm1 _ _ q_)
   ·rw [List.range_succ,List.map_append]
    exact (al1.mono fun _ _ q=>q.mono (t17.trans tu)).snoc (tri.mono tu)
  ·rintro σ HB ⟨x5,x6,x7,x8,yt,rfl,sm,hpz,hl,alT⟩
   have lyt:=alT.len
   rw [List.length_map,List.length_range] at lyt
   have rowW:∀ i,i < rows.length->Wf 98 (rows.getD i cU).1:=fun i hi=>by
    rw [bF (List.getElem?_eq_getElem hi)]
    exact yL (ok'.sp _ (List.getElem_mem hi))
   have HW:=hw.mono (au.same sm)
   refine⟨_,rfl,ls,rfl,⟨_,aW.of hl⟩,fun D1 hD1=>ii (J:=rc K ls) (n:=rows.length - 1) (fun i ys H'=>aO HB H'/\H' D1=some (.lst ys)/\ys.length≤i/\bU (RV K H') ys (((List.range i).filter fun k=>av (dD rows k).1 s).map (fx rows))) ⟨aj hD1 _,ah,Nat.le_refl _,.nil⟩ (fun i ys H' hi ⟨s',_⟩=>⟨yt,_,s'.seq (aW.of hl),List.getElem?_eq_getElem (by omega)⟩) (fun yl HC ⟨sC,hC,_,aC⟩=>⟨⟨yt,sC.seq (aW.of hl),by omega⟩,?_⟩) ?_⟩
   rotate_left
   ·rintro i ys H1 x H2 hi ⟨s',h',l',a'⟩ ⟨rfl,hx⟩ R E kR kE
    have hx':=hx yt (s'.seq (aW.of hl))
    obtain⟨w3,hw3,p3,y1,y2,y3,rfl,hS3,v1,v2,v3⟩:=alT.at hx'
    have ew:w3=dD rows i:=by
     rw [List.getElem?_map,List.getElem?_range (by omega)] at hw3
     exact (Option.some.inj hw3).symm
    subst ew
    have ts:=au.same (K:=K) s'
    have wk:Wf 98 (dD rows i).1:=rowW i (by omega)
    have wk1:Wf 98 (dD rows i).2.1:=rowW (i+1) (by omega)
    refine⟨iK.set rfl,?_⟩
    refine⟨_,rfl,p3,_,_,_,rfl,rfl,ts _ _ hS3,rfl,_,rfl,y1,w,(dD rows i).1,s,98,98,rfl,v1.mono ts,HW.mono ts,wk,hs.wf,by decide,_,rfl,?_⟩
    have hs1:((List.range (i+1)).filter fun k=>av (dD rows k).1 s).map (fx rows)=((List.range i).filter fun k=>av (dD rows k).1 s).map (fx rows)++(if av (dD rows i).1 s=true then [fx rows i] else []):=by
     rw [List.range_succ,List.filter_append,List.map_append]
     congr 1
     by_cases c:av (dD rows i).1 s=true
     ·rw [if_pos c,List.filter_cons,if_pos c];rfl
     ·rw [if_neg c,List.filter_cons,if_neg c];rfl
    cases c:av (dD rows i).1 s with
    | false=>
     refine eZ (kE _ ⟨s',h',by omega,?_⟩)
     rw [hs1,c,if_neg Bool.false_ne_true,List.append_nil]
     exact a'
    | true=>
     refine gC ⟨_,rfl,p3,_,_,_,rfl,rfl,ts _ _ hS3,rfl,?_⟩
     refine kR y3 _ h' (aZ (by omega)) ⟨fun b o q=>?_,ah,by rw [List.length_append];show ys.length+1≤i+1;omega,?_⟩
     ·rw [aD (aB q hD1)]
      exact s' _ _ q
     ·rw [hs1,c,if_pos rfl]
      have tu:=au.up (K:=K) h' (ys++[y3])
      exact (a'.mono fun _ _ q=>q.mono tu).snoc ((v3.mono ts).mono tu)
   have hlC:=sC _ _ hl
   have alC:=alT.mono fun _ _ q=>q.mono (au.same sC)
   have HWC:=HW.mono (au.same sC)
   refine⟨_,rfl,ls,rfl,⟨_,aW.of hlC⟩,fun D2 hD2=>ii (J:=rc K ls) (n:=rows.length - 1) (fun i ys H'=>aO HC H'/\H' D2=some (.lst ys)/\ys.length≤i/\bU (RV K H') ys (((List.range i).filter fun k=>av s (dD rows k).2.1).map (fx rows))) ⟨aj hD2 _,ah,Nat.le_refl _,.nil⟩ (fun i ys H' hi ⟨s',_⟩=>⟨yt,_,s'.seq (aW.of hlC),List.getElem?_eq_getElem (by omega)⟩) (fun yr HE ⟨sE,hE,_,aE⟩=>⟨⟨yt,sE.seq (aW.of hlC),by omega⟩,?_⟩) ?_⟩
   rotate_left
   ·rintro i ys H1 x H2 hi ⟨s',h',l',a'⟩ ⟨rfl,hx⟩ R E kR kE
    have hx':=hx yt (s'.seq (aW.of hlC))
    obtain⟨w3,hw3,p3,y1,y2,y3,rfl,hS3,v1,v2,v3⟩:=alC.at hx'
    have ew:w3=dD rows i:=by
     rw [List.getElem?_map,List.getElem?_range (by omega)] at hw3
     exact (Option.some.inj hw3).symm
    subst ew
    have ts:=au.same (K:=K) s'
    have wk:Wf 98 (dD rows i).1:=rowW i (by omega)
    have wk1:Wf 98 (dD rows i).2.1:=rowW (i+1) (by omega)
    refine⟨iK.set rfl,?_⟩
    refine⟨_,rfl,_,rfl,p3,_,_,_,rfl,rfl,ts _ _ hS3,rfl,w,y2,s,(dD rows i).2.1,98,98,rfl,HWC.mono ts,v2.mono ts,hs.wf,wk1,by decide,_,rfl,?_⟩
    have hs1:((List.range (i+1)).filter fun k=>av s (dD rows k).2.1).map (fx rows)=((List.range i).filter fun k=>av s (dD rows k).2.1).map (fx rows)++(if av s (dD rows i).2.1=true then [fx rows i] else []):=by
     rw [List.range_succ,List.filter_append,List.map_append]
     congr 1
     by_cases c:av s (dD rows i).2.1=true
     ·rw [if_pos c,List.filter_cons,if_pos c];rfl
     ·rw [if_neg c,List.filter_cons,if_neg c];rfl
    cases c:av s (dD rows i).2.1 with
    | false=>
     refine eZ (kE _ ⟨s',h',by omega,?_⟩)
     rw [hs1,c,if_neg Bool.false_ne_true,List.append_nil]
     exact a'
    | true=>
     refine gC ⟨_,rfl,p3,_,_,_,rfl,rfl,ts _ _ hS3,rfl,?_⟩
     refine kR y3 _ h' (aZ (by omega)) ⟨fun b o q=>?_,ah,by rw [List.length_append];show ys.length+1≤i+1;omega,?_⟩
     ·rw [aD (aB q hD2)]
      exact s' _ _ q
     ·rw [hs1,c,if_pos rfl]
      have tu:=au.up (K:=K) h' (ys++[y3])
      exact (a'.mono fun _ _ q=>q.mono tu).snoc ((v3.mono ts).mono tu)
   have smE:=(sm.trans sC).trans sE
   have hC':=sE _ _ hC
   have aC':=aC.mono fun _ _ q=>q.mono (au.same sE)
   have eqL:((List.range (rows.length - 1)).filter fun k=>av (dD rows k).1 s)=List.range (cz rows s):=by
    rw [← xC (cz rows s) (rows.length - 1) (by omega)]
    refine List.filter_congr fun k hk=>?_
    have hk':=List.mem_range.mp hk
    show av (rows.getD k cU).1 s=_
    rw [bF (List.getElem?_eq_getElem (show k < rows.length by omega))]
    exact fh hs.bq.pos ok'.inc ok'.allP (List.getElem?_eq_getElem (show k < rows.length by omega))
   have eqC:((List.range (rows.length - 1)).filter fun k=>av s (dD rows k).2.1)=(List.range (rows.length - 1)).filter fun k=>decide (fc rows s - 1≤k):=by
    refine List.filter_congr fun k hk=>?_
    have hk':=List.mem_range.mp hk
    show av s (rows.getD (k+1) cU).1=_
    rw [bF (List.getElem?_eq_getElem (show k+1 < rows.length by omega)),ij hs.bq.pos ok'.inc ok'.allP (List.getElem?_eq_getElem (show k+1 < rows.length by omega))]
    exact decide_eq_decide.mpr ⟨fun h=>by omega,fun h=>by omega⟩
   have eqR:fc rows s < rows.length->((List.range (rows.length - 1)).filter fun k=>av s (dD rows k).2.1).head?=some (fc rows s - 1):=fun h=>by
    rw [eqC];exact lx _ _ (by omega)
   have eqN:¬ fc rows s < rows.length->(((List.range (rows.length - 1)).filter fun k=>av s (dD rows k).2.1).map (fx rows)).length=0:=fun h=>by
    rw [eqC,mS _ _ (by omega)];rfl
   rw [eqL] at aC'
   have lyl:=aC'.len
   rw [List.length_map,List.length_range] at lyl
   by_cases cp:cz rows s=0
   ·refine⟨_,rfl,D1,_,rfl,.inl (aW.of hC'),_,_,rfl,rfl,_,rfl,bY (by omega) ?_⟩
    refine⟨cY,fun pz hpz=>?_⟩
    have ez:=aj hpz (.tup [.int 0,.int 1])
    have rz:RV K (ax HE pz (.tup [.int 0,.int 1])) (.ref pz) (dY rows s):=by unfold dY;rw [if_pos cp];exact RV.of ah
    generalize ax HE pz (.tup [.int 0,.int 1])=HF at ez rz ⊢
    by_cases cq:fc rows s < rows.length
    ·obtain⟨y0,hy0⟩:∃ y,yr[0]?=some y:=⟨_,List.getElem?_eq_getElem (by rw [aE.len];have:=eqR cq;cases z:((List.range (rows.length - 1)).filter fun k=>av s (dD rows k).2.1) with | nil=>rw [z] at this;cases this | cons _ _=>simp)⟩
     obtain⟨d0,hd0,rv0⟩:=aE.at hy0
     have ed:d0=fx rows (fc rows s - 1):=by
      rw [List.getElem?_map,← List.head?_eq_getElem?,eqR cq] at hd0
      exact (Option.some.inj hd0).symm
     subst ed
     have ly0:0 < yr.length:=(List.getElem?_eq_some_iff.mp hy0).1
     refine⟨_,rfl,D2,_,rfl,.inl (aW.of (ez _ _ hE)),_,_,rfl,rfl,_,rfl,dy (by omega) ?_⟩
     refine⟨_,rfl,D2,_,_,_,rfl,rfl,aW.of (ez _ _ hE),bM (j:=0) hy0,cY,fun pf hpf=>?_⟩
     have ef:=aj hpf (.tup [.ref pz,y0])
     refine k (.ref pf) _ ((smE.trans ez).trans ef) ⟨pf,_,_,rfl,bh.of ah,(rz).mono (au.same ef),?_⟩
     rw [show (bL (.tab rows) s).2=some (fx rows (fc rows s - 1)) by show cZ rows s=_;unfold cZ;rw [if_pos cq]]
     exact (rv0.mono (au.same ez)).mono (au.same ef)
    ·have yn:yr=[]:=by
      have:=aE.len
      rw [eqN cq] at this
      exact List.length_eq_zero_iff.mp this
     refine⟨_,rfl,D2,_,rfl,.inl (aW.of (ez _ _ hE)),_,_,rfl,rfl,_,rfl,bY (by rw [yn];show ¬ ((0:Nat):Int) > 0;decide) ?_⟩
     refine⟨cY,fun pf hpf=>?_⟩
     have ef:=aj hpf (.tup [.ref pz,.non])
     refine k (.ref pf) _ ((smE.trans ez).trans ef) ⟨pf,_,_,rfl,bh.of ah,(rz).mono (au.same ef),?_⟩
     rw [show (bL (.tab rows) s).2=none by show cZ rows s=_;unfold cZ;rw [if_neg cq]]
     rfl
   ·obtain⟨xl,dl,hlast,hdl,rvl,_⟩:=aC'.last (n:=cz rows s - 1) (by rw [List.length_map,List.length_range];omega)
    have edl:dl=fx rows (cz rows s - 1):=by
     rw [List.getElem?_map,List.getElem?_range (by omega)] at hdl
     exact (Option.some.inj hdl).symm
    subst edl
    refine⟨_,rfl,D1,_,rfl,.inl (aW.of hC'),_,_,rfl,rfl,_,rfl,dy (by omega) ?_⟩
    refine⟨_,rfl,_,rfl,D1,_,_,_,rfl,rfl,aW.of hC',hlast,?_⟩
    have rz:RV K HE xl (dY rows s):=by unfold dY;rw [if_neg cp];exact rvl
    by_cases cq:fc rows s < rows.length
    ·obtain⟨y0,hy0⟩:∃ y,yr[0]?=some y:=⟨_,List.getElem?_eq_getElem (by rw [aE.len];have:=eqR cq;cases z:((List.range (rows.length - 1)).filter fun k=>av s (dD rows k).2.1) with | nil=>rw [z] at this;cases this | cons _ _=>simp)⟩
     obtain⟨d0,hd0,rv0⟩:=aE.at hy0
     have ed:d0=fx rows (fc rows s - 1):=by
      rw [List.getElem?_map,← List.head?_eq_getElem?,eqR cq] at hd0
      exact (Option.some.inj hd0).symm
     subst ed
     have ly0:0 < yr.length:=(List.getElem?_eq_some_iff.mp hy0).1
     refine⟨_,rfl,D2,_,rfl,.inl (aW.of (hE)),_,_,rfl,rfl,_,rfl,dy (by omega) ?_⟩
     refine⟨_,rfl,D2,_,_,_,rfl,rfl,aW.of (hE),bM (j:=0) hy0,cY,fun pf hpf=>?_⟩
     have ef:=aj hpf (.tup [xl,y0])
     refine k (.ref pf) _ ((smE).trans ef) ⟨pf,_,_,rfl,bh.of ah,(rz).mono (au.same ef),?_⟩
     rw [show (bL (.tab rows) s).2=some (fx rows (fc rows s - 1)) by show cZ rows s=_;unfold cZ;rw [if_pos cq]]
     exact rv0.mono (au.same ef)
    ·have yn:yr=[]:=by
      have:=aE.len
      rw [eqN cq] at this
      exact List.length_eq_zero_iff.mp this
     refine⟨_,rfl,D2,_,rfl,.inl (aW.of (hE)),_,_,rfl,rfl,_,rfl,bY (by rw [yn];show ¬ ((0:Nat):Int) > 0;decide) ?_⟩
     refine⟨cY,fun pf hpf=>?_⟩
     have ef:=aj hpf (.tup [xl,.non])
     refine k (.ref pf) _ ((smE).trans ef) ⟨pf,_,_,rfl,bh.of ah,(rz).mono (au.same ef),?_⟩
     rw [show (bL (.tab rows) s).2=none by show cZ rows s=_;unfold cZ;rw [if_neg cq]]
     rfl
theorem Ax (T:fC K mg t):bO P w K mg base eF 4 t.a_Q16 t.d_Q16 ["_law_tape_here", "_law_rule_here", "_law_speed"] (kI K):=by
 refine T.F_Q16.ok jo (fun vs H Q E h=>?_) (fun cdv A outer s H vs Q E hr h=>?_)
 ·obtain⟨_,_,_,_,_,_,rfl,_⟩:=h;rfl
 obtain⟨t₁,s₁,v,w,rl,z,rfl,tp,hv,ok,sm,rk,hw,hs,h6,hb,k⟩:=h
 refine eg.ok (ag (jq (bP (Ca T) hr T.m_Q9 T.F_Q9.kp T.b_Q9 (ac (qv 1) (ac (qv 2) af ad) ad)) (iD rfl (cD (aN (i:=3) jo.nd rfl (by first | exact Or.inl rfl | exact Or.inr rfl)) (cD (aN (i:=4) jo.nd rfl (by first | exact Or.inl rfl | exact Or.inr rfl)) gw))))
   (ag (bK (aS jt (qv 4) fW (aQ _)) (aq (aJ (aI (ac (qv 2) (ac (bP (de T) hr T.m_Q26 T.F_Q26.kp T.b_Q26 (ac (qv 3) (ac (aI (ac (bP (bW T) hr T.m_Q21 T.F_Q21.kp T.b_Q21 (ac (qv 0) (ac ae af ao) ad)) (ac ae af ao) az)) af aG) ad)) af az) ad)))) aP)
   (ag (cy 5 jo.nd (bf bE (cu (ac (aI (ac ae (ac ae af ao) ao)) (ac (aI (ac ae (ac ae af ao) ao)) (ac (aI (ac ae (ac ae af ao) ao)) (ac (aI (ac ae (ac ae af ao) ao)) af aG) aG) aG) aG)) (bP (bW T) hr T.m_Q21 T.F_Q21.kp T.b_Q21 (ac (qv 0) (ac ae af ao) ad))))
   (ag (cy 6 jo.nd (bP (de T) hr T.m_Q26 T.F_Q26.kp T.b_Q26 (ac (qv 4) (ac (aI (ac (dS cP (bf ap (qv 3) ae)) (ac (bf ap (qv 3) ae) af aw) eB)) af aG) ad)))
   (aq (aJ (aI (ac (qv 2) (ac (bP (de T) hr T.m_Q26 T.F_Q26.kp T.b_Q26 (ac (qv 3) (ac (bP (fK T) hr T.m_Q27 T.F_Q27.kp T.b_Q27 (ac (qv 6) (ac (qv 5) af ad) ad)) af az) ad)) af az) ad)))))))) ?_
 extract_lets +lift
 try dsimp -zeta -zetaDelta only [Cx.nox,Cx.wish,bX]
 obtain⟨bl,br⟩:=se ok rk h6 hs hb
 have wl:Wf 42 (bL rl z).1:=bl.wf (by decide) (by decide) (by decide)
 have wr:∀ x,(bL rl z).2=some x->Wf 42 x:=fun x e=>(br x e).1.wf (by decide) (by decide) (by decide)
 refine⟨_,rfl,_,rfl,v,w,rl,z,rfl,hv,ok,hw,hs,hb,fun v' H1 s1 sid=>?_⟩
 obtain⟨ps,x1,x2,rfl,hps,rvl,rvr⟩:=sid
 generalize (bL rl z).1=gl at wl rvl bl br k
 generalize (bL rl z).2=gr at wr rvr br k
 have rvw:=hw.mono (au.same s1)
 have tp0:=tp.lst
 have T1:=tp.same s1
 have S1:bo t₁ H H1:=bo.same s1 tp.lst
 refine⟨ps,_,rfl,hps,rfl,_,_,rfl,_,_,rfl,rfl,?_⟩
 cases gr with
 | none=>
  have e2:x2=.non:=rvr
  subst e2
  refine⟨_,rfl,rfl,_,rfl,dy rfl ?_⟩
  refine⟨_,rfl,_,rfl,_,rfl,t₁,s₁,4,rfl,T1,by decide,by decide,fun r za a1 b1 T2=>?_⟩
  have S2:=bo.up (ys:=za) T1.lst.choose_spec
  have t2:=au.step (K:=K) S2
  generalize ax H1 t₁ (.lst za)=H2 at T2 S2 t2 ⊢
  refine⟨cY,fun p3 g3=>?_⟩
  have s3:=aj g3 (.tup [.int r,.int 1])
  have r3:RV K (ax H2 p3 (.tup [.int r,.int 1])) (.ref p3) (r,1):=RV.of ah
  have w3:Wf 4 ((r,1):R):=⟨by show (0:Int) < 1;decide,by show r.natAbs < 16;omega,by show (1:Int).natAbs < 16;decide,by show Int.gcd r 1=1;simp⟩
  generalize ax H2 p3 (.tup [.int r,.int 1])=H3 at s3 r3 ⊢
  have t3:=t2.trans (au.same (K:=K) s3)
  refine⟨x1,.ref p3,gl,(r,1),42,4,rfl,rvl.mono t3,r3,wl,w3,by decide,fun p4 g4=>?_⟩
  have w4:=iZ wl w3
  have b3:Bq 46656000 4 ((r,1):R):=⟨w3.pos,w3.cop,by show (1:Int)∣_;exact⟨46656000,by decide⟩,by show r.natAbs≤4 * 1;omega⟩
  have bgg:Bq DG 2592 (aH gl (r,1)):=(Bq.plus (by decide) bl b3).mono (by decide) (by decide)
  have brg:gj gl none (aH gl (r,1))=true:=by
   unfold gj
   rw [(cc bgg.pos bl.pos).mpr (by rw [bA bl.pos b3.pos];have:=(jd b3.pos).mpr a1;grind)]
   rfl
  generalize aH gl (r,1)=gg at w4 bgg brg ⊢
  have s4:=aj g4 (.tup [.int gg.1,.int gg.2])
  have r4:RV K (ax H3 p4 (.tup [.int gg.1,.int gg.2])) (.ref p4) gg:=RV.of ah
  generalize ax H3 p4 (.tup [.int gg.1,.int gg.2])=H4 at s4 r4 ⊢
  refine⟨cY,fun p5 g5=>?_⟩
  have s5:=aj g5 (.tup [w,.ref p4])
  have s35:=(s3.trans s4).trans s5
  exact k (.ref p5) gg _ ((S1.trans S2).trans (.same s35 T2.lst)) (T2.same s35) ⟨p5,_,_,rfl,bh.of ah,(rvw.mono t2).mono (au.same s35),r4.mono (au.same s5)⟩ brg bgg
 | some gr=>
  have rvr':RV K H1 x2 gr:=rvr
  have wr':=wr gr rfl
  obtain⟨px2,rfl,hx2⟩:=id rvr'
  refine⟨_,rfl,rfl,_,rfl,bY (by intro e;cases e) ?_⟩
  have hd_:∃ ys,H1 t₁=some (.lst ys):=T1.lst
  have rvr2:=rvr'
  clear rvr rvr'
  refine⟨cY,fun pw1 gw1=>?_⟩
  generalize hG:ax H1 pw1 (.tup [.int 0,.int 1])=Hw1
  obtain⟨ew1,hw1,dw1⟩:=eE hG gw1 T1.lst hd_
  obtain⟨S1,T1,hd_⟩:=d9 ew1 S1 T1 hd_
  replace rvl:=rvl.mono (au.same ew1)
  replace rvr2:=rvr2.mono (au.same ew1)
  replace rvw:=rvw.mono (au.same ew1)
  have rq0:RV K Hw1 (.ref pw1) (0,1):=RV.of hw1
  clear ew1 hw1 dw1 hG
  refine⟨cY,fun pw2 gw2=>?_⟩
  generalize hG:ax Hw1 pw2 (.tup [.int 1,.int 1])=Hw2
  obtain⟨ew2,hw2,dw2⟩:=eE hG gw2 T1.lst hd_
  obtain⟨S1,T1,hd_⟩:=d9 ew2 S1 T1 hd_
  replace rvl:=rvl.mono (au.same ew2)
  replace rvr2:=rvr2.mono (au.same ew2)
  replace rvw:=rvw.mono (au.same ew2)
  replace rq0:=rq0.mono (au.same ew2)
  have rq1:RV K Hw2 (.ref pw2) (1,1):=RV.of hw2
  clear ew2 hw2 dw2 hG
  refine⟨cY,fun pw3 gw3=>?_⟩
  generalize hG:ax Hw2 pw3 (.tup [.int 1,.int 2])=Hw3
  obtain⟨ew3,hw3,dw3⟩:=eE hG gw3 T1.lst hd_
  obtain⟨S1,T1,hd_⟩:=d9 ew3 S1 T1 hd_
  replace rvl:=rvl.mono (au.same ew3)
  replace rvr2:=rvr2.mono (au.same ew3)
  replace rvw:=rvw.mono (au.same ew3)
  replace rq0:=rq0.mono (au.same ew3)
  replace rq1:=rq1.mono (au.same ew3)
  have rq2:RV K Hw3 (.ref pw3) (1,2):=RV.of hw3
  clear ew3 hw3 dw3 hG
  refine⟨cY,fun pw4 gw4=>?_⟩
  generalize hG:ax Hw3 pw4 (.tup [.int 1,.int 3])=Hw4
  obtain⟨ew4,hw4,dw4⟩:=eE hG gw4 T1.lst hd_
  obtain⟨S1,T1,hd_⟩:=d9 ew4 S1 T1 hd_
  replace rvl:=rvl.mono (au.same ew4)
  replace rvr2:=rvr2.mono (au.same ew4)
  replace rvw:=rvw.mono (au.same ew4)
  replace rq0:=rq0.mono (au.same ew4)
  replace rq1:=rq1.mono (au.same ew4)
  replace rq2:=rq2.mono (au.same ew4)
  have rq3:RV K Hw4 (.ref pw4) (1,3):=RV.of hw4
  clear ew4 hw4 dw4 hG
  refine⟨Dl,fun pw5 gw5=>?_⟩
  generalize hG:ax Hw4 pw5 (.lst [V.ref pw1,V.ref pw2,V.ref pw3,V.ref pw4])=Hw5
  obtain⟨ew5,hw5,dw5⟩:=eE hG gw5 T1.lst hd_
  have nw5:=j6 gw5 T1.lst
  obtain⟨S1,T1,hd_⟩:=d9 ew5 S1 T1 hd_
  replace rvl:=rvl.mono (au.same ew5)
  replace rvr2:=rvr2.mono (au.same ew5)
  replace rvw:=rvw.mono (au.same ew5)
  replace rq0:=rq0.mono (au.same ew5)
  replace rq1:=rq1.mono (au.same ew5)
  replace rq2:=rq2.mono (au.same ew5)
  replace rq3:=rq3.mono (au.same ew5)
  have lsq:=hw5
  clear ew5 hw5 dw5 hG
  refine⟨_,rfl,t₁,s₁,4,rfl,T1,by decide,by decide,fun rw6 zw6 aw6 bw6 Tw6=>?_⟩
  have Sw6:=bo.up (ys:=zw6) T1.lst.choose_spec
  replace S1:=S1.trans Sw6
  replace hd_:=Sw6.tp'
  replace rvl:=rvl.mono (au.step (K:=K) Sw6)
  replace rvr2:=rvr2.mono (au.step (K:=K) Sw6)
  replace rvw:=rvw.mono (au.step (K:=K) Sw6)
  replace rq0:=rq0.mono (au.step (K:=K) Sw6)
  replace rq1:=rq1.mono (au.step (K:=K) Sw6)
  replace rq2:=rq2.mono (au.step (K:=K) Sw6)
  replace rq3:=rq3.mono (au.step (K:=K) Sw6)
  replace lsq:=Sw6.keep _ _ nw5 lsq
  replace T1:=Tw6
  clear Tw6 Sw6
  generalize ax Hw5 t₁ (.lst zw6)=Hw6 at S1 T1 hd_ rvl rvr2 rvw rq0 rq1 rq2 rq3 lsq ⊢
  obtain⟨vq,rq,hatq,rvq,wq,bq6,q0,q1⟩:∃ (vq:V) (rq:R),jS ([V.ref pw1,V.ref pw2,V.ref pw3,V.ref pw4]:List V) rw6=some vq/\RV K Hw6 vq rq/\Wf 3 rq/\Bq 6 1 rq/\0≤val rq/\val rq≤1:=by
   rcases (show rw6=0∨rw6=1∨rw6=2∨rw6=3 by omega) with rfl | rfl | rfl | rfl
   ·exact⟨_,_,rfl,rq0,⟨by decide,by decide,by decide,by decide⟩,⟨by decide,by decide,⟨6,by decide⟩,by decide⟩,by decide +kernel,by decide +kernel⟩
   ·exact⟨_,_,rfl,rq1,⟨by decide,by decide,by decide,by decide⟩,⟨by decide,by decide,⟨6,by decide⟩,by decide⟩,by decide +kernel,by decide +kernel⟩
   ·exact⟨_,_,rfl,rq2,⟨by decide,by decide,by decide,by decide⟩,⟨by decide,by decide,⟨3,by decide⟩,by decide⟩,by decide +kernel,by decide +kernel⟩
   ·exact⟨_,_,rfl,rq3,⟨by decide,by decide,by decide,by decide⟩,⟨by decide,by decide,⟨2,by decide⟩,by decide⟩,by decide +kernel,by decide +kernel⟩
  refine⟨pw5,_,_,_,rfl,rfl,aW.of lsq,hatq,?_⟩
  obtain⟨px1,rfl,hx1⟩:=id rvl
  refine⟨_,rfl,_,rfl,px1,_,_,_,rfl,rfl,hx1,rfl,_,rfl,_,rfl,px1,_,_,_,rfl,rfl,hx1,rfl,cY,fun pw7 gw7=>?_⟩
  generalize hG:ax Hw6 pw7 (.tup [.int (-gl.1),.int gl.2])=Hw7
  obtain⟨ew7,hw7,dw7⟩:=eE hG gw7 T1.lst hd_
  obtain⟨S1,T1,hd_⟩:=d9 ew7 S1 T1 hd_
  replace rvl:=rvl.mono (au.same ew7)
  replace rvr2:=rvr2.mono (au.same ew7)
  replace rvw:=rvw.mono (au.same ew7)
  replace rvq:=rvq.mono (au.same ew7)
  have rvn:RV K Hw7 (.ref pw7) (-gl.1,gl.2):=RV.of hw7
  clear ew7 hw7 dw7 hG
  have wn:Wf 42 ((-gl.1,gl.2):R):=⟨wl.pos,by show (-gl.1).natAbs < _;rw [Int.natAbs_neg];exact wl.top,wl.bot,by show Int.gcd (-gl.1) gl.2=1;rw [Int.neg_gcd];exact wl.cop⟩
  refine⟨_,.ref pw7,gr,(-gl.1,gl.2),42,42,rfl,rvr2,rvn,wr',wn,by decide,fun pw8 gw8=>?_⟩
  generalize hG:ax Hw7 pw8 (.tup [.int (aH gr (-gl.1,gl.2)).1,.int (aH gr (-gl.1,gl.2)).2])=Hw8
  obtain⟨ew8,hw8,dw8⟩:=eE hG gw8 T1.lst hd_
  obtain⟨S1,T1,hd_⟩:=d9 ew8 S1 T1 hd_
  replace rvl:=rvl.mono (au.same ew8)
  replace rvr2:=rvr2.mono (au.same ew8)
  replace rvw:=rvw.mono (au.same ew8)
  replace rvq:=rvq.mono (au.same ew8)
  replace rvn:=rvn.mono (au.same ew8)
  have rvd:RV K Hw8 (.ref pw8) (aH gr (-gl.1,gl.2)):=RV.of hw8
  clear ew8 hw8 dw8 hG
  have wd:=iZ wr' wn
  have bdd:Bq 46656000 1728 (aH gr (-gl.1,gl.2)):=Bq.plus (by decide) (br gr rfl).1 bl.neg
  have vdd:val (aH gr (-gl.1,gl.2))=val gr - val gl:=by rw [bA (br gr rfl).1.pos bl.neg.pos,jc];grind
  generalize aH gr (-gl.1,gl.2)=dd at rvd wd bdd vdd
  refine⟨_,rfl,_,rfl,_,rfl,_,rfl,.ref pw8,vq,dd,rq,85,3,rfl,rvd,rvq,wd,wq,by decide,fun pw9 gw9=>?_⟩
  generalize hG:ax Hw8 pw9 (.tup [.int (ar dd rq).1,.int (ar dd rq).2])=Hw9
  obtain⟨ew9,hw9,dw9⟩:=eE hG gw9 T1.lst hd_
  obtain⟨S1,T1,hd_⟩:=d9 ew9 S1 T1 hd_
  replace rvl:=rvl.mono (au.same ew9)
  replace rvr2:=rvr2.mono (au.same ew9)
  replace rvw:=rvw.mono (au.same ew9)
  replace rvq:=rvq.mono (au.same ew9)
  replace rvn:=rvn.mono (au.same ew9)
  replace rvd:=rvd.mono (au.same ew9)
  have rvm_:RV K Hw9 (.ref pw9) (ar dd rq):=RV.of hw9
  clear ew9 hw9 dw9 hG
  have wm_:=dP wd wq
  have bmm:Bq DG 1728 (ar dd rq):=(Bq.times bdd bq6).mono (by decide) (by decide)
  have vmm:=bw bdd.pos bq6.pos
  generalize ar dd rq=mm at rvm_ wm_ bmm vmm
  refine⟨_,.ref pw9,gl,mm,42,88,rfl,rvl,rvm_,wl,wm_,by decide,fun pw10 gw10=>?_⟩
  generalize hG:ax Hw9 pw10 (.tup [.int (aH gl mm).1,.int (aH gl mm).2])=Hw10
  obtain⟨ew10,hw10,dw10⟩:=eE hG gw10 T1.lst hd_
  obtain⟨S1,T1,hd_⟩:=d9 ew10 S1 T1 hd_
  replace rvl:=rvl.mono (au.same ew10)
  replace rvr2:=rvr2.mono (au.same ew10)
  replace rvw:=rvw.mono (au.same ew10)
  replace rvq:=rvq.mono (au.same ew10)
  replace rvn:=rvn.mono (au.same ew10)
  replace rvd:=rvd.mono (au.same ew10)
  replace rvm_:=rvm_.mono (au.same ew10)
  have rvg:RV K Hw10 (.ref pw10) (aH gl mm):=RV.of hw10
  clear ew10 hw10 dw10 hG
  have wg:=iZ wl wm_
  have bgg:Bq DG 2592 (aH gl mm):=Bq.plus (by decide) (bl.mono (by decide) (Nat.le_refl _)) bmm
  have vgg:=bA bl.pos bmm.pos
  generalize aH gl mm=gg at rvg wg bgg vgg
  have brg:gj gl (some gr) gg=true:=by
   have le:=(br gr rfl).2
   have n0:=Rat.mul_nonneg (show 0≤val gr - val gl by grind) q0
   have n1:=Rat.mul_nonneg (show 0≤val gr - val gl by grind) (show 0≤1 - val rq by grind)
   unfold gj
   rw [(cc bgg.pos bl.pos).mpr (by rw [vgg,vmm,vdd];grind)]
   show (true && !av gr gg)=true
   rw [(cc (br gr rfl).1.pos bgg.pos).mpr (by rw [vgg,vmm,vdd];grind)]
   rfl
  refine⟨cY,fun pf hpf=>?_⟩
  have sf:=aj hpf (.tup [w,.ref pw10])
  exact k (.ref pf) gg _ (S1.trans (.same sf T1.lst)) (T1.same sf) ⟨pf,_,_,rfl,bh.of ah,rvw.mono (au.same sf),rvg.mono (au.same sf)⟩ brg bgg
theorem Ch (T:fC K mg t):bO P w K mg base eF 2 t.a_Q2 t.d_Q2 ["_law_tape_here", "_law_rule_here", "_law_kinks"] (gZ K):=by
 refine T.F_Q2.ok oM (fun vs H Q E h=>?_) (fun cdv A outer s H vs Q E hr h=>?_)
 ·obtain⟨_,_,_,_,_,_,_,rfl,_⟩:=h;rfl
 obtain⟨t₁,s₁,kl,xk,v,ks,rl,rfl,tp,hv,ok,sm,nD,hkl,alk,hks,k4,k⟩:=h
 refine eg.ok (ag (cy 3 oM.nd (aK ju (cu (ac (aI (ac ae (ac ae af ao) ao)) (ac (aI (ac ae (ac ae af ao) ao)) (ac (aI (ac ae (ac ae af ao) ao)) (ac (aI (ac ae (ac ae af ao) ao)) (ac (aI (ac ae (ac ae af ao) ao)) af aG) aG) aG) aG) aG)) (fA ik (by rfl) T.z_list boot_list (ac (qv 2) af ad))))
   (ag (bK (aS dW (cE ap (qv 1) ae (fun _ _=>rfl)) jr (aQ _)) (ag (cy 3 oM.nd (aK ju (qv 3) (dU (N':=["_law_row"]) (src:=[none]) rfl (by exact (k8 (cE ap (qv 1) ae (fun _ _=>rfl)))) (fun _ _ _ _ _=>(by exact (by exact aN (i:=0) (by show List.Nodup (["_law_row"]:List Str);decide +kernel) (by exact rfl) (by first | exact Or.inl rfl | exact Or.inr rfl)))) (fun _ _ _ _ _=>gs) (fun _ _ _ _ _=>(by exact (by exact (cE (bH (K:=K) (by exact rfl)) (by exact (qv 0)) ae (by exact fun _ _=>rfl))))) (by exact trivial) rfl (by decide +kernel) rfl (by decide +kernel) (by exact cr rfl trivial))))
   (aq (gt (i:=3) (N':=["_law_speed", "_law_rule_here"]) (src:=[none,some 1]) oM.nd rfl (by first | exact Or.inl rfl | exact Or.inr rfl) rfl (by exact (cN (qv 3))) (fun _ _ _ _ _=>(by exact (by exact aN (i:=0) (by show List.Nodup (["_law_speed", "_law_rule_here"]:List Str);decide +kernel) (by exact rfl) (by first | exact Or.inl rfl | exact Or.inr rfl)))) (fun _ _ _ _ _=>(e9 (nL (cC (by exact (cJ (fY T) (by exact hr.mono (by decide)) (by exact rfl) T.m_Q23 T.F_Q23.kp T.b_Q23 (by exact .nil) (by exact eN) (ac (by exact (cE (bH (K:=K) (by exact rfl)) (by exact (cE (bH (K:=K) (by exact rfl)) (by exact (cE (bH (K:=K) (by exact rfl)) (by exact (qv 1)) ae (by exact fun _ _=>rfl))) (by exact (dS cP ae)) (by exact fun _ _=>rfl))) ae (by exact fun _ _=>rfl))) (ac (by exact (qv 0)) af ad) aw))))))) (fun _ _ _ _ _=>(by exact (by exact (qv 0)))) (by exact⟨rfl,rfl,rfl,rfl,trivial⟩) rfl (by decide +kernel) rfl (by decide +kernel) (by exact cr rfl ⟨rfl,trivial⟩)))) aP)
   (aq (aJ (bf bE (qv 3) (bP (bW T) hr T.m_Q21 T.F_Q21.kp T.b_Q21 (ac (qv 0) (ac (aF aR (by rfl) T.z_len boot_len (ac (qv 3) af ad)) af az) ad))))))) ?_
 extract_lets +lift
 try dsimp -zeta -zetaDelta only [Cx.nox,Cx.wish,bX]
 have hd_:∃ ys,H kl=some (.lst ys):=⟨_,hkl⟩
 have S0:bo t₁ H H:=⟨fun _ _ _ q=>q,tp.lst,tp.lst⟩
 refine⟨cY,fun py1 gy1=>?_⟩
 generalize hG:ax H py1 (.tup [.int 0,.int 1])=Hy1
 obtain⟨ey1,hy1,dy1⟩:=eE hG gy1 tp.lst hd_
 obtain⟨S0,tp,hd_⟩:=d9 ey1 S0 tp hd_
 replace hkl:=ey1 _ _ hkl
 replace alk:=aM ey1 alk
 replace hv:=hv.mono (au.same ey1)
 have rf0:RV K Hy1 (.ref py1) (0,1):=RV.of hy1
 clear ey1 hy1 dy1 hG
 refine⟨cY,fun py2 gy2=>?_⟩
 generalize hG:ax Hy1 py2 (.tup [.int 1,.int 2])=Hy2
 obtain⟨ey2,hy2,dy2⟩:=eE hG gy2 tp.lst hd_
 obtain⟨S0,tp,hd_⟩:=d9 ey2 S0 tp hd_
 replace hkl:=ey2 _ _ hkl
 replace alk:=aM ey2 alk
 replace hv:=hv.mono (au.same ey2)
 replace rf0:=rf0.mono (au.same ey2)
 have rf1:RV K Hy2 (.ref py2) (1,2):=RV.of hy2
 clear ey2 hy2 dy2 hG
 refine⟨cY,fun py3 gy3=>?_⟩
 generalize hG:ax Hy2 py3 (.tup [.int 1,.int 1])=Hy3
 obtain⟨ey3,hy3,dy3⟩:=eE hG gy3 tp.lst hd_
 obtain⟨S0,tp,hd_⟩:=d9 ey3 S0 tp hd_
 replace hkl:=ey3 _ _ hkl
 replace alk:=aM ey3 alk
 replace hv:=hv.mono (au.same ey3)
 replace rf0:=rf0.mono (au.same ey3)
 replace rf1:=rf1.mono (au.same ey3)
 have rf2:RV K Hy3 (.ref py3) (1,1):=RV.of hy3
 clear ey3 hy3 dy3 hG
 refine⟨cY,fun py4 gy4=>?_⟩
 generalize hG:ax Hy3 py4 (.tup [.int 3,.int 1])=Hy4
 obtain⟨ey4,hy4,dy4⟩:=eE hG gy4 tp.lst hd_
 obtain⟨S0,tp,hd_⟩:=d9 ey4 S0 tp hd_
 replace hkl:=ey4 _ _ hkl
 replace alk:=aM ey4 alk
 replace hv:=hv.mono (au.same ey4)
 replace rf0:=rf0.mono (au.same ey4)
 replace rf1:=rf1.mono (au.same ey4)
 replace rf2:=rf2.mono (au.same ey4)
 have rf3:RV K Hy4 (.ref py4) (3,1):=RV.of hy4
 clear ey4 hy4 dy4 hG
 refine⟨cY,fun py5 gy5=>?_⟩
 generalize hG:ax Hy4 py5 (.tup [.int 7,.int 3])=Hy5
 obtain⟨ey5,hy5,dy5⟩:=eE hG gy5 tp.lst hd_
 obtain⟨S0,tp,hd_⟩:=d9 ey5 S0 tp hd_
 replace hkl:=ey5 _ _ hkl
 replace alk:=aM ey5 alk
 replace hv:=hv.mono (au.same ey5)
 replace rf0:=rf0.mono (au.same ey5)
 replace rf1:=rf1.mono (au.same ey5)
 replace rf2:=rf2.mono (au.same ey5)
 replace rf3:=rf3.mono (au.same ey5)
 have rf4:RV K Hy5 (.ref py5) (7,3):=RV.of hy5
 clear ey5 hy5 dy5 hG
 refine⟨Eu,fun py6 gy6=>?_⟩
 generalize hG:ax Hy5 py6 (.lst [V.ref py1,V.ref py2,V.ref py3,V.ref py4,V.ref py5])=Hy6
 obtain⟨ey6,hy6,dy6⟩:=eE hG gy6 tp.lst hd_
 have ny6:=j6 gy6 tp.lst
 obtain⟨S0,tp,hd_⟩:=d9 ey6 S0 tp hd_
 replace hkl:=ey6 _ _ hkl
 replace alk:=aM ey6 alk
 replace hv:=hv.mono (au.same ey6)
 replace rf0:=rf0.mono (au.same ey6)
 replace rf1:=rf1.mono (au.same ey6)
 replace rf2:=rf2.mono (au.same ey6)
 replace rf3:=rf3.mono (au.same ey6)
 replace rf4:=rf4.mono (au.same ey6)
 have ls1:=hy6
 have al1:bU (RV K Hy6) ([V.ref py1,V.ref py2,V.ref py3,V.ref py4,V.ref py5]:List V) [(0,1),(1,2),(1,1),(3,1),(7,3)]:=(.cons rf0 (.cons rf1 (.cons rf2 (.cons rf3 (.cons rf4 .nil)))))
 clear ey6 hy6 dy6 hG
 refine⟨_,rfl,kl,_,rfl,.inl (aW.of hkl),fun py7 gy7=>?_⟩
 generalize hG:ax Hy6 py7 (.lst xk)=Hy7
 obtain⟨ey7,hy7,dy7⟩:=eE hG gy7 tp.lst hd_
 have ny7:=j6 gy7 tp.lst
 obtain⟨S0,tp,hd_⟩:=d9 ey7 S0 tp hd_
 replace hkl:=ey7 _ _ hkl
 replace alk:=aM ey7 alk
 replace hv:=hv.mono (au.same ey7)
 replace ls1:=ey7 _ _ ls1
 replace al1:=aM ey7 al1
 have ls3:=hy7
 clear ey7 hy7 dy7 hG
 refine⟨py6,py7,_,_,rfl,rfl,ls1,ls3,Nat.le_trans (show _≤1000 by have:=alk.len;first | omega | (simp <;> omega)) jb,fun py8 gy8=>?_⟩
 generalize hG:ax Hy7 py8 (.lst (([V.ref py1,V.ref py2,V.ref py3,V.ref py4,V.ref py5]:List V)++xk))=Hy8
 obtain⟨ey8,hy8,dy8⟩:=eE hG gy8 tp.lst hd_
 have ny8:=j6 gy8 tp.lst
 obtain⟨S0,tp,hd_⟩:=d9 ey8 S0 tp hd_
 replace hkl:=ey8 _ _ hkl
 replace alk:=aM ey8 alk
 replace hv:=hv.mono (au.same ey8)
 replace ls1:=ey8 _ _ ls1
 replace al1:=aM ey8 al1
 replace ls3:=ey8 _ _ ls3
 have ls5:=hy8
 have al5:bU (RV K Hy8) (([V.ref py1,V.ref py2,V.ref py3,V.ref py4,V.ref py5]:List V)++xk) (([(0,1),(1,2),(1,1),(3,1),(7,3)]:List R)++ks):=bU.join al1 alk
 clear ey8 hy8 dy8 hG
 have kb5:∀ r∈(([(0,1),(1,2),(1,1),(3,1),(7,3)]:List R)++ks),ow r:=fun r hr=>by
  rcases List.mem_append.mp hr with h | h
  ·simp only [List.mem_cons,List.not_mem_nil,or_false] at h
   rcases h with rfl | rfl | rfl | rfl | rfl
   ·exact e8 (by decide) ⟨360,by decide⟩ (by decide) (by decide) (by decide)
   ·exact e8 (by decide) ⟨180,by decide⟩ (by decide) (by decide) (by decide)
   ·exact e8 (by decide) ⟨360,by decide⟩ (by decide) (by decide) (by decide)
   ·exact e8 (by decide) ⟨360,by decide⟩ (by decide) (by decide) (by decide)
   ·exact e8 (by decide) ⟨120,by decide⟩ (by decide) (by decide) (by decide)
  ·exact hks r h
 have ln5:(([(0,1),(1,2),(1,1),(3,1),(7,3)]:List R)++ks).length≤9:=by simp <;> omega
 have m05:((0,1):R)∈(([(0,1),(1,2),(1,1),(3,1),(7,3)]:List R)++ks):=List.mem_append_left _ List.mem_cons_self
 generalize (([(0,1),(1,2),(1,1),(3,1),(7,3)]:List R)++ks)=rs5 at al5 kb5 ln5 m05
 have xl5:=al5.len
 generalize (([V.ref py1,V.ref py2,V.ref py3,V.ref py4,V.ref py5]:List V)++xk)=xs5 at ls5 al5 xl5 ⊢
 cases rl with
 | pow kk=>
  obtain⟨p,rfl,hS⟩:=hv
  refine⟨_,rfl,p,_,_,_,rfl,rfl,hS,rfl,rfl,_,rfl,bY (by decide) ?_⟩
  obtain⟨yf,ef⟩:=tp.lst
  have lpos:0 < xs5.length:=by rw [al5.len];exact List.length_pos_of_mem m05
  refine⟨_,rfl,_,rfl,_,rfl,py8,_,rfl,.inl (aW.of ls5),t₁,s₁,_,rfl,tp,by omega,by omega,fun rr zz aa bb TF=>?_⟩
  have SF:=bo.up (ys:=zz) ef
  have lsF:=SF.keep _ _ ny8 ls5
  have alF:=al5.mono fun _ _ q=>q.mono (au.step (K:=K) SF)
  generalize ax Hy8 t₁ (.lst zz)=HF at TF SF lsF alF ⊢
  obtain⟨u,z,hat,mz,rvz⟩:=m5 alF aa bb
  refine⟨py8,_,_,_,rfl,rfl,aW.of lsF,hat,?_⟩
  exact k u z HF (S0.trans SF) TF rvz (kb5 z mz) trivial
 | tab rows=>
  have ok':aX rows:=ok
  obtain⟨p,q,xr,rfl,hS,hq,alr⟩:=hv
  have n2:=ok'.n2
  have n12:=ok'.n12
  have lxr:=alr.len
  refine⟨_,rfl,p,_,_,_,rfl,rfl,hS,rfl,rfl,_,rfl,dy (by decide) ?_⟩
  refine⟨_,rfl,_,rfl,p,_,_,_,rfl,rfl,hS,rfl,q,rfl,⟨_,hq⟩,fun D hD=>ii (J:=vI K q) (n:=rows.length) (fun i ys H'=>aO Hy8 H'/\H' D=some (.lst ys)/\ys.length=i/\bU (RV K H') ys ((rows.take i).map (·.1))) ⟨aj hD _,ah,rfl,by rw [List.take_zero];exact .nil⟩ (fun i ys H' hi ⟨s',_⟩=>⟨xr,_,au.same (K:=K) s' _ _ hq,List.getElem?_eq_getElem (by omega)⟩) (fun yl HC ⟨sC,hC,lC,aC⟩=>⟨⟨xr,au.same (K:=K) sC _ _ hq,by omega⟩,?_⟩) ?_⟩
  rotate_left
  ·rintro i ys H1 x H2 hi ⟨s',h',l',a'⟩ ⟨rfl,hx⟩ R E kR kE
   have hx':=hx xr (au.same (K:=K) s' _ _ hq)
   obtain⟨rw0,hr0,pr,y1,y2,rfl,hSr,v1,v2⟩:=alr.at hx'
   have ts:=au.same (K:=K) s'
   refine⟨iK.set rfl,?_⟩
   refine⟨_,rfl,pr,_,_,_,rfl,rfl,ts _ _ hSr,rfl,?_⟩
   have tu:=au.up (K:=K) h' (ys++[y1])
   refine kR y1 _ h' (aZ (by omega)) ⟨fun b o q_=>?_,ah,by rw [List.length_append,l'];rfl,?_⟩
   ·rw [aD (aB q_ hD)]
    exact s' _ _ q_
   ·rw [List.take_add_one,hr0,List.map_append]
    exact (a'.mono fun _ _ q=>q.mono tu).snoc ((v1.mono ts).mono tu)
  rw [List.take_of_length_le (Nat.le_refl _)] at aC
  have ls6:=sC _ _ ls5
  have al6:=al5.mono fun _ _ q=>q.mono (au.same sC)
  refine⟨py8,D,_,_,rfl,rfl,ls6,hC,Nat.le_trans (show _≤1000 by omega) jb,fun l7 h7=>?_⟩
  have s7:=aj h7 (.lst (xs5++yl))
  have ls7:ax HC l7 (.lst (xs5++yl)) l7=some (.lst (xs5++yl)):=ah
  have al7:=(al6.join aC).mono fun _ _ q=>q.mono (au.same s7)
  have sC7:=sC.trans s7
  have T7:=tp.same sC7
  have S7:=S0.trans (.same sC7 tp.lst)
  have t7:=au.same (K:=K) sC7
  generalize ax HC l7 (.lst (xs5++yl))=H7 at ls7 al7 sC7 T7 S7 t7 ⊢
  obtain⟨xl,rlast,hlast,hrl,⟨pr,y1,y2,rfl,hSr,rvt,_⟩,_⟩:=alr.last (n:=rows.length - 1) (by omega)
  have ml:=List.mem_of_getElem? hrl
  have kt:=oN ok' sm ml
  have kb7:∀ r∈rs5++rows.map (·.1),ow r:=fun r hr=>by
   rcases List.mem_append.mp hr with h | h
   ·exact kb5 r h
   ·obtain⟨w,hw,rfl⟩:=List.mem_map.mp h
    exact oN ok' sm hw
  have l7l:(rs5++rows.map (·.1)).length≤30:=by rw [List.length_append,List.length_map];omega
  have xl7:=al7.len
  refine⟨_,rfl,l7,rfl,⟨_,aW.of ls7⟩,fun Dc hDc=>gz (K:=K) (P:=RV K) (p:=fun y=>!av rlast.1 y) (fun _ _ _ _ t p=>p.mono t) hDc (aW.of ls7) al7 (by omega) (fun j x d H3 hx hd s3 pd R E kR kE=>?_) fun H8 ds s8 hD8 al8=>?_⟩
  ·have wd:=(kb7 d (List.mem_of_getElem? hd)).wf
   have t3:=t7.trans (au.same (K:=K) s3)
   refine⟨iK.set rfl,?_⟩
   refine⟨_,rfl,p,_,_,_,rfl,rfl,t3 _ _ hS,rfl,_,rfl,q,_,_,_,rfl,rfl,t3 _ _ hq,hlast,pr,_,_,_,rfl,rfl,t3 _ _ hSr,rfl,_,rfl,y1,x,rlast.1,d,98,98,rfl,rvt.mono t3,pd,kt.wf,wd,by decide,_,rfl,?_⟩
   cases c1:av rlast.1 d with
   | true=>exact eZ (kE _ (aO.refl _) (by show (!av rlast.1 d)=false;rw [c1];rfl))
   | false=>exact gC ⟨_,rfl,kR _ (aO.refl _) (by show (!av rlast.1 d)=true;rw [c1];rfl)⟩
  have nDc:Dc≠t₁:=j6 hDc T7.lst
  have T8:=T7.same s8
  have S8:=S7.trans (.same s8 T7.lst)
  have m08:((0,1):R)∈(rs5++rows.map (·.1)).filter fun y=>!av rlast.1 y:=List.mem_filter.mpr ⟨List.mem_append_left _ m05,by show (!av rlast.1 (0,1))=true;rw [fL.mpr kt.2];rfl⟩
  have kb8:∀ r∈(rs5++rows.map (·.1)).filter fun y=>!av rlast.1 y,ow r:=fun r hr=>kb7 r (List.mem_filter.mp hr).1
  have lds:ds.length≤30:=by rw [al8.len];exact Nat.le_trans (List.length_filter_le _ _) l7l
  have bel:∀ r∈(rs5++rows.map (·.1)).filter fun y=>!av rlast.1 y,cX (.tab rows) r:=fun r hr=>by
   have h2:(!av rlast.1 r)=true:=(List.mem_filter.mp hr).2
   refine⟨rlast,hrl,?_⟩
   cases c:av rlast.1 r with
   | false=>rfl
   | true=>rw [c] at h2;cases h2
  generalize ((rs5++rows.map (·.1)).filter fun y=>!av rlast.1 y)=rs8 at al8 m08 kb8 bel
  obtain⟨yf,ef⟩:=T8.lst
  have lpos:0 < ds.length:=by rw [al8.len];exact List.length_pos_of_mem m08
  refine⟨_,rfl,_,rfl,_,rfl,Dc,_,rfl,.inl (aW.of hD8),t₁,s₁,_,rfl,T8,by omega,by omega,fun rr zz aa bb TF=>?_⟩
  have SF:=bo.up (ys:=zz) ef
  have lsF:=SF.keep _ _ nDc hD8
  have alF:=al8.mono fun _ _ q=>q.mono (au.step (K:=K) SF)
  generalize ax H8 t₁ (.lst zz)=HF at TF SF lsF alF ⊢
  obtain⟨u,z,hat,mz,rvz⟩:=m5 alF aa bb
  refine⟨Dc,_,_,_,rfl,rfl,aW.of lsF,hat,?_⟩
  exact k u z HF (S8.trans SF) TF rvz (kb8 z mz) (bel z mz)
theorem AC (T:fC K mg t):bO P w K mg base eF 5 t.a_Q10 t.d_Q10 ["_law_tape_here", "_law_works_here", "_law_rule_here", "_law_kinks"] (jN K):=by
 refine T.F_Q10.ok y9 (fun vs H Q E h=>?_) (fun cdv A outer s H vs Q E hr h=>?_)
 ·obtain⟨_,_,_,_,_,_,_,_,_,rfl,_⟩:=h;rfl
 obtain⟨t₁,s₁,kl,pw,xk,xw,v,ks,rl,rfl,tp,hW,n9,hv,ok,sm,rk,nD,hkl,alk,hks,k4,k⟩:=h
 refine eg.ok (aq (aJ (fA ft (by rfl) T.z_tuple boot_tuple (ac (dU (N':=["_law_work", "_law_tape_here", "_law_rule_here", "_law_kinks"]) (src:=[none,some 0,some 2,some 3]) rfl (by exact (k8 (qv 1))) (fun _ _ _ _ _=>(by exact (by exact aN (i:=0) (by show List.Nodup (["_law_work", "_law_tape_here", "_law_rule_here", "_law_kinks"]:List Str);decide +kernel) (by exact rfl) (by first | exact Or.inl rfl | exact Or.inr rfl)))) (fun _ _ _ _ _=>gs) (fun _ _ _ _ _=>(by exact (by exact (cJ (Ax T) (by exact hr.mono (by decide)) (by exact rfl) T.m_Q16 T.F_Q16.kp T.b_Q16 (by exact .nil) (by exact eN) (ac (by exact (qv 1)) (ac (by exact (qv 2)) (ac (by exact (cJ (Ch T) (by exact hr.mono (by decide)) (by exact rfl) T.m_Q2 T.F_Q2.kp T.b_Q2 (by exact .nil) (by exact eN) (ac (by exact (qv 1)) (ac (by exact (qv 2)) (ac (by exact (qv 3)) af ad) ad) ad))) af az) ad) ad))))) (by exact⟨rfl,rfl,rfl,rfl,⟨rfl,rfl,rfl,rfl,⟨rfl,rfl,rfl,rfl,trivial⟩⟩⟩) rfl (by decide +kernel) rfl (by decide +kernel) (by exact cr rfl ⟨rfl,⟨rfl,⟨rfl,trivial⟩⟩⟩)) af gk)))) ?_
 extract_lets +lift
 try dsimp -zeta -zetaDelta only [Cx.nox,Cx.wish,bX]
 refine⟨_,rfl,pw,rfl,⟨_,hW⟩,fun D hD=>?_⟩
 have nDt:D≠t₁:=fun z=>by subst z;obtain⟨_,q⟩:=tp.lst;rw [hD] at q;cases q
 have off:=tp.off hD
 refine ii (J:=vI K pw) (n:=xw.length) (fun i ys H'=>ys.length=i/\(∀ b o,b≠t₁->H b=some o->H' b=some o)/\au K H H'/\bG K H' t₁ s₁/\H' D=some (.lst ys)/\∃ prs:List (R×R),bU (fu K H') ys prs/\prs.length=i/\∀ r∈prs,lH rl r) ⟨rfl,fun b o _ q=>aj hD _ _ _ q,au.same (aj hD _),tp.same (aj hD _),ah,[],.nil,rfl,fun r hr=>by cases hr⟩ (fun i ys H' hi ⟨_,_,tt,_⟩=>⟨xw,_,tt _ _ hW,List.getElem?_eq_getElem hi⟩) (fun yl HC ⟨lC,kC,tC,TC,hC,prs,aC,lp,bC⟩=>⟨⟨xw,tC _ _ hW,Nat.le_refl _⟩,?_⟩) ?_
 ·refine⟨D,_,rfl,.inl ⟨aW.of hC,fun pt hpt=>?_⟩⟩
  have st:=aj hpt (.tup yl)
  exact k pt yl prs _ ⟨fun b o nb q=>st _ _ (kC b o nb q),tp.lst,(TC.same st).lst⟩ (TC.same st) (bh.of ah) (aC.mono fun _ _ q=>q.mono (au.same st)) lp bC
 ·rintro i ys H1 x H2 hi ⟨l1,k1,t1,T1,h1,prs,a1,lp,b1⟩ ⟨rfl,hx⟩ R E kR kE
  refine⟨iK.set rfl,?_⟩
  refine⟨_,rfl,_,rfl,_,rfl,_,rfl,_,rfl,t₁,s₁,kl,xk,v,ks,rl,rfl,T1,hv.mono t1,ok,sm,nD,k1 _ _ nD hkl,alk.mono fun _ _ q=>q.mono t1,hks,k4,fun u z H3 S3 T3 rvz kz bz=>?_⟩
  have t3:=au.step (K:=K) S3
  refine⟨t₁,s₁,v,u,rl,z,rfl,T3,(hv.mono t1).mono t3,ok,sm,rk,rvz,kz.ok,kz.1,bz,fun u2 g H4 S4 T4 row brg bgg=>?_⟩
  have S34:=S3.trans S4
  have t34:=au.step (K:=K) S34
  have hD4:=S34.keep _ _ nDt h1
  have tu:=au.up (K:=K) hD4 (ys++[u2])
  refine kR u2 H4 hD4 (aZ (by omega)) ⟨by rw [List.length_append,l1];rfl,fun b o nb q=>?_,(t1.trans t34).trans tu,T4.upl nDt off _,ah,prs++[(z,g)],(a1.mono fun _ _ q=>q.mono (t34.trans tu)).snoc (row.mono tu),by rw [List.length_append,lp];rfl,fun r hr=>?_⟩
  ·rw [aD (aB q hD)]
   exact S34.keep _ _ nb (k1 b o nb q)
  ·rcases List.mem_append.mp hr with h | h
   ·exact b1 r h
   ·rw [List.mem_singleton.mp h];exact⟨kz,bz,brg,bgg⟩
theorem Ci (T:fC K mg t):bO P w K mg base eF 2 t.a_Q1 t.d_Q1 ["_law_some"] (gH K):=by
 refine T.F_Q1.ok ss (fun vs H Q E h=>?_) (fun cdv A outer s H vs Q E hr h=>?_)
 ·obtain⟨_,_,_,rfl,_⟩:=h;rfl
 obtain⟨a,xs,rs,rfl,hS,al0,wf,n60,k⟩:=h
 refine eg.ok (ag (cy 1 ss.nd (cu af))
   (ag (cM PassesOwn.never rfl (cN (qv 0)) (aN (i:=2) ss.nd rfl (by first | exact Or.inl rfl | exact Or.inr rfl))
   (aq (fb (iL PySem.F.plainAttrs_list PySem.F.slot_list_insert PySem.F.type_list_insert j9 (qv 1) (ac (aF aR (by rfl) T.z_len boot_len (ac (dU (N':=["_law_other", "_law_one"]) (src:=[none,some 2]) rfl (by exact (cN (qv 1))) (fun _ _ _ _ _=>(by exact (by exact aN (i:=0) (by show List.Nodup (["_law_other", "_law_one"]:List Str);decide +kernel) (by exact rfl) (by first | exact Or.inl rfl | exact Or.inr rfl)))) (fun _ _ _ _ _=>(e9 (nL (cC (by exact (cJ (fY T) (by exact hr.mono (by decide)) (by exact rfl) T.m_Q23 T.F_Q23.kp T.b_Q23 (by exact .nil) (by exact eN) (ac (by exact (qv 1)) (ac (by exact (qv 0)) af ad) ad))))))) (fun _ _ _ _ _=>(by exact (by exact (qv 0)))) (by exact⟨rfl,rfl,rfl,rfl,trivial⟩) rfl (by decide +kernel) rfl (by decide +kernel) (by exact cr rfl ⟨rfl,trivial⟩)) af gk)) (ac (qv 2) af ad) az)))))
   (aq (aJ (qv 1))))) ?_
 extract_lets +lift
 try dsimp -zeta -zetaDelta only [Cx.nox,Cx.wish,bX]
 have hxl:=al0.len
 refine⟨(by show 0≤sizeLine;exact Nat.zero_le _),fun l hl=>?_⟩
 have s0:=aj hl (.lst [])
 have nin:∀ b o,H b=some o->b≠l:=fun b o q=>aB q hl
 refine⟨_,rfl,a,rfl,⟨_,s0.seq hS⟩,eW (K:=K) (a:=a) (xs:=xs) (fun i σ H'=>∃ (x2:Option V) (ys:List V) (zs:List R),σ=[some (.ref a),some (.ref l),x2]/\aO H H'/\H' l=some (.lst ys)/\bU (RV K H') ys zs/\zs.Perm (rs.take i)/\m6 zs) ⟨none,[],[],rfl,s0,ah,.nil,List.Perm.refl _,List.Pairwise.nil⟩ (fun i σ H' _ ⟨_,_,_,_,s,_⟩=>s.seq hS) ?_ ?_⟩
 ·rintro i x σ H1 hx ⟨x2,ys,zs,rfl,s1,hl1,al1,pm,so⟩
  obtain⟨z,hz0,rvz⟩:=al0.at hx
  have hil:i < xs.length:=(List.getElem?_eq_some_iff.mp hx).1
  have wz:=wf z (List.mem_of_getElem? hz0)
  have hz:=rvz.mono (au.same s1)
  have sub:∀ y∈zs,Wf 400 y:=fun y hy=>wf y (List.mem_of_mem_take (pm.mem_iff.mp hy))
  have lz:zs.length≤i:=by rw [pm.length_eq,List.length_take];omega
  have ly:=al1.len
  refine⟨_,rfl,.inl ⟨rfl,_,aW.of hl1⟩,_,rfl,l,rfl,⟨_,aW.of hl1⟩,fun D hD=>gz (K:=K) (P:=RV K) (p:=fun y=>!av z y) (fun _ _ _ _ t p=>p.mono t) hD (aW.of hl1) al1 (by omega) (fun j x d H3 hx hd s3 pd R E kR kE=>?_) fun H3 ds s3 hD3 al3=>?_⟩
  ·refine⟨iK.set rfl,_,rfl,_,rfl,_,_,z,d,400,400,rfl,hz.mono (au.same s3),pd,wz,sub d (List.mem_of_getElem? hd),by decide,_,rfl,?_⟩
   cases c:av z d with
   | true=>exact eZ (kE _ (aO.refl _) (by rw [c];rfl))
   | false=>exact gC ⟨_,rfl,kR _ (aO.refl _) (by rw [c];rfl)⟩
  have dl:ds.length=(zs.filter fun y=>!av z y).length:=al3.len
  have dle:ds.length≤zs.length:=by rw [dl];exact List.length_filter_le _ _
  have s13:=s1.trans s3
  have hl3:=s3 _ _ hl1
  have hz3:=hz.mono (au.same s3)
  have alz:=al1.mono fun _ _ q=>q.mono (au.same s3)
  refine⟨D,ds,rfl,.inl (aW.of hD3),_,rfl,l,ys,ds.length,x,rfl,rfl,hl3,by omega,aZ (by omega),?_⟩
  have tm:=au.up (K:=K) hl3 (ys.take ds.length++x :: ys.drop ds.length)
  refine⟨_,_,zs.take ds.length++z :: zs.drop ds.length,rfl,fun b o q=>?_,ah,?_,?_,?_⟩
  ·rw [aD (nin b o q)]
   exact s13 _ _ q
  ·have alm:=alz.mono fun _ _ q=>q.mono tm
   exact (alm.take _).join (.cons (hz3.mono tm) (alm.drop _))
  ·rw [List.take_add_one,hz0]
   exact uZ _ pm
  ·rw [dl]
   exact v5 wz.pos (fun y hy=>(sub y hy).pos) so
 ·rintro σ H1 ⟨x2,ys,zs,rfl,s1,hl1,al1,pm,so⟩
  rw [hxl,List.take_length] at pm
  exact⟨_,rfl,k l ys zs H1 s1 hl hl1 al1 pm so⟩
theorem At (T:fC K mg t):bO P w K mg base eF 3 t.a_Q24 t.d_Q24 ["_law_tape_here", "_law_kinks", "_law_most"] (l9 K):=by
 refine T.F_Q24.ok dZ (fun vs H Q E h=>?_) (fun cdv A outer s H vs Q E hr h=>?_)
 ·obtain⟨_,_,_,_,_,_,_,rfl,_⟩:=h;rfl
 obtain⟨t₁,s₁,kl,xk,v,ks,rm,rfl,tp,nD,hkl,alk,hks,k4,rvm,hkm,hm0,k⟩:=h
 refine eg.ok (ag (cy 3 dZ.nd (bP (bW T) hr T.m_Q21 T.F_Q21.kp T.b_Q21 (ac (qv 0) (ac ae af ao) ad)))
   (ag (bK (aS mC (qv 3) ae (aQ _)) (aq (aJ (aI (ac jr (ac (aK dk ae (qv 3)) af be) ao)))) aP)
   (ag (cy 4 dZ.nd (aK ju (fz iX (cu (ac (aI (ac ae (ac ae af ao) ao)) (ac (aI (ac ae (ac ae af ao) ao)) (ac (aI (ac ae (ac ae af ao) ao)) (ac (aI (ac ae (ac ae af ao) ao)) (ac (aI (ac ae (ac ae af ao) ao)) af aG) aG) aG) aG) aG)) gv (gu (bP (bW T) hr T.m_Q21 T.F_Q21.kp T.b_Q21 (ac (qv 0) (ac ae af ao) ad)))) (fz iX (fA ik (by rfl) T.z_list boot_list (ac (qv 1) af ad)) gv (gu (bP (bW T) hr T.m_Q21 T.F_Q21.kp T.b_Q21 (ac (qv 0) (ac ae af ao) ad))))))
   (ag (gt (i:=4) (N':=["_law_speed", "_law_most"]) (src:=[none,some 2]) dZ.nd rfl (by first | exact Or.inl rfl | exact Or.inr rfl) rfl (by exact (cN (qv 4))) (fun _ _ _ _ _=>(by exact (by exact aN (i:=0) (by show List.Nodup (["_law_speed", "_law_most"]:List Str);decide +kernel) (by exact rfl) (by first | exact Or.inl rfl | exact Or.inr rfl)))) (fun _ _ _ _ _=>(e9 (mo (tV (cC (by exact (cJ (fY T) (by exact hr.mono (by decide)) (by exact rfl) T.m_Q23 T.F_Q23.kp T.b_Q23 (by exact .nil) (by exact eN) (ac (by exact (aI (ac ae (ac ae af ao) ao))) (ac (by exact (qv 0)) af ad) aG)))) (oO (cC (by exact (cJ (fY T) (by exact hr.mono (by decide)) (by exact rfl) T.m_Q23 T.F_Q23.kp T.b_Q23 (by exact .nil) (by exact eN) (ac (by exact (qv 0)) (ac (by exact (qv 1)) af ad) ad))))))))) (fun _ _ _ _ _=>(by exact (by exact (qv 0)))) (by exact⟨rfl,rfl,rfl,rfl,trivial⟩) rfl (by decide +kernel) rfl (by decide +kernel) (by exact cr rfl ⟨rfl,trivial⟩))
   (ag (cy 5 dZ.nd (bf bE (cu (ac (qv 2) (ac (bP (de T) hr T.m_Q26 T.F_Q26.kp T.b_Q26 (ac (qv 2) (ac (aI (ac ae (ac (aK dk ae (bP (bW T) hr T.m_Q21 T.F_Q21.kp T.b_Q21 (ac (qv 0) (ac ae af ao) ad))) af be) ao)) af aG) ad)) af az) ad)) (bP (bW T) hr T.m_Q21 T.F_Q21.kp T.b_Q21 (ac (qv 0) (ac ae af ao) ad))))
   (ag (zG (bK (aS (uz hr) (qv 5) (aI (ac ae (ac ae af ao) ao)) (aQ _)) (aq (cy 5 dZ.nd (aI (ac ae (ac ae af ao) ao)))) aP))
   (ag (cy 6 dZ.nd (bf bE (cu (ac (aI (ac ae (ac ae af ao) ao)) (ac (aI (ac ae (ac ae af ao) ao)) (ac (aI (ac ae (ac ae af ao) ao)) af aG) aG) aG)) (bP (bW T) hr T.m_Q21 T.F_Q21.kp T.b_Q21 (ac (qv 0) (ac ae af ao) ad))))
   (ag (cy 7 dZ.nd (bP (jw T) hr T.m_Q22 T.F_Q22.kp T.b_Q22 (ac (aK dk ae (bP (bW T) hr T.m_Q21 T.F_Q21.kp T.b_Q21 (ac (qv 0) (ac ae af ao) ad))) (ac (aK dk ae (bP (bW T) hr T.m_Q21 T.F_Q21.kp T.b_Q21 (ac (qv 0) (ac ae af ao) ad))) af be) be)))
   (ag (cy 8 dZ.nd (cu (ac (aI (ac (aI (ac ae (ac ae af ao) ao)) (ac (qv 6) af ad) aG)) af aG)))
   (ag (cM PassesOwn.never rfl (cN (aK ju (bP (Cb T) hr T.m_Q8 T.F_Q8.kp T.b_Q8 (ac (qv 4) af ad)) (cu (ac (qv 5) af ad)))) (aN (i:=9) dZ.nd rfl (by first | exact Or.inl rfl | exact Or.inr rfl))
   (ag (cy 10 dZ.nd (bP (de T) hr T.m_Q26 T.F_Q26.kp T.b_Q26 (ac (qv 9) (ac (aI (ac (dS cP (bf ap (bf ap (bf bE (qv 8) (dS cP ae)) ae) ae)) (ac (bf ap (bf ap (bf bE (qv 8) (dS cP ae)) ae) ae) af aw) eB)) af aG) ad)))
   (ag (fb (iL PySem.F.plainAttrs_list PySem.F.slot_list_append PySem.F.type_list_append dI (qv 8) (ac (aI (ac (qv 9) (ac (bP (de T) hr T.m_Q26 T.F_Q26.kp T.b_Q26 (ac (bf ap (bf bE (qv 8) (dS cP ae)) ae) (ac (bP (fK T) hr T.m_Q27 T.F_Q27.kp T.b_Q27 (ac (qv 7) (ac (qv 10) af ad) ad)) af az) aw)) af az) ad)) af aG)))
   (aq (cy 7 dZ.nd (bP (de T) hr T.m_Q26 T.F_Q26.kp T.b_Q26 (ac (qv 7) (ac (bP (jw T) hr T.m_Q22 T.F_Q22.kp T.b_Q22 (ac (bP (bW T) hr T.m_Q21 T.F_Q21.kp T.b_Q21 (ac (qv 0) (ac ae af ao) ad)) (ac (aK dk ae (bP (bW T) hr T.m_Q21 T.F_Q21.kp T.b_Q21 (ac (qv 0) (ac ae af ao) ad))) af be) az)) af az) ad)))))))
   (aq (aJ (aI (ac jr (ac (fA ft (by rfl) T.z_tuple boot_tuple (ac (qv 8) af ad)) af az) ao)))))))))))))) ?_
 extract_lets +lift
 try dsimp -zeta -zetaDelta only [Cx.nox,Cx.wish,bX]
 have hd_:∃ ys,H kl=some (.lst ys):=⟨_,hkl⟩
 have tp0:=tp.lst
 have S0:bo t₁ H H:=⟨fun _ _ _ q=>q,tp.lst,tp.lst⟩
 refine⟨_,rfl,t₁,s₁,6,rfl,tp,by decide,by decide,fun ru1 zu1 au1 bu1 Tu1=>?_⟩
 have Su1:=bo.up (ys:=zu1) tp.lst.choose_spec
 replace S0:=S0.trans Su1
 replace hd_:=hd_.imp fun _ q=>Su1.keep _ _ nD q
 replace hkl:=Su1.keep _ _ nD hkl
 replace alk:=aT Su1 alk
 replace rvm:=rvm.mono (au.step (K:=K) Su1)
 replace tp:=Tu1
 clear Tu1 Su1
 generalize ax H t₁ (.lst zu1)=Hu1 at S0 tp hd_ hkl alk rvm ⊢
 refine⟨_,rfl,_,_,rfl,rfl,_,rfl,qH (fun cw=>?_) (fun cw=>?_)⟩
 ·refine⟨_,rfl,_,_,rfl,rfl,cY,fun p0 hp0=>?_⟩
  have s0:=aj hp0 (.tup [.str (Str.ofString "power"),.int (2+ru1)])
  have c3:=of_decide_eq_true cw
  exact k (.ref p0) (.pow (2+ru1)) _ (S0.trans (.same s0 tp.lst)) (tp.same s0) ⟨p0,rfl,bh.of ah⟩ ⟨by omega,by omega⟩ trivial trivial
 refine⟨cY,fun pu2 gu2=>?_⟩
 generalize hG:ax Hu1 pu2 (.tup [.int 1,.int 2])=Hu2
 obtain⟨eu2,hu2,du2⟩:=eE hG gu2 tp.lst hd_
 obtain⟨S0,tp,hd_⟩:=d9 eu2 S0 tp hd_
 replace hkl:=eu2 _ _ hkl
 replace alk:=aM eu2 alk
 replace rvm:=rvm.mono (au.same eu2)
 have rf0:RV K Hu2 (.ref pu2) (1,2):=RV.of hu2
 clear eu2 hu2 du2 hG
 refine⟨cY,fun pu3 gu3=>?_⟩
 generalize hG:ax Hu2 pu3 (.tup [.int 1,.int 1])=Hu3
 obtain⟨eu3,hu3,du3⟩:=eE hG gu3 tp.lst hd_
 obtain⟨S0,tp,hd_⟩:=d9 eu3 S0 tp hd_
 replace hkl:=eu3 _ _ hkl
 replace alk:=aM eu3 alk
 replace rvm:=rvm.mono (au.same eu3)
 replace rf0:=rf0.mono (au.same eu3)
 have rf1:RV K Hu3 (.ref pu3) (1,1):=RV.of hu3
 clear eu3 hu3 du3 hG
 refine⟨cY,fun pu4 gu4=>?_⟩
 generalize hG:ax Hu3 pu4 (.tup [.int 2,.int 1])=Hu4
 obtain⟨eu4,hu4,du4⟩:=eE hG gu4 tp.lst hd_
 obtain⟨S0,tp,hd_⟩:=d9 eu4 S0 tp hd_
 replace hkl:=eu4 _ _ hkl
 replace alk:=aM eu4 alk
 replace rvm:=rvm.mono (au.same eu4)
 replace rf0:=rf0.mono (au.same eu4)
 replace rf1:=rf1.mono (au.same eu4)
 have rf2:RV K Hu4 (.ref pu4) (2,1):=RV.of hu4
 clear eu4 hu4 du4 hG
 refine⟨cY,fun pu5 gu5=>?_⟩
 generalize hG:ax Hu4 pu5 (.tup [.int 7,.int 3])=Hu5
 obtain⟨eu5,hu5,du5⟩:=eE hG gu5 tp.lst hd_
 obtain⟨S0,tp,hd_⟩:=d9 eu5 S0 tp hd_
 replace hkl:=eu5 _ _ hkl
 replace alk:=aM eu5 alk
 replace rvm:=rvm.mono (au.same eu5)
 replace rf0:=rf0.mono (au.same eu5)
 replace rf1:=rf1.mono (au.same eu5)
 replace rf2:=rf2.mono (au.same eu5)
 have rf3:RV K Hu5 (.ref pu5) (7,3):=RV.of hu5
 clear eu5 hu5 du5 hG
 refine⟨cY,fun pu6 gu6=>?_⟩
 generalize hG:ax Hu5 pu6 (.tup [.int 5,.int 1])=Hu6
 obtain⟨eu6,hu6,du6⟩:=eE hG gu6 tp.lst hd_
 obtain⟨S0,tp,hd_⟩:=d9 eu6 S0 tp hd_
 replace hkl:=eu6 _ _ hkl
 replace alk:=aM eu6 alk
 replace rvm:=rvm.mono (au.same eu6)
 replace rf0:=rf0.mono (au.same eu6)
 replace rf1:=rf1.mono (au.same eu6)
 replace rf2:=rf2.mono (au.same eu6)
 replace rf3:=rf3.mono (au.same eu6)
 have rf4:RV K Hu6 (.ref pu6) (5,1):=RV.of hu6
 clear eu6 hu6 du6 hG
 refine⟨Eu,fun pu7 gu7=>?_⟩
 generalize hG:ax Hu6 pu7 (.lst [V.ref pu2,V.ref pu3,V.ref pu4,V.ref pu5,V.ref pu6])=Hu7
 obtain⟨eu7,hu7,du7⟩:=eE hG gu7 tp.lst hd_
 have nu7:=j6 gu7 tp.lst
 obtain⟨S0,tp,hd_⟩:=d9 eu7 S0 tp hd_
 replace hkl:=eu7 _ _ hkl
 replace alk:=aM eu7 alk
 replace rvm:=rvm.mono (au.same eu7)
 replace rf0:=rf0.mono (au.same eu7)
 replace rf1:=rf1.mono (au.same eu7)
 replace rf2:=rf2.mono (au.same eu7)
 replace rf3:=rf3.mono (au.same eu7)
 replace rf4:=rf4.mono (au.same eu7)
 have ls1:=hu7
 have al1:bU (RV K Hu7) ([V.ref pu2,V.ref pu3,V.ref pu4,V.ref pu5,V.ref pu6]:List V) [(1,2),(1,1),(2,1),(7,3),(5,1)]:=(.cons rf0 (.cons rf1 (.cons rf2 (.cons rf3 (.cons rf4 .nil)))))
 clear eu7 hu7 du7 hG
 refine⟨_,rfl,t₁,s₁,6,rfl,tp,by decide,by decide,fun ru8 zu8 au8 bu8 Tu8=>?_⟩
 have Su8:=bo.up (ys:=zu8) tp.lst.choose_spec
 replace S0:=S0.trans Su8
 replace hd_:=hd_.imp fun _ q=>Su8.keep _ _ nD q
 replace hkl:=Su8.keep _ _ nD hkl
 replace alk:=aT Su8 alk
 replace rvm:=rvm.mono (au.step (K:=K) Su8)
 replace ls1:=Su8.keep _ _ nu7 ls1
 replace al1:=aT Su8 al1
 replace tp:=Tu8
 clear Tu8 Su8
 generalize ax Hu7 t₁ (.lst zu8)=Hu8 at S0 tp hd_ hkl alk rvm ls1 al1 ⊢
 obtain⟨n1,rfl⟩:=Int.eq_ofNat_of_zero_le au8
 refine⟨_,rfl,pu7,_,rfl,aW.of ls1,fun pu9 gu9=>?_⟩
 generalize hG:ax Hu8 pu9 (.lst (fQ ([V.ref pu2,V.ref pu3,V.ref pu4,V.ref pu5,V.ref pu6]:List V) none (some ((n1:Nat):Int))))=Hu9
 obtain⟨eu9,hu9,du9⟩:=eE hG gu9 tp.lst hd_
 have nu9:=j6 gu9 tp.lst
 obtain⟨S0,tp,hd_⟩:=d9 eu9 S0 tp hd_
 replace hkl:=eu9 _ _ hkl
 replace alk:=aM eu9 alk
 replace rvm:=rvm.mono (au.same eu9)
 replace ls1:=eu9 _ _ ls1
 replace al1:=aM eu9 al1
 have ls2:Hu9 pu9=some (.lst (([V.ref pu2,V.ref pu3,V.ref pu4,V.ref pu5,V.ref pu6]:List V).take n1)):=(by have z:=hu9;rw [i8] at z;exact z)
 have al2:bU (RV K Hu9) (([V.ref pu2,V.ref pu3,V.ref pu4,V.ref pu5,V.ref pu6]:List V).take n1) (([(1,2),(1,1),(2,1),(7,3),(5,1)]:List R).take n1):=bU.take n1 al1
 clear eu9 hu9 du9 hG
 refine⟨_,rfl,kl,_,rfl,.inl (aW.of hkl),fun pu10 gu10=>?_⟩
 generalize hG:ax Hu9 pu10 (.lst xk)=Hu10
 obtain⟨eu10,hu10,du10⟩:=eE hG gu10 tp.lst hd_
 have nu10:=j6 gu10 tp.lst
 obtain⟨S0,tp,hd_⟩:=d9 eu10 S0 tp hd_
 replace hkl:=eu10 _ _ hkl
 replace alk:=aM eu10 alk
 replace rvm:=rvm.mono (au.same eu10)
 replace ls2:=eu10 _ _ ls2
 replace al2:=aM eu10 al2
 have ls3:=hu10
 clear eu10 hu10 du10 hG
 refine⟨_,rfl,t₁,s₁,5,rfl,tp,by decide,by decide,fun ru11 zu11 au11 bu11 Tu11=>?_⟩
 have Su11:=bo.up (ys:=zu11) tp.lst.choose_spec
 replace S0:=S0.trans Su11
 replace hd_:=hd_.imp fun _ q=>Su11.keep _ _ nD q
 replace hkl:=Su11.keep _ _ nD hkl
 replace alk:=aT Su11 alk
 replace rvm:=rvm.mono (au.step (K:=K) Su11)
 replace ls2:=Su11.keep _ _ nu9 ls2
 replace al2:=aT Su11 al2
 replace ls3:=Su11.keep _ _ nu10 ls3
 replace tp:=Tu11
 clear Tu11 Su11
 generalize ax Hu10 t₁ (.lst zu11)=Hu11 at S0 tp hd_ hkl alk rvm ls2 al2 ls3 ⊢
 obtain⟨n2,rfl⟩:=Int.eq_ofNat_of_zero_le au11
 refine⟨_,rfl,pu10,_,rfl,aW.of ls3,fun pu12 gu12=>?_⟩
 generalize hG:ax Hu11 pu12 (.lst (fQ xk none (some ((n2:Nat):Int))))=Hu12
 obtain⟨eu12,hu12,du12⟩:=eE hG gu12 tp.lst hd_
 have nu12:=j6 gu12 tp.lst
 obtain⟨S0,tp,hd_⟩:=d9 eu12 S0 tp hd_
 replace hkl:=eu12 _ _ hkl
 replace alk:=aM eu12 alk
 replace rvm:=rvm.mono (au.same eu12)
 replace ls2:=eu12 _ _ ls2
 replace al2:=aM eu12 al2
 replace ls3:=eu12 _ _ ls3
 have ls4:Hu12 pu12=some (.lst (xk.take n2)):=(by have z:=hu12;rw [i8] at z;exact z)
 have al4:bU (RV K Hu12) (xk.take n2) (ks.take n2):=bU.take n2 alk
 clear eu12 hu12 du12 hG
 refine⟨pu9,pu12,_,_,rfl,rfl,ls2,ls4,Nat.le_trans (show _≤1000 by first | omega | (simp <;> omega)) jb,fun pu13 gu13=>?_⟩
 generalize hG:ax Hu12 pu13 (.lst (([V.ref pu2,V.ref pu3,V.ref pu4,V.ref pu5,V.ref pu6]:List V).take n1++xk.take n2))=Hu13
 obtain⟨eu13,hu13,du13⟩:=eE hG gu13 tp.lst hd_
 have nu13:=j6 gu13 tp.lst
 obtain⟨S0,tp,hd_⟩:=d9 eu13 S0 tp hd_
 replace hkl:=eu13 _ _ hkl
 replace rvm:=rvm.mono (au.same eu13)
 replace ls2:=eu13 _ _ ls2
 replace al2:=aM eu13 al2
 replace ls4:=eu13 _ _ ls4
 replace al4:=aM eu13 al4
 have ls5:=hu13
 have al5:bU (RV K Hu13) (([V.ref pu2,V.ref pu3,V.ref pu4,V.ref pu5,V.ref pu6]:List V).take n1++xk.take n2) (([(1,2),(1,1),(2,1),(7,3),(5,1)]:List R).take n1++ks.take n2):=bU.join al2 al4
 clear eu13 hu13 du13 hG
 have kb5:∀ r∈(([(1,2),(1,1),(2,1),(7,3),(5,1)]:List R).take n1++ks.take n2),xL r:=fun r hr=>by
  rcases List.mem_append.mp hr with h | h
  ·have h:=List.mem_of_mem_take h
   simp only [List.mem_cons,List.not_mem_nil,or_false] at h
   rcases h with rfl | rfl | rfl | rfl | rfl
   ·exact eV (by decide) ⟨3,by decide⟩ (by decide) (by decide)
   ·exact eV (by decide) ⟨6,by decide⟩ (by decide) (by decide)
   ·exact eV (by decide) ⟨6,by decide⟩ (by decide) (by decide)
   ·exact eV (by decide) ⟨2,by decide⟩ (by decide) (by decide)
   ·exact eV (by decide) ⟨6,by decide⟩ (by decide) (by decide)
  ·exact hks r (List.mem_of_mem_take h)
 have ln5:(([(1,2),(1,1),(2,1),(7,3),(5,1)]:List R).take n1++ks.take n2).length≤9:=by simp <;> omega
 generalize (([(1,2),(1,1),(2,1),(7,3),(5,1)]:List R).take n1++ks.take n2)=rs5 at al5 kb5 ln5
 have xl5:=al5.len
 generalize (([V.ref pu2,V.ref pu3,V.ref pu4,V.ref pu5,V.ref pu6]:List V).take n1++xk.take n2)=xs5 at ls5 al5 xl5
 refine⟨_,rfl,pu13,rfl,⟨_,aW.of ls5⟩,fun Dc hDc=>gz (K:=K) (P:=RV K) (p:=fun y=>av (0,1) y && av y rm) (fun _ _ _ _ t p=>p.mono t) hDc (aW.of ls5) al5 (by omega) (fun j x d H3 hx hd s3 pd R E kR kE=>?_) fun H6 ds s6 hD6 al6=>?_⟩
 ·have wd:=(kb5 d (List.mem_of_getElem? hd)).wf
  refine⟨iK.set rfl,cY,fun pz hpz=>?_⟩
  have sz:=aj hpz (.tup [.int 0,.int 1])
  refine⟨_,rfl,.ref pz,x,(0,1),d,1,98,rfl,RV.of ah,pd.mono (au.same sz),oz,wd,by decide,_,rfl,?_⟩
  cases c1:av (0,1) d with
  | false=>exact eZ (eZ (kE _ sz (by show (av (0,1) d && av d rm)=false;rw [c1];rfl)))
  | true=>
   refine gC ⟨_,rfl,_,rfl,x,v,d,rm,98,98,rfl,pd.mono (au.same sz),(rvm.mono (au.same s3)).mono (au.same sz),wd,hkm.wf,by decide,_,rfl,?_⟩
   cases c2:av d rm with
   | false=>exact eZ (kE _ sz (by show (av (0,1) d && av d rm)=false;rw [c1,c2];rfl))
   | true=>exact gC ⟨_,rfl,kR _ sz (by show (av (0,1) d && av d rm)=true;rw [c1,c2];rfl)⟩
 have nDc:=j6 hDc tp.lst
 obtain⟨S0,tp,hd_⟩:=d9 s6 S0 tp hd_
 replace hkl:=s6 _ _ hkl
 replace rvm:=rvm.mono (au.same s6)
 refine⟨_,rfl,_,rfl,_,rfl,t₁,s₁,5,rfl,tp,by decide,by decide,fun ru14 zu14 au14 bu14 Tu14=>?_⟩
 have Su14:=bo.up (ys:=zu14) tp.lst.choose_spec
 replace S0:=S0.trans Su14
 replace hd_:=hd_.imp fun _ q=>Su14.keep _ _ nD q
 replace hkl:=Su14.keep _ _ nD hkl
 replace rvm:=rvm.mono (au.step (K:=K) Su14)
 replace hD6:=Su14.keep _ _ nDc hD6
 replace al6:=aT Su14 al6
 replace tp:=Tu14
 clear Tu14 Su14
 generalize ax H6 t₁ (.lst zu14)=Hu14 at S0 tp hd_ hkl rvm hD6 al6 ⊢
 have wl1:Wf 98 ((1,1+ru14):R):=⟨by show 0 < 1+ru14;omega,by show (1:Int).natAbs < 2 ^ 98;decide,by show (1+ru14).natAbs < 2 ^ 98;omega,by show Int.gcd 1 (1+ru14)=1;simp⟩
 have bl1:Bq 360 1 ((1,1+ru14):R):=by
  have h:Bq 360 1 (df 1 (1+ru14)):=by
   refine iQ (by omega) ?_ (by omega)
   rcases (show ru14=0∨ru14=1∨ru14=2∨ru14=3∨ru14=4 by omega) with rfl | rfl | rfl | rfl | rfl
   ·exact⟨360,by decide⟩
   ·exact⟨180,by decide⟩
   ·exact⟨120,by decide⟩
   ·exact⟨90,by decide⟩
   ·exact⟨72,by decide⟩
  rw [cG (x:=1) (y:=1+ru14) (by omega) (by omega) (by simp) rfl] at h
  exact h
 refine⟨_,_,rfl,rfl,cY,fun pu15 gu15=>?_⟩
 generalize hG:ax Hu14 pu15 (.tup [.int 1,.int (1+ru14)])=Hu15
 obtain⟨eu15,hu15,du15⟩:=eE hG gu15 tp.lst hd_
 obtain⟨S0,tp,hd_⟩:=d9 eu15 S0 tp hd_
 replace hkl:=eu15 _ _ hkl
 replace rvm:=rvm.mono (au.same eu15)
 replace hD6:=eu15 _ _ hD6
 replace al6:=aM eu15 al6
 have rl1:RV K Hu15 (.ref pu15) (1,1+ru14):=RV.of hu15
 clear eu15 hu15 du15 hG
 refine⟨v,.ref pu15,rm,(1,1+ru14),98,98,rfl,rvm,rl1,hkm.wf,wl1,by decide,fun pu16 gu16=>?_⟩
 generalize hG:ax Hu15 pu16 (.tup [.int (aH rm (1,1+ru14)).1,.int (aH rm (1,1+ru14)).2])=Hu16
 obtain⟨eu16,hu16,du16⟩:=eE hG gu16 tp.lst hd_
 obtain⟨S0,tp,hd_⟩:=d9 eu16 S0 tp hd_
 replace hkl:=eu16 _ _ hkl
 replace rvm:=rvm.mono (au.same eu16)
 replace hD6:=eu16 _ _ hD6
 replace al6:=aM eu16 al6
 replace rl1:=rl1.mono (au.same eu16)
 have rl2:RV K Hu16 (.ref pu16) (aH rm (1,1+ru14)):=RV.of hu16
 clear eu16 hu16 du16 hG
 refine⟨cY,fun pu17 gu17=>?_⟩
 generalize hG:ax Hu16 pu17 (.lst [v,V.ref pu16])=Hu17
 obtain⟨eu17,hu17,du17⟩:=eE hG gu17 tp.lst hd_
 have nu17:=j6 gu17 tp.lst
 obtain⟨S0,tp,hd_⟩:=d9 eu17 S0 tp hd_
 replace hkl:=eu17 _ _ hkl
 replace rvm:=rvm.mono (au.same eu17)
 replace hD6:=eu17 _ _ hD6
 replace al6:=aM eu17 al6
 replace rl2:=rl2.mono (au.same eu17)
 have ls7:=hu17
 clear eu17 hu17 du17 hG
 refine⟨_,rfl,t₁,s₁,2,rfl,tp,by decide,by decide,fun ru18 zu18 au18 bu18 Tu18=>?_⟩
 have Su18:=bo.up (ys:=zu18) tp.lst.choose_spec
 replace S0:=S0.trans Su18
 replace hd_:=hd_.imp fun _ q=>Su18.keep _ _ nD q
 replace hkl:=Su18.keep _ _ nD hkl
 replace rvm:=rvm.mono (au.step (K:=K) Su18)
 replace hD6:=Su18.keep _ _ nDc hD6
 replace al6:=aT Su18 al6
 replace rl2:=rl2.mono (au.step (K:=K) Su18)
 replace ls7:=Su18.keep _ _ nu17 ls7
 replace tp:=Tu18
 clear Tu18 Su18
 generalize ax Hu17 t₁ (.lst zu18)=Hu18 at S0 tp hd_ hkl rvm hD6 al6 rl2 ls7 ⊢
 obtain⟨vl,rl,hat,rvl,bl,nl0,ge⟩:∃ (vl:V) (rl:R),jS [v,V.ref pu16] ru18=some vl/\RV K Hu18 vl rl/\Bq 360 6 rl/\0≤rl.1/\av rl rm=false:=by
  rcases (show ru18=0∨ru18=1 by omega) with rfl | rfl
  ·exact⟨v,rm,rfl,rvm,Bq.mono hkm ⟨60,by decide⟩ (by decide),hm0,dX.mpr (Int.le_refl _)⟩
  ·exact⟨_,_,rfl,rl2,Bq.plus (by decide) (Bq.mono hkm ⟨60,by decide⟩ (Nat.le_refl _)) bl1,oS (Bq.red hkm) (Bq.red bl1) hm0 (by show (0:Int)≤1;decide),dJ (qD (Bq.red hkm) (Bq.red bl1) (by show (0:Int) < 1;decide))⟩
 refine⟨pu17,_,_,_,rfl,rfl,aW.of ls7,hat,?_⟩
 refine⟨fun σ H'=>∃ (vl:V) (rl:R),σ=[some (.ref t₁),some (.ref kl),some v,some (.int ru1),some (.ref Dc),some vl,none,none,none,none,none]/\bo t₁ Hu18 H'/\bG K H' t₁ s₁/\RV K H' vl rl/\Bq 360 6 rl/\0 < rl.1/\∀ r:R,0 < r.2->av (0,1) r=true->av r rm=true->av r rl=true,?_,?_⟩
 ·refine⟨_,rfl,cY,fun pz hpz=>?_⟩
  have sz:=aj hpz (.tup [.int 0,.int 1])
  refine⟨dR rl,dR (0,1),(rvl.mono (au.same sz)).deep,(RV.of (K:=K) ah).deep,iH _,iH _,(by show max 0 (max 0 0)+1≤32;decide),_,rfl,?_⟩
  have Sz:bo t₁ Hu18 (ax Hu18 pz (.tup [.int 0,.int 1])):=bo.same sz tp.lst
  have Tz:=tp.same sz
  have rvz:=rvl.mono (au.same sz)
  generalize ax Hu18 pz (.tup [.int 0,.int 1])=HZ at Sz Tz rvz ⊢
  by_cases ez:rl=(0,1)
  ·refine Cl (by rw [ez];exact ie _) ?_
   refine⟨cY,fun py hpy=>?_⟩
   have sy:=aj hpy (.tup [.int 1,.int 1])
   refine⟨.ref py,(1,1),rfl,Sz.trans (.same sy Tz.lst),Tz.same sy,RV.of ah,⟨by decide,by decide,⟨360,by decide⟩,by decide⟩,by decide,fun r p1 h1 h2=>?_⟩
   rw [ez] at ge
   have h3:=o0 p1 (Bq.red hkm).pos (show (0:Int) < ((0,1):R).2 by decide) h2 ge
   rw [dJ h1] at h3
   cases h3
  ·refine Cm (by cases zz:PyData.eqv (dR rl) (dR (0,1)) with | false=>rfl | true=>exact absurd (vc zz) ez) ?_
   refine⟨vl,rl,rfl,Sz,Tz,rvz,bl,?_,fun r p1 h1 h2=>o0 p1 (Bq.red hkm).pos bl.pos h2 ge⟩
   rcases (show rl.1=0∨0 < rl.1 by omega) with q | q
   ·exfalso
    apply ez
    obtain⟨ra,rb⟩:=rl
    have q':ra=0:=q
    subst q'
    have c':Int.gcd 0 rb=1:=bl.cop
    have p':0 < rb:=bl.pos
    rw [Int.gcd_zero_left] at c'
    have:rb=1:=by omega
    rw [this]
   ·exact q
 rintro σ H7 ⟨vl,rl,rfl,Sc,Tc,rvl,bl,pos,ge⟩
 replace hd_:=hd_.imp fun _ q=>Sc.keep _ _ nD q
 replace hkl:=Sc.keep _ _ nD hkl
 replace rvm:=rvm.mono (au.step (K:=K) Sc)
 replace hD6:=Sc.keep _ _ nDc hD6
 replace al6:=aT Sc al6
 replace S0:=S0.trans Sc
 replace tp:=Tc
 clear Tc Sc
 refine⟨cY,fun pu19 gu19=>?_⟩
 generalize hG:ax H7 pu19 (.tup [.int 0,.int 1])=Hu19
 obtain⟨eu19,hu19,du19⟩:=eE hG gu19 tp.lst hd_
 obtain⟨S0,tp,hd_⟩:=d9 eu19 S0 tp hd_
 replace hkl:=eu19 _ _ hkl
 replace rvm:=rvm.mono (au.same eu19)
 replace hD6:=eu19 _ _ hD6
 replace al6:=aM eu19 al6
 replace rvl:=rvl.mono (au.same eu19)
 have rp0:RV K Hu19 (.ref pu19) (0,1):=RV.of hu19
 clear eu19 hu19 du19 hG
 refine⟨cY,fun pu20 gu20=>?_⟩
 generalize hG:ax Hu19 pu20 (.tup [.int 1,.int 3])=Hu20
 obtain⟨eu20,hu20,du20⟩:=eE hG gu20 tp.lst hd_
 obtain⟨S0,tp,hd_⟩:=d9 eu20 S0 tp hd_
 replace hkl:=eu20 _ _ hkl
 replace rvm:=rvm.mono (au.same eu20)
 replace hD6:=eu20 _ _ hD6
 replace al6:=aM eu20 al6
 replace rvl:=rvl.mono (au.same eu20)
 replace rp0:=rp0.mono (au.same eu20)
 have rp1:RV K Hu20 (.ref pu20) (1,3):=RV.of hu20
 clear eu20 hu20 du20 hG
 refine⟨cY,fun pu21 gu21=>?_⟩
 generalize hG:ax Hu20 pu21 (.tup [.int 2,.int 1])=Hu21
 obtain⟨eu21,hu21,du21⟩:=eE hG gu21 tp.lst hd_
 obtain⟨S0,tp,hd_⟩:=d9 eu21 S0 tp hd_
 replace hkl:=eu21 _ _ hkl
 replace rvm:=rvm.mono (au.same eu21)
 replace hD6:=eu21 _ _ hD6
 replace al6:=aM eu21 al6
 replace rvl:=rvl.mono (au.same eu21)
 replace rp0:=rp0.mono (au.same eu21)
 replace rp1:=rp1.mono (au.same eu21)
 have rp2:RV K Hu21 (.ref pu21) (2,1):=RV.of hu21
 clear eu21 hu21 du21 hG
 refine⟨xN,fun pu22 gu22=>?_⟩
 generalize hG:ax Hu21 pu22 (.lst [V.ref pu19,V.ref pu20,V.ref pu21])=Hu22
 obtain⟨eu22,hu22,du22⟩:=eE hG gu22 tp.lst hd_
 have nu22:=j6 gu22 tp.lst
 obtain⟨S0,tp,hd_⟩:=d9 eu22 S0 tp hd_
 replace hkl:=eu22 _ _ hkl
 replace rvm:=rvm.mono (au.same eu22)
 replace hD6:=eu22 _ _ hD6
 replace al6:=aM eu22 al6
 replace rvl:=rvl.mono (au.same eu22)
 replace rp0:=rp0.mono (au.same eu22)
 replace rp1:=rp1.mono (au.same eu22)
 replace rp2:=rp2.mono (au.same eu22)
 have lsp:=hu22
 have alp_:bU (RV K Hu22) ([V.ref pu19,V.ref pu20,V.ref pu21]:List V) [(0,1),(1,3),(2,1)]:=(.cons rp0 (.cons rp1 (.cons rp2 .nil)))
 clear eu22 hu22 du22 hG
 refine⟨_,rfl,t₁,s₁,3,rfl,tp,by decide,by decide,fun ru23 zu23 au23 bu23 Tu23=>?_⟩
 have Su23:=bo.up (ys:=zu23) tp.lst.choose_spec
 replace S0:=S0.trans Su23
 replace hd_:=hd_.imp fun _ q=>Su23.keep _ _ nD q
 replace hkl:=Su23.keep _ _ nD hkl
 replace rvm:=rvm.mono (au.step (K:=K) Su23)
 replace hD6:=Su23.keep _ _ nDc hD6
 replace al6:=aT Su23 al6
 replace rvl:=rvl.mono (au.step (K:=K) Su23)
 replace rp0:=rp0.mono (au.step (K:=K) Su23)
 replace rp1:=rp1.mono (au.step (K:=K) Su23)
 replace rp2:=rp2.mono (au.step (K:=K) Su23)
 replace lsp:=Su23.keep _ _ nu22 lsp
 replace alp_:=aT Su23 alp_
 replace tp:=Tu23
 clear Tu23 Su23
 generalize ax Hu22 t₁ (.lst zu23)=Hu23 at S0 tp hd_ hkl rvm hD6 al6 rvl rp0 rp1 rp2 lsp alp_ ⊢
 obtain⟨vp,rp,hatp,rvp,bp⟩:∃ (vp:V) (rp:R),jS ([V.ref pu19,V.ref pu20,V.ref pu21]:List V) ru23=some vp/\RV K Hu23 vp rp/\Bq 2160 2 rp:=by
  rcases (show ru23=0∨ru23=1∨ru23=2 by omega) with rfl | rfl | rfl
  ·exact⟨_,_,rfl,rp0,⟨by decide,by decide,⟨2160,by decide⟩,by decide⟩⟩
  ·exact⟨_,_,rfl,rp1,⟨by decide,by decide,⟨720,by decide⟩,by decide⟩⟩
  ·exact⟨_,_,rfl,rp2,⟨by decide,by decide,⟨2160,by decide⟩,by decide⟩⟩
 refine⟨pu22,_,_,_,rfl,rfl,aW.of lsp,hatp,_,rfl,t₁,s₁,3,rfl,tp,by decide,by decide,fun ru24 zu24 au24 bu24 Tu24=>?_⟩
 have Su24:=bo.up (ys:=zu24) tp.lst.choose_spec
 replace S0:=S0.trans Su24
 replace hd_:=hd_.imp fun _ q=>Su24.keep _ _ nD q
 replace hkl:=Su24.keep _ _ nD hkl
 replace rvm:=rvm.mono (au.step (K:=K) Su24)
 replace hD6:=Su24.keep _ _ nDc hD6
 replace al6:=aT Su24 al6
 replace rvl:=rvl.mono (au.step (K:=K) Su24)
 replace rvp:=rvp.mono (au.step (K:=K) Su24)
 replace tp:=Tu24
 clear Tu24 Su24
 generalize ax Hu23 t₁ (.lst zu24)=Hu24 at S0 tp hd_ hkl rvm hD6 al6 rvl rvp ⊢
 refine⟨_,_,rfl,rfl,_,rfl,t₁,s₁,3,rfl,tp,by decide,by decide,fun ru25 zu25 au25 bu25 Tu25=>?_⟩
 have Su25:=bo.up (ys:=zu25) tp.lst.choose_spec
 replace S0:=S0.trans Su25
 replace hd_:=hd_.imp fun _ q=>Su25.keep _ _ nD q
 replace hkl:=Su25.keep _ _ nD hkl
 replace rvm:=rvm.mono (au.step (K:=K) Su25)
 replace hD6:=Su25.keep _ _ nDc hD6
 replace al6:=aT Su25 al6
 replace rvl:=rvl.mono (au.step (K:=K) Su25)
 replace rvp:=rvp.mono (au.step (K:=K) Su25)
 replace tp:=Tu25
 clear Tu25 Su25
 generalize ax Hu24 t₁ (.lst zu25)=Hu25 at S0 tp hd_ hkl rvm hD6 al6 rvl rvp ⊢
 refine⟨_,_,rfl,rfl,1+ru24,1+ru25,rfl,by omega,bj (n:=3) (by show (1+ru25).natAbs < 8;omega) (by decide),fun pu26 gu26=>?_⟩
 generalize hG:ax Hu25 pu26 (.tup [.int (df (1+ru24) (1+ru25)).1,.int (df (1+ru24) (1+ru25)).2])=Hu26
 obtain⟨eu26,hu26,du26⟩:=eE hG gu26 tp.lst hd_
 obtain⟨S0,tp,hd_⟩:=d9 eu26 S0 tp hd_
 replace hkl:=eu26 _ _ hkl
 replace rvm:=rvm.mono (au.same eu26)
 replace hD6:=eu26 _ _ hD6
 replace al6:=aM eu26 al6
 replace rvl:=rvl.mono (au.same eu26)
 replace rvp:=rvp.mono (au.same eu26)
 have rsl:RV K Hu26 (.ref pu26) (df (1+ru24) (1+ru25)):=RV.of hu26
 clear eu26 hu26 du26 hG
 have nsl:0≤(df (1+ru24) (1+ru25)).1:=nU (by omega)
 have bsl:Bq 6 3 (df (1+ru24) (1+ru25)):=by
  refine iQ (by omega) ?_ (by omega)
  rcases (show ru25=0∨ru25=1∨ru25=2 by omega) with q | q | q <;> rw [q]
  ·exact⟨6,by decide⟩
  ·exact⟨3,by decide⟩
  ·exact⟨2,by decide⟩
 generalize (df (1+ru24) (1+ru25))=sl0 at rsl bsl nsl
 refine⟨cY,fun pu27 gu27=>?_⟩
 generalize hG:ax Hu26 pu27 (.tup [.int 0,.int 1])=Hu27
 obtain⟨eu27,hu27,du27⟩:=eE hG gu27 tp.lst hd_
 obtain⟨S0,tp,hd_⟩:=d9 eu27 S0 tp hd_
 replace hkl:=eu27 _ _ hkl
 replace rvm:=rvm.mono (au.same eu27)
 replace hD6:=eu27 _ _ hD6
 replace al6:=aM eu27 al6
 replace rvl:=rvl.mono (au.same eu27)
 replace rvp:=rvp.mono (au.same eu27)
 replace rsl:=rsl.mono (au.same eu27)
 have rz0:RV K Hu27 (.ref pu27) (0,1):=RV.of hu27
 clear eu27 hu27 du27 hG
 refine⟨_,rfl,cY,fun pu28 gu28=>?_⟩
 generalize hG:ax Hu27 pu28 (.tup [V.ref pu27,vp])=Hu28
 obtain⟨eu28,hu28,du28⟩:=eE hG gu28 tp.lst hd_
 obtain⟨S0,tp,hd_⟩:=d9 eu28 S0 tp hd_
 replace hkl:=eu28 _ _ hkl
 replace rvm:=rvm.mono (au.same eu28)
 replace hD6:=eu28 _ _ hD6
 replace al6:=aM eu28 al6
 replace rvl:=rvl.mono (au.same eu28)
 replace rvp:=rvp.mono (au.same eu28)
 replace rsl:=rsl.mono (au.same eu28)
 replace rz0:=rz0.mono (au.same eu28)
 have rrow:fu K Hu28 (.ref pu28) ((0,1),rp):=⟨pu28,_,_,rfl,bh.of hu28,rz0,rvp⟩
 clear eu28 hu28 du28 hG
 refine⟨Bn,fun pu29 gu29=>?_⟩
 have glr:=gu29
 have Sb:=S0
 have off:=tp.off gu29
 generalize hG:ax Hu28 pu29 (.lst [V.ref pu28])=Hu29
 obtain⟨eu29,hu29,du29⟩:=eE hG gu29 tp.lst hd_
 have nu29:=j6 gu29 tp.lst
 obtain⟨S0,tp,hd_⟩:=d9 eu29 S0 tp hd_
 replace hkl:=eu29 _ _ hkl
 replace rvm:=rvm.mono (au.same eu29)
 replace hD6:=eu29 _ _ hD6
 replace al6:=aM eu29 al6
 replace rvl:=rvl.mono (au.same eu29)
 replace rvp:=rvp.mono (au.same eu29)
 replace rsl:=rsl.mono (au.same eu29)
 replace rz0:=rz0.mono (au.same eu29)
 replace rrow:=rrow.mono (au.same eu29)
 have hlr:=hu29
 have alr:bU (fu K Hu29) [V.ref pu28] [((0,1),rp)]:=.cons rrow .nil
 clear eu29 hu29 du29 hG
 have hlr0:H pu29=none:=by
  cases e:H pu29 with
  | none=>rfl
  | some o=>rw [Sb.keep _ _ nu29 e] at glr;cases glr
 refine⟨_,rfl,Dc,ds,_,rfl,aW.of hD6,al6,(fun r hr=>(kb5 r (List.mem_filter.mp hr).1).wf),Nat.le_trans (List.length_filter_le _ _) (by omega),fun lq yq zq HQ eQ hlq0 hq alq lzq ris sub=>?_⟩
 have nlq:=j6 hlq0 tp.lst
 obtain⟨S0,tp,hd_⟩:=d9 eQ S0 tp hd_
 replace hkl:=eQ _ _ hkl
 replace rvm:=rvm.mono (au.same eQ)
 replace hD6:=eQ _ _ hD6
 replace al6:=aM eQ al6
 replace rvl:=rvl.mono (au.same eQ)
 replace rsl:=rsl.mono (au.same eQ)
 replace hlr:=eQ _ _ hlr
 replace alr:=aM eQ alr
 refine⟨_,rfl,Bn,fun pu30 gu30=>?_⟩
 generalize hG:ax HQ pu30 (.lst [vl])=Hu30
 obtain⟨eu30,hu30,du30⟩:=eE hG gu30 tp.lst hd_
 have nu30:=j6 gu30 tp.lst
 obtain⟨S0,tp,hd_⟩:=d9 eu30 S0 tp hd_
 replace hkl:=eu30 _ _ hkl
 replace rvm:=rvm.mono (au.same eu30)
 replace rvl:=rvl.mono (au.same eu30)
 replace rsl:=rsl.mono (au.same eu30)
 replace hlr:=eu30 _ _ hlr
 replace alr:=aM eu30 alr
 replace hq:=eu30 _ _ hq
 replace alq:=aM eu30 alq
 have ls9:=hu30
 clear eu30 hu30 du30 hG
 have lzq2:zq.length≤9:=Nat.le_trans lzq (Nat.le_trans (List.length_filter_le _ _) ln5)
 have lyq:=alq.len
 refine⟨lq,pu30,_,_,rfl,rfl,hq,ls9,Nat.le_trans (show _≤1000 by first | omega | (simp <;> omega)) jb,fun pu31 gu31=>?_⟩
 have nlrp:=aB hlr gu31
 generalize hG:ax Hu30 pu31 (.lst (yq++[vl]))=Hu31
 obtain⟨eu31,hu31,du31⟩:=eE hG gu31 tp.lst hd_
 have nu31:=j6 gu31 tp.lst
 obtain⟨S0,tp,hd_⟩:=d9 eu31 S0 tp hd_
 replace hkl:=eu31 _ _ hkl
 replace rvm:=rvm.mono (au.same eu31)
 replace rvl:=rvl.mono (au.same eu31)
 replace rsl:=rsl.mono (au.same eu31)
 replace hlr:=eu31 _ _ hlr
 replace alr:=aM eu31 alr
 replace hq:=eu31 _ _ hq
 replace alq:=aM eu31 alq
 replace ls9:=eu31 _ _ ls9
 have ls10:=hu31
 have al10:bU (RV K Hu31) (yq++[vl]) (zq++[rl]):=alq.join (.cons rvl .nil)
 clear eu31 hu31 du31 hG
 have pz:∀ r∈zq,av (0,1) r=true/\av r rm=true/\xL r:=fun r hr=>by
  obtain⟨h1,h2⟩:=List.mem_filter.mp (sub r hr)
  have h2':(av (0,1) r && av r rm)=true:=h2
  rw [Bool.and_eq_true] at h2'
  exact⟨h2'.1,h2'.2,kb5 r h1⟩
 have risS:Bl ((0,1) :: (zq++[rl])):=by
  refine List.pairwise_cons.mpr ⟨fun r hr=>?_,List.pairwise_append.mpr ⟨ris,List.pairwise_singleton _ _,fun r hr q hq'=>?_⟩⟩
  ·rcases List.mem_append.mp hr with h | h
   ·exact (pz r h).1
   ·rw [List.mem_singleton.mp h]
    exact di.mpr (by show 0 * rl.2 < rl.1 * 1;omega)
  ·rw [List.mem_singleton.mp hq']
   exact ge r (Bq.red (pz r hr).2.2).pos (pz r hr).1 (pz r hr).2.1
 have bS:∀ r∈zq++[rl],Bq 360 6 r:=fun r hr=>by
  rcases List.mem_append.mp hr with h | h
  ·exact Bq.mono (pz r h).2.2 ⟨60,by decide⟩ (by decide)
  ·rw [List.mem_singleton.mp h];exact bl
 have lS:(zq++[rl]).length≤10:=by rw [List.length_append];show zq.length+1≤10;omega
 have lS1:1≤(zq++[rl]).length:=by rw [List.length_append];show 1≤zq.length+1;omega
 generalize zq++[rl]=SS at al10 risS bS lS lS1
 generalize yq++[vl]=xS at al10 ls10
 have lxS:=al10.len
 refine⟨pu31,rfl,⟨_,aW.of ls10⟩,eW (K:=K) (a:=pu31) (xs:=xS) (fun i σ H'=>∃ (x9 x10:Option V) (vs:V) (sl:R) (ys:List V) (rows:List (R×R)),σ=[some (.ref t₁),some (.ref kl),some v,some (.int ru1),some (.ref Dc),some vl,some vp,some vs,some (.ref pu29),x9,x10]/\(∀ b o,b≠t₁->H b=some o->H' b=some o)/\au K Hu31 H'/\bG K H' t₁ s₁/\H' pu31=some (.lst xS)/\H' pu29=some (.lst ys)/\bU (fu K H') ys rows/\rows.map (·.1)=(0,1) :: SS.take i/\(∀ r∈rows,Bq 2160 (2+252 * i) r.2)/\RV K H' vs sl/\Bq 6 (3+2 * i) sl/\0≤sl.1/\xI rows sl) ⟨_,_,.ref pu26,sl0,_,_,rfl,S0.keep,au.refl _ _,tp,ls10,hlr,alr,rfl,(fun r hr=>by rw [List.mem_singleton.mp hr];exact bp),rsl,bsl,nsl,v7 _ _⟩ (fun i σ H' _ ⟨_,_,_,_,_,_,_,_,_,_,q,_⟩=>aW.of q) ?_ ?_⟩
 ·rintro i x σ HI hx ⟨x9,x10,vs,sl,ys,rows,rfl,kpI,tI,TI,l10,hrI,alI,mapI,pwI,rvs,bqs,nns,slk⟩
  obtain⟨z,hz0,rvz0⟩:=al10.at hx
  have hil:i < xS.length:=(List.getElem?_eq_some_iff.mp hx).1
  have rvz:=rvz0.mono tI
  have bz:=bS z (List.mem_of_getElem? hz0)
  have lrow:rows.length=i+1:=by
   have:=congrArg List.length mapI
   rw [List.length_map,List.length_cons,List.length_take] at this
   omega
  obtain⟨xl,rw0,hlast,hrl,⟨pr,yx,yy,rfl,hSr,⟨px,rfl,hpx⟩,rvy⟩,_⟩:=alI.last (n:=i) lrow
  have mrl:=List.mem_of_getElem? hrl
  have bsp:Bq 360 6 rw0.1:=by
   have:rw0.1∈(0,1) :: SS.take i:=by rw [← mapI];exact List.mem_map_of_mem mrl
   rcases List.mem_cons.mp this with e | e
   ·rw [e];exact⟨by decide,by decide,⟨360,by decide⟩,by decide⟩
   ·exact bS _ (List.mem_of_mem_take e)
  have bpw:=pwI rw0 mrl
  have hlt:av rw0.1 z=true:=by
   have e1:((0,1) :: SS)[i]?=some rw0.1:=by
    have e:=congrArg (fun l=>l[i]?) mapI
    rw [List.getElem?_map,hrl] at e
    have e':some rw0.1=((0,1) :: SS.take i)[i]?:=e
    rw [e']
    cases i with
    | zero=>rfl
    | succ j=>rw [List.getElem?_cons_succ,List.getElem?_cons_succ,List.getElem?_take_of_lt (by omega)]
   have e2:((0,1) :: SS)[i+1]?=some z:=by rw [List.getElem?_cons_succ];exact hz0
   obtain⟨h1,e1'⟩:=List.getElem?_eq_some_iff.mp e1
   obtain⟨h2,e2'⟩:=List.getElem?_eq_some_iff.mp e2
   have:=List.pairwise_iff_getElem.mp risS i (i+1) h1 h2 (by omega)
   rw [e1',e2'] at this
   exact this
  refine⟨_,rfl,_,rfl,_,rfl,pu29,_,_,_,rfl,rfl,aW.of hrI,hlast,pr,_,_,_,rfl,rfl,hSr,rfl,px,_,_,_,rfl,rfl,hpx,rfl,_,rfl,_,rfl,_,rfl,pu29,_,_,_,rfl,rfl,aW.of hrI,hlast,pr,_,_,_,rfl,rfl,hSr,rfl,px,_,_,_,rfl,rfl,hpx,rfl,cY,fun pn hpn=>?_⟩
  have i9:i≤9:=by omega
  have wz:Wf 98 z:=bz.wf (by decide) (by decide) (by decide)
  have bn:=bsp.neg
  have bqs':Bq 6 21 sl:=bqs.mono ⟨1,by decide⟩ (by omega)
  have wsl:Wf 98 sl:=bqs'.wf (by decide) (by decide) (by decide)
  have wpw:Wf 98 rw0.2:=(bpw.mono (D':=2160) (N':=2522) ⟨1,by decide⟩ (by omega)).wf (by decide) (by decide) (by decide)
  have s1:=aj hpn (.tup [.int (-rw0.1.1),.int rw0.1.2])
  have rn:RV K (ax HI pn (.tup [.int (-rw0.1.1),.int rw0.1.2])) (.ref pn) (-rw0.1.1,rw0.1.2):=RV.of ah
  generalize ax HI pn (.tup [.int (-rw0.1.1),.int rw0.1.2])=H1 at s1 rn ⊢
  refine⟨x,.ref pn,z,(-rw0.1.1,rw0.1.2),98,98,rfl,rvz.mono (au.same s1),rn,wz,bn.wf (by decide) (by decide) (by decide),by decide,fun p2 h2=>?_⟩
  have bst:Bq 360 12 (aH z (-rw0.1.1,rw0.1.2)):=Bq.plus (by decide) bz bn
  have sk2:=xI.snoc lrow hrl slk bsp.red bpw.red bqs' nns bz.red hlt
  generalize aH z (-rw0.1.1,rw0.1.2)=stp at bst sk2 ⊢
  have s2:=aj h2 (.tup [.int stp.1,.int stp.2])
  have r2:RV K (ax H1 p2 (.tup [.int stp.1,.int stp.2])) (.ref p2) stp:=RV.of ah
  generalize ax H1 p2 (.tup [.int stp.1,.int stp.2])=H2 at s2 r2 ⊢
  have s12:=s1.trans s2
  have t12:=au.same (K:=K) s12
  refine⟨_,rfl,.inl ⟨rfl,_,aW.of (s12 _ _ hrI)⟩,_,rfl,_,rfl,_,rfl,pu29,_,_,_,rfl,rfl,aW.of (s12 _ _ hrI),hlast,pr,_,_,_,rfl,rfl,t12 _ _ hSr,rfl,_,rfl,_,rfl,vs,.ref p2,sl,stp,98,98,rfl,rvs.mono t12,r2,wsl,bst.wf (by decide) (by decide) (by decide),by decide,fun p3 h3=>?_⟩
  have bt:Bq 2160 252 (ar sl stp):=(Bq.times bqs' bst).mono ⟨1,by decide⟩ (by decide)
  generalize ar sl stp=tm at bt sk2 ⊢
  have s3:=aj h3 (.tup [.int tm.1,.int tm.2])
  have r3:RV K (ax H2 p3 (.tup [.int tm.1,.int tm.2])) (.ref p3) tm:=RV.of ah
  generalize ax H2 p3 (.tup [.int tm.1,.int tm.2])=H3 at s3 r3 ⊢
  have s13:=s12.trans s3
  refine⟨yy,.ref p3,rw0.2,tm,98,98,rfl,rvy.mono (au.same s13),r3,wpw,bt.wf (by decide) (by decide) (by decide),by decide,fun p4 h4=>?_⟩
  have bp4:Bq 2160 (2+252 * (i+1)) (aH rw0.2 tm):=(Bq.plus (by decide) bpw bt).mono ⟨1,by decide⟩ (by omega)
  generalize aH rw0.2 tm=np at bp4 sk2 ⊢
  have s4:=aj h4 (.tup [.int np.1,.int np.2])
  have r4:RV K (ax H3 p4 (.tup [.int np.1,.int np.2])) (.ref p4) np:=RV.of ah
  generalize ax H3 p4 (.tup [.int np.1,.int np.2])=H4 at s4 r4 ⊢
  have s14:=s13.trans s4
  refine⟨cY,fun p5 h5=>?_⟩
  have s5:=aj h5 (.tup [x,.ref p4])
  have s15:=s14.trans s5
  have row5:fu K (ax H4 p5 (.tup [x,.ref p4])) (.ref p5) (z,np):=⟨p5,x,.ref p4,rfl,bh.of ah,rvz.mono (au.same s15),r4.mono (au.same s5)⟩
  generalize ax H4 p5 (.tup [x,.ref p4])=H5 at s15 row5 ⊢
  have hr5:=s15 _ _ hrI
  have lyI:=alI.len
  refine⟨pu29,ys,_,rfl,rfl,hr5,aZ (by omega),?_⟩
  have tu:=au.up (K:=K) hr5 (ys++[.ref p5])
  have T6:=(TI.same s15).upl nu29 off (.lst (ys++[.ref p5]))
  have kp6:∀ b o,b≠t₁->H b=some o->ax H5 pu29 (.lst (ys++[.ref p5])) b=some o:=fun b o nb q=>by rw [aD (aB q hlr0)];exact s15 _ _ (kpI b o nb q)
  have l106:ax H5 pu29 (.lst (ys++[.ref p5])) pu31=some (.lst xS):=by rw [aD (Ne.symm nlrp)];exact s15 _ _ l10
  have hr6:ax H5 pu29 (.lst (ys++[.ref p5])) pu29=some (.lst (ys++[.ref p5])):=ah
  have t56:=(au.same (K:=K) s15).trans tu
  have al6:=(alI.mono fun _ _ q=>q.mono t56).snoc (row5.mono tu)
  have rvs6:=rvs.mono t56
  have t06:=tI.trans t56
  generalize ax H5 pu29 (.lst (ys++[.ref p5]))=H6 at T6 kp6 l106 hr6 al6 rvs6 t06 ⊢
  refine⟨_,rfl,_,rfl,t₁,s₁,3,rfl,T6,by decide,by decide,fun ra za a1 b1 T7=>?_⟩
  have S7:=bo.up (ys:=za) T6.lst.choose_spec
  generalize ax H6 t₁ (.lst za)=H7 at T7 S7 ⊢
  refine⟨_,rfl,t₁,s₁,3,rfl,T7,by decide,by decide,fun rb zb a2 b2 T8=>?_⟩
  have S8:=S7.trans (bo.up (ys:=zb) T7.lst.choose_spec)
  generalize ax H7 t₁ (.lst zb)=H8 at T8 S8 ⊢
  refine⟨_,_,rfl,rfl,ra,1+rb,rfl,by omega,bj (n:=3) (by show (1+rb).natAbs < 8;omega) (by decide),fun p9 h9=>?_⟩
  have bm:Bq 6 2 (df ra (1+rb)):=by
   refine iQ (by omega) ?_ (by omega)
   rcases (show rb=0∨rb=1∨rb=2 by omega) with q | q | q <;> rw [q]
   ·exact⟨6,by decide⟩
   ·exact⟨3,by decide⟩
   ·exact⟨2,by decide⟩
  have nm:0≤(df ra (1+rb)).1:=nU (by omega)
  generalize df ra (1+rb)=mr at bm nm ⊢
  have s9:=aj h9 (.tup [.int mr.1,.int mr.2])
  have r9:RV K (ax H8 p9 (.tup [.int mr.1,.int mr.2])) (.ref p9) mr:=RV.of ah
  have T9:=T8.same s9
  have S9:=S8.trans (.same s9 T8.lst)
  generalize ax H8 p9 (.tup [.int mr.1,.int mr.2])=H9 at s9 r9 T9 S9 ⊢
  refine⟨vs,.ref p9,sl,mr,98,98,rfl,rvs6.mono (au.step S9),r9,wsl,bm.wf (by decide) (by decide) (by decide),by decide,fun pa ha=>?_⟩
  have bs2:Bq 6 (3+2 * (i+1)) (aH sl mr):=(Bq.plus (by decide) bqs bm).mono ⟨1,by decide⟩ (by omega)
  have sa:=aj ha (.tup [.int (aH sl mr).1,.int (aH sl mr).2])
  have SA:=S9.trans (.same sa T9.lst)
  have tA:=au.step (K:=K) SA
  refine⟨_,_,.ref pa,aH sl mr,_,_,rfl,fun b o nb q=>SA.keep _ _ nb (kp6 b o nb q),t06.trans tA,T9.same sa,SA.keep _ _ nu31 l106,SA.keep _ _ nu29 hr6,al6.mono fun _ _ q=>q.mono tA,?_,fun r hr=>?_,RV.of ah,bs2,oS bqs.red bm.red nns nm,sk2.up (by rw [bA bqs.pos bm.pos];have:=(jd bm.pos).mpr nm;grind)⟩
  ·rw [List.map_append,mapI,List.take_add_one,hz0]
   rfl
  ·rcases List.mem_append.mp hr with h | h
   ·exact (pwI r h).mono ⟨1,by decide⟩ (by omega)
   ·rw [List.mem_singleton.mp h];exact bp4
 ·rintro σ HI ⟨x9,x10,vs,sl,ys,rows,rfl,kpI,tI,TI,l10,hrI,alI,mapI,pwI,rvs,bqs,nns,slk⟩
  refine⟨_,rfl,pu29,_,rfl,.inl ⟨aW.of hrI,fun pt hpt=>?_⟩⟩
  have st:=aj hpt (.tup ys)
  have hpt2:bh K (ax HI pt (.tup ys)) pt ys:=bh.of ah
  have alt:=alI.mono fun _ _ q=>q.mono (au.same st)
  have TT:=TI.same st
  generalize ax HI pt (.tup ys)=HT at st hpt2 alt TT ⊢
  refine⟨cY,fun pu hpu=>?_⟩
  have su:=aj hpu (.tup [.str (Str.ofString "table"),.ref pt])
  have stu:=st.trans su
  have lrow:rows.length=SS.length+1:=by
   have:=congrArg List.length mapI
   rw [List.length_map,List.length_cons,List.length_take] at this
   omega
  rw [List.take_of_length_le (by omega)] at mapI
  have inc:CS rows:=by
   have:=risS
   rw [← mapI] at this
   exact List.pairwise_map.mp this
  have b360:∀ r∈rows,Bq 360 6 r.1:=fun r hr=>by
   have:r.1∈(0,1) :: SS:=by rw [← mapI];exact List.mem_map_of_mem hr
   rcases List.mem_cons.mp this with e | e
   ·rw [e];exact⟨by decide,by decide,⟨360,by decide⟩,by decide⟩
   ·exact bS _ e
  refine k (.ref pu) (.tab rows) _ ⟨fun b o nb q=>stu _ _ (kpI b o nb q),tp0,(TT.same su).lst⟩ (TT.same su) ⟨pu,pt,ys,rfl,bh.of ah,au.same (K:=K) su _ _ hpt2,alt.mono fun _ _ q=>q.mono (au.same su)⟩ ⟨by omega,by omega,inc,?_,fun r hr=>?_,fun r hr=>?_⟩ (fun r hr=>⟨b360 r hr,(pwI r hr).mono ⟨1,by decide⟩ (by have:=al10.len;omega)⟩) ⟨slk.1.1,slk.2⟩
  ·cases rows with
   | nil=>cases lrow
   | cons r0 rr=>
    obtain⟨ra,rb⟩:=r0
    have e:ra=(0,1):=(List.cons.inj mapI).1
    exact⟨rb,by rw [e];rfl⟩
  ·exact (b360 r hr).mono ⟨16174233075000000,by decide⟩ (by decide)
  ·exact (pwI r hr).mono ⟨2695705512500000 * 5822723907000000000,by decide⟩ (by have:=al10.len;show 2+252 * xS.length≤1180591620717411303424;omega)
theorem Aw (T:fC K mg t):bO P w K mg base eF 4 t.a_Q17 t.d_Q17 ["_law_works_here", "_law_rule_here", "_law_hands", "_law_prices_here"] (kK K):=by
 refine T.F_Q17.ok fm (fun vs H Q E h=>?_) (fun cdv A outer s H vs Q E hr h=>?_)
 ·obtain⟨_,_,_,_,_,_,_,_,rfl,_⟩:=h;rfl
 obtain⟨v,w,ws,rl,hh,pp,ys,prs,rfl,hv,hn,okw,hw,ok,sm,rk,hP,alp,lpw,okp,h9,k⟩:=h
 refine eg.ok (ag (cy 4 fm.nd (bP (uE T) hr T.m_Q15 T.F_Q15.kp T.b_Q15 (ac (qv 1) (ac (aI (ac ae (ac ae af ao) ao)) af aG) ad)))
   (ag (cy 5 fm.nd (bP (uB T) hr T.m_Q28 T.F_Q28.kp T.b_Q28 (ac (dU (N':=["_law_k", "_law_prices_here", "_law_works_here"]) (src:=[none,some 3,some 0]) rfl (by exact (cK rfl T.z_range (ac (aF aR (by rfl) T.z_len boot_len (ac (qv 0) af ad)) af az))) (fun _ _ _ _ _=>(by exact (by exact aN (i:=0) (by show List.Nodup (["_law_k", "_law_prices_here", "_law_works_here"]:List Str);decide +kernel) (by exact rfl) (by first | exact Or.inl rfl | exact Or.inr rfl)))) (fun _ _ _ _ _=>gs) (fun _ _ _ _ _=>(by exact (by exact (cJ (fK T) (by exact hr.mono (by decide)) (by exact rfl) T.m_Q27 T.F_Q27.kp T.b_Q27 (by exact .nil) (by exact eN) (ac (by exact (cE (bH (K:=K) (by exact rfl)) (by exact (cE (bH (K:=K) (by exact rfl)) (by exact (qv 1)) (by exact (qv 0)) (by exact fun _ _=>rfl))) ae (by exact fun _ _=>rfl))) (ac (by exact (cE (bH (K:=K) (by exact rfl)) (by exact (cE (bH (K:=K) (by exact rfl)) (by exact (qv 2)) (by exact (qv 0)) (by exact fun _ _=>rfl))) ae (by exact fun _ _=>rfl))) af aw) aw))))) (by exact⟨rfl,rfl,rfl,rfl,⟨rfl,rfl,rfl,rfl,trivial⟩⟩) rfl (by decide +kernel) rfl (by decide +kernel) (by exact cr rfl ⟨rfl,⟨rfl,trivial⟩⟩)) af gk)))
   (ag (cy 6 fm.nd (cu af))
   (ag (cM PassesOwn.never rfl (k8 (qv 3)) (iD rfl (cD (aN (i:=7) fm.nd rfl (by first | exact Or.inl rfl | exact Or.inr rfl)) (cD (aN (i:=8) fm.nd rfl (by first | exact Or.inl rfl | exact Or.inr rfl)) gw)))
   (aq (fb (iL PySem.F.plainAttrs_list PySem.F.slot_list_append PySem.F.type_list_append dI (qv 6) (ac (bP (de T) hr T.m_Q26 T.F_Q26.kp T.b_Q26 (ac (bP (uE T) hr T.m_Q15 T.F_Q15.kp T.b_Q15 (ac (qv 1) (ac (qv 7) af ad) ad)) (ac (bP (fK T) hr T.m_Q27 T.F_Q27.kp T.b_Q27 (ac (aI (ac (dS cP (bf ap (qv 8) ae)) (ac (bf ap (qv 8) ae) af aw) eB)) (ac (qv 7) af ad) aG)) af az) az)) af az)))))
   (ag (cM PassesOwn.never rfl (cK rfl T.z_range (ac ae af ao)) (aN (i:=9) fm.nd rfl (by first | exact Or.inl rfl | exact Or.inr rfl))
   (ag (gt (i:=10) (N':=["_law_k", "_law_rests", "_law_turn", "_law_works_here"]) (src:=[none,some 6,some 9,some 0]) fm.nd rfl (by first | exact Or.inl rfl | exact Or.inr rfl) rfl (by exact (cK rfl T.z_range (ac (aF aR (by rfl) T.z_len boot_len (ac (qv 0) af ad)) af az))) (fun _ _ _ _ _=>(by exact (by exact aN (i:=0) (by show List.Nodup (["_law_k", "_law_rests", "_law_turn", "_law_works_here"]:List Str);decide +kernel) (by exact rfl) (by first | exact Or.inl rfl | exact Or.inr rfl)))) (fun _ _ _ _ _=>(e9 (tW oW oW (by exact (cE (bH (K:=K) (by exact rfl)) (by exact (cE (bH (K:=K) (by exact rfl)) (by exact (qv 3)) (by exact (qv 0)) (by exact fun _ _=>rfl))) ae (by exact fun _ _=>rfl))) (by exact (qv 2)) (by exact (cE (bH (K:=K) (by exact rfl)) (by exact (cE (bH (K:=K) (by exact rfl)) (by exact (qv 3)) (by exact (qv 0)) (by exact fun _ _=>rfl))) ae (by exact fun _ _=>rfl)))))) (fun _ _ _ _ _=>(by exact (by exact (cE (mN (K:=K) (by exact rfl)) (by exact (qv 1)) (by exact (qv 0)) (by exact fun _ _=>rfl))))) (by exact⟨rfl,rfl,rfl,rfl,⟨rfl,rfl,rfl,rfl,⟨rfl,rfl,rfl,rfl,trivial⟩⟩⟩) rfl (by decide +kernel) rfl (by decide +kernel) (by exact cr rfl ⟨rfl,⟨rfl,⟨rfl,trivial⟩⟩⟩))
   (ag (cy 10 fm.nd (fz iX (bP (Ci T) hr T.m_Q1 T.F_Q1.kp T.b_Q1 (ac (aK ju (qv 10) (aK oU (cu (ac (qv 4) af ad)) (qv 2))) af be)) gv (gu (qv 2))))
   (aq (cy 5 fm.nd (bP (de T) hr T.m_Q26 T.F_Q26.kp T.b_Q26 (ac (qv 5) (ac (bP (uB T) hr T.m_Q28 T.F_Q28.kp T.b_Q28 (ac (qv 10) af ad)) af az) ad)))))))
   (aq (aJ (qv 5)))))))) ?_
 extract_lets +lift
 try dsimp -zeta -zetaDelta only [Cx.nox,Cx.wish,bX]
 have lyp:=alp.len
 obtain⟨p,xs,rfl,hp,al⟩:=hv
 have hlen:=al.len
 have bp0:=eD ok rk sm cF.1 cF.ok (dH ok)
 refine⟨_,rfl,cY,fun p1 hp1=>?_⟩
 have s1:=aj hp1 (.tup [.int 0,.int 1])
 have r1:RV K (ax H p1 (.tup [.int 0,.int 1])) (.ref p1) (0,1):=RV.of ah
 generalize ax H p1 (.tup [.int 0,.int 1])=H1 at s1 r1 ⊢
 refine⟨w,.ref p1,rl,(0,1),rfl,hw.mono (au.same s1),ok,r1,cF.ok,dH ok,fun us H2 s2 r2=>?_⟩
 have s12:=s1.trans s2
 have t2:=au.same (K:=K) s12
 refine⟨_,rfl,p,_,rfl,.inr (t2 _ _ hp),_,rfl,by omega,by omega,fun D hD=>mV (K:=K) (P:=RV K) (f:=fun i=>ar (fR prs i).2 (ko ws i)) (p:=fun _=>true) (fun _ _ _ _ t z=>z.mono t) hD (by omega) (fun i H' hi s' R E kR kE=>?_) fun HA qs sA hA aA=>?_⟩
 ·rw [Int.zero_add]
  rw [Int.toNat_natCast] at hi
  obtain⟨xw,hxw⟩:∃ y,xs[i]?=some y:=⟨_,List.getElem?_eq_getElem hi⟩
  obtain⟨xr,hxr⟩:∃ y,ys[i]?=some y:=⟨_,List.getElem?_eq_getElem (by omega)⟩
  obtain⟨wk,hwk,pw,xa,rfl,hSw,ra⟩:=al.at hxw
  obtain⟨r,hr',pr,a,b,rfl,hSr,rva,rvb⟩:=alp.at hxr
  have eR:ar (fR prs i).2 (ko ws i)=ar r.2 wk.2.2:=by rw [show fR prs i=r from dC cU hr',show ko ws i=wk.2.2 by unfold ko;rw [dC pU hwk]]
  have pk:=okp r (List.mem_of_getElem? hr')
  have bam:=vy (okw wk (List.mem_of_getElem? hwk)).am
  have t':=t2.trans (au.same (K:=K) s')
  refine⟨iK.set rfl,_,rfl,_,rfl,pp,_,_,_,rfl,rfl,t' _ _ hP,bM hxr,pr,_,_,_,rfl,rfl,t' _ _ hSr,rfl,_,rfl,_,rfl,p,_,_,_,rfl,rfl,t' _ _ hp,bM hxw,pw,_,_,_,rfl,rfl,t' _ _ hSw,rfl,b,xa,r.2,wk.2.2,140,20,rfl,rvb.mono t',ra.mono t',pk.wf,bam.wf (by decide) (by decide) (by decide),by decide,fun p5 hp5=>?_⟩
  exact kR rfl _ _ (aj hp5 _) (by rw [eR];exact RV.of ah)
 have eM:((List.range (xs.length:Int).toNat).filter fun _=>true).map (fun i=>ar (fR prs i).2 (ko ws i))=(List.range ws.length).map fun i=>ar (fR prs i).2 (ko ws i):=by
  rw [List.filter_eq_self.mpr (fun _ _=>rfl),Int.toNat_natCast,hlen]
 rw [eM] at aA
 have bqs:∀ r∈(List.range ws.length).map (fun i=>ar (fR prs i).2 (ko ws i)),Bq DA 31104 r:=fun r hr=>by
  obtain⟨i,hi,rfl⟩:=List.mem_map.mp hr
  have hi':=List.mem_range.mp hi
  exact (Bq.times (fH okp (i:=i) (by omega)).bq (lG okw hi')).mono (by decide) (by decide)
 have vls:gA ((List.range ws.length).map fun i=>ar (fR prs i).2 (ko ws i))=sQ (fun i=>val (fR prs i).2 * val (ko ws i)) (List.range ws.length):=by
  rw [iT,kY]
  exact kZ fun i hi=>bw (fH okp (i:=i) (by have:=List.mem_range.mp hi;omega)).bq.pos (lG okw (List.mem_range.mp hi)).pos
 have lsm:((List.range ws.length).map fun i=>ar (fR prs i).2 (ko ws i)).length≤9:=by rw [List.length_map,List.length_range];exact hn
 generalize (List.range ws.length).map (fun i=>ar (fR prs i).2 (ko ws i))=gas at aA bqs vls lsm
 refine⟨D,qs,gas,DA,31104,70,rfl,aW.of hA,aA,bqs,by decide,by decide,by decide,by omega,by decide,fun uf HB sB rB=>?_⟩
 have bB:Bq DA 300000 (eY gas):=(kG (by decide) bqs).mono (Nat.dvd_refl _) (by have:31104 * gas.length≤31104 * 9:=Nat.mul_le_mul_left _ lsm;omega)
 have vB0:val (eY gas)=sQ (fun i=>val (fR prs i).2 * val (ko ws i)) (List.range ws.length):=by rw [(iU fun r hr=>(bqs r hr).red).2,vls]
 generalize eY gas=fd at rB bB vB0
 have s1B:=(s12.trans sA).trans sB
 have rs_:=r2.mono (au.same (sA.trans sB))
 clear hA aA bqs vls lsm sA sB r1 s1 s2 r2 s12 t2
 refine⟨(by show 0≤sizeLine;exact Nat.zero_le _),fun lr hlr=>?_⟩
 have s3:=s1B.trans (aj hlr (.lst []))
 have t3:=au.same (K:=K) (aj hlr (.lst []))
 have hq3:ax HB lr (.lst []) lr=some (.lst []):=ah
 have hlrH:H lr=none:=by
  cases e:H lr with
  | none=>rfl
  | some u=>rw [s1B _ _ e] at hlr;cases hlr
 have rs3:=rs_.mono t3
 have rB3:=rB.mono t3
 generalize ax HB lr (.lst [])=H3 at s3 hq3 rs3 rB3 ⊢
 refine⟨_,rfl,pp,rfl,⟨_,au.same (K:=K) s3 _ _ hP⟩,pD (K:=K) (a:=pp) (xs:=ys) (fun i σ H'=>∃ (x7 x8:Option V) (qs:List V),σ=[some (.ref p),some w,some (.int hh),some (.ref pp),some us,some uf,some (.ref lr),x7,x8,none,none]/\aO H H'/\au K H3 H'/\H' lr=some (.lst qs)/\bU (RV K H') qs ((List.range i).map fun j=>dQ rl (fR prs j))) ⟨none,none,[],rfl,s3,au.refl _ _,hq3,.nil⟩ (fun i σ H' _ ⟨_,_,_,_,s',_⟩=>au.same (K:=K) s' _ _ hP) ?_ ?_⟩
 ·rintro i x σ HI hx ⟨x7,x8,qs,rfl,sI,tI,hq,alq⟩
  obtain⟨r,hr',pr,a,b,rfl,hSr,rva,rvb⟩:=alp.at hx
  have pk:=okp r (List.mem_of_getElem? hr')
  have t':=au.same (K:=K) sI
  have bpw:=eD ok rk sm pk.sp.1 pk.sp.ok pk.bl
  have btm:=Bq.times pk.bq.neg pk.sp.1
  have eS:=ww ok rk sm pk
  have bsv:=iC ok rk sm pk
  have ePr:fR prs i=r:=dC cU hr'
  refine⟨pr,_,rfl,t' _ _ hSr,rfl,_,_,rfl,_,_,rfl,rfl,?_⟩
  refine⟨_,rfl,.inl ⟨rfl,_,aW.of hq⟩,_,rfl,_,rfl,w,a,rl,r.1,rfl,hw.mono t',ok,rva.mono t',pk.sp.ok,pk.bl,fun u2 H2 s2 r2=>?_⟩
  have t2:=t'.trans (au.same (K:=K) s2)
  obtain⟨pb,rfl,hSb⟩:=id (rvb.mono t2)
  refine⟨_,rfl,pb,_,_,_,rfl,rfl,hSb,rfl,_,rfl,_,rfl,pb,_,_,_,rfl,rfl,hSb,rfl,cY,fun p4 hp4=>?_⟩
  have s4:=aj hp4 (.tup [.int (-r.2.1),.int r.2.2])
  have r4:RV K (ax H2 p4 (.tup [.int (-r.2.1),.int r.2.2])) (.ref p4) (-r.2.1,r.2.2):=RV.of ah
  generalize ax H2 p4 (.tup [.int (-r.2.1),.int r.2.2])=H4 at s4 r4 ⊢
  refine⟨_,rfl,.ref p4,a,(-r.2.1,r.2.2),r.1,140,98,rfl,r4,(rva.mono t2).mono (au.same s4),pk.bq.neg.wf (by decide) (by decide) (by decide),pk.sp.wf,by decide,fun p5 hp5=>?_⟩
  generalize ar (-r.2.1,r.2.2) r.1=tm at btm eS ⊢
  have s5:=aj hp5 (.tup [.int tm.1,.int tm.2])
  have r5:RV K (ax H4 p5 (.tup [.int tm.1,.int tm.2])) (.ref p5) tm:=RV.of ah
  generalize ax H4 p5 (.tup [.int tm.1,.int tm.2])=H5 at s5 r5 ⊢
  refine⟨u2,.ref p5,dz rl r.1,tm,50,60,rfl,r2.mono (au.same (s4.trans s5)),r5,bpw.wf (by decide) (by decide) (by decide),btm.wf (by decide) (by decide) (by decide),by decide,fun p6 hp6=>?_⟩
  rw [eS]
  generalize hsv:dQ rl r=sv at bsv ⊢
  have s6:=aj hp6 (.tup [.int sv.1,.int sv.2])
  have r6:RV K (ax H5 p6 (.tup [.int sv.1,.int sv.2])) (.ref p6) sv:=RV.of ah
  have s26:=((s2.trans s4).trans s5).trans s6
  have hq6:=s26 _ _ hq
  have lq:=alq.len
  rw [List.length_map,List.length_range] at lq
  have li:i < ys.length:=(List.getElem?_eq_some_iff.mp hx).1
  refine⟨lr,qs,_,rfl,rfl,hq6,aZ (by omega),?_⟩
  have tu:=au.up (K:=K) hq6 (qs++[.ref p6])
  have tSU:=(au.same (K:=K) s26).trans tu
  refine⟨_,_,_,rfl,fun c o e=>?_,tI.trans tSU,ah,?_⟩
  ·rw [aD (aB e hlrH)];exact s26 _ _ (sI _ _ e)
  ·rw [List.range_succ,List.map_append]
   show bU _ _ (_++[dQ rl (fR prs i)])
   rw [ePr,hsv]
   exact (alq.mono fun _ _ z=>z.mono tSU).snoc (r6.mono tu)
 ·rintro σ HI ⟨x7,x8,qs,rfl,sI,tI,hq,alq⟩
  have rsI:=rs3.mono tI
  have rBI:=rB3.mono tI
  rw [lyp.trans lpw] at alq
  have bsv:∀ j,j < ws.length->Bq DS 18552 (dQ rl (fR prs j)):=fun j hj=>iC ok rk sm (fH okp (by omega))
  refine⟨24,rfl,by decide,by decide,dM (lo:=0) (n:=24) (fun i σ H'=>∃ (x9 x10:Option V) (u:V) (x:R),σ=[some (.ref p),some w,some (.int hh),some (.ref pp),some us,some u,some (.ref lr),x7,x8,x9,x10]/\aO HI H'/\RV K H' u x/\Bq DA (300000+200000 * i) x/\∀ ms,kw (prs.map (·.2)) ms->val x=vB ws rl hh prs ms i) ⟨none,none,uf,fd,rfl,aO.refl _,rBI,bB,fun ms _=>by rw [vB0];unfold vB;show _=_+(0:Rat);grind⟩ ?_ ?_⟩
  ·rintro i σ H2 hi ⟨x9,x10,u,x,rfl,sm2,ru,bx,vx⟩
   rw [Int.zero_add]
   have s02:=sI.trans sm2
   have t2:=au.same (K:=K) s02
   have tI2:=au.same (K:=K) sm2
   refine⟨_,rfl,p,_,rfl,.inr (t2 _ _ hp),_,rfl,by omega,by omega,fun D hD=>mV (K:=K) (P:=RV K) (f:=fun j=>dQ rl (fR prs j)) (p:=fun j=>lK (ws.getD j pU) i) (fun _ _ _ _ t z=>z.mono t) hD (by omega) (fun j H' hj s' R E kR kE=>?_) fun HA zs0 sA hA aA=>?_⟩
   ·rw [Int.zero_add]
    rw [Int.toNat_natCast] at hj
    obtain⟨xw,hxw⟩:∃ y,xs[j]?=some y:=⟨_,List.getElem?_eq_getElem hj⟩
    obtain⟨xq,hxq⟩:∃ y,qs[j]?=some y:=⟨_,List.getElem?_eq_getElem (by have:=alq.len;rw [List.length_map,List.length_range] at this;omega)⟩
    obtain⟨wk,hwk,pw,xa,rfl,hSw,ra⟩:=al.at hxw
    obtain⟨q,hq',rq⟩:=alq.at hxq
    have eq':q=dQ rl (fR prs j):=by
     rw [List.getElem?_map,List.getElem?_range (by omega)] at hq'
     exact (Option.some.inj hq').symm
    subst eq'
    rw [dC pU hwk] at kR kE
    have t':=t2.trans (au.same (K:=K) s')
    have tq:=tI2.trans (au.same (K:=K) s')
    have hl':=s' _ _ (sm2 _ _ hq)
    refine⟨iK.set rfl,_,rfl,_,rfl,p,_,_,_,rfl,rfl,t' _ _ hp,bM hxw,pw,_,_,_,rfl,rfl,t' _ _ hSw,rfl,_,rfl,_,_,rfl,rfl,_,rfl,?_⟩
    have kf:∀ b:Bool,lK wk i=b->(b=true->∀ v H'',aO H' H''->RV K H'' v (dQ rl (fR prs j))->R v H'')/\(b=false->∀ H'',aO H' H''->E H''):=fun b e=>⟨fun z=>kR (by rw [e,z]),fun z=>kE (by rw [e,z])⟩
    by_cases c:wk.1≤i
    ·refine dy (by omega) ?_
     refine⟨_,rfl,_,rfl,p,_,_,_,rfl,rfl,t' _ _ hp,bM hxw,pw,_,_,_,rfl,rfl,t' _ _ hSw,rfl,_,_,rfl,rfl,_,rfl,?_⟩
     by_cases c2:i≤wk.2.1
     ·refine dy (by omega) ⟨_,rfl,_,rfl,lr,_,_,_,rfl,rfl,aW.of hl',bM hxq,(kf true (by unfold lK;rw [decide_eq_true c,decide_eq_true c2];rfl)).1 rfl _ _ (aO.refl _) (rq.mono tq)⟩
     ·exact bY (by omega) ((kf false (by unfold lK;rw [decide_eq_true c,decide_eq_false c2];rfl)).2 rfl _ (aO.refl _))
    ·exact bY (by omega) ⟨_,rfl,(kf false (by unfold lK;rw [decide_eq_false c];rfl)).2 rfl _ (aO.refl _)⟩
   have eM:((List.range (xs.length:Int).toNat).filter fun j=>lK (ws.getD j pU) i).map (fun j=>dQ rl (fR prs j))=zt ws rl prs i:=by
    rw [Int.toNat_natCast,hlen];rfl
   rw [eM] at aA
   have bT:∀ r∈zt ws rl prs i++List.replicate hh (dz rl (0,1)),Bq DS 18552 r:=fun r hr=>by
    rcases List.mem_append.mp hr with h | h
    ·obtain⟨j,hj,rfl⟩:=List.mem_map.mp h
     exact bsv j (List.mem_range.mp (List.mem_filter.mp hj).1)
    ·rw [(List.mem_replicate.mp h).2]
     exact bp0.mono (by decide) (by decide)
   have lT:(zt ws rl prs i).length≤9:=by
    unfold zt
    rw [List.length_map]
    exact Nat.le_trans (List.length_filter_le _ _) (by rw [List.length_range];exact hn)
   have lz0:=aA.len
   have sIA:=sm2.trans sA
   have rsA:=rsI.mono (au.same sIA)
   have ruA:=ru.mono (au.same sA)
   refine⟨_,rfl,_,rfl,Bn,fun l1 hl1=>?_⟩
   have s1:=aj hl1 (.lst [us])
   refine⟨_,rfl,l1,us,hh,rfl,rfl,ah,by omega,fun l2 hl2=>?_⟩
   have s2:=aj hl2 (.lst (List.replicate hh us))
   have h2:ax (ax HA l1 (.lst [us])) l2 (.lst (List.replicate hh us)) l2=some (.lst (List.replicate hh us)):=ah
   have s12':=s1.trans s2
   generalize ax (ax HA l1 (.lst [us])) l2 (.lst (List.replicate hh us))=HC at s2 h2 s12' ⊢
   refine⟨D,l2,_,_,rfl,rfl,s12' _ _ hA,h2,Nat.le_trans (show _≤1000 by rw [List.length_replicate];omega) jb,fun l3 hl3=>?_⟩
   have s3':=s12'.trans (aj hl3 (.lst (zs0++List.replicate hh us)))
   have h3:ax HC l3 (.lst (zs0++List.replicate hh us)) l3=some (.lst (zs0++List.replicate hh us)):=ah
   generalize ax HC l3 (.lst (zs0++List.replicate hh us))=HD at s3' h3 ⊢
   have tD:=au.same (K:=K) s3'
   refine⟨l3,_,zt ws rl prs i++List.replicate hh (dz rl (0,1)),rfl,aW.of h3,(aA.mono fun _ _ z=>z.mono tD).join (bU.rep (rsA.mono tD) hh),(fun r hr=>(bT r hr).wf (by decide) (by decide) (by decide)),by rw [List.length_append,List.length_replicate];omega,fun l4 y4 z4 HE sE hl40 h4 al4 pm so=>?_⟩
   refine⟨_,rfl,_,rfl,l4,_,rfl,aW.of h4,fun l5 hl5=>?_⟩
   rw [i8]
   have s5:=(s3'.trans sE).trans (aj hl5 (.lst (y4.take hh)))
   have h5:ax HE l5 (.lst (y4.take hh)) l5=some (.lst (y4.take hh)):=ah
   have al5:=(bU.take hh al4).mono fun _ _ z=>z.mono (au.same (aj hl5 (.lst (y4.take hh))))
   generalize ax HE l5 (.lst (y4.take hh))=HF at s5 h5 al5 ⊢
   have bZ:∀ r∈z4.take hh,Bq DS 18552 r:=vV pm bT hh
   have lZ:(z4.take hh).length≤9:=by rw [List.length_take];omega
   have bS:Bq DA 200000 (eY (z4.take hh)):=(kG (by decide) bZ).mono (by decide) (by have:18552 * (z4.take hh).length≤18552 * 9:=Nat.mul_le_mul_left _ lZ;omega)
   have vS:∀ ms,kw (prs.map (·.2)) ms->val (eY (z4.take hh))=vT ws rl hh prs ms i:=fun ms fo=>by
    rw [(iU fun r hr=>(bZ r hr).red).2]
    exact rE ok rk sm okp lpw fo pm so fun r hr=>(bT r (pm.mem_iff.mp hr)).pos
   refine⟨_,rfl,_,rfl,l5,_,z4.take hh,DS,18552,70,rfl,aW.of h5,al5,bZ,by decide,by decide,by decide,by omega,by decide,fun u6 HG s6 r6=>?_⟩
   generalize eY (z4.take hh)=sz at bS vS r6
   have s56:=s5.trans s6
   have bx':Bq DA 5100000 x:=bx.mono (Nat.dvd_refl _) (by omega)
   refine⟨u,u6,x,sz,80,80,rfl,ruA.mono (au.same s56),r6,bx'.wf (by decide) (by decide) (by decide),bS.wf (by decide) (by decide) (by decide),by decide,fun p7 hp7=>?_⟩
   refine⟨_,_,.ref p7,aH x sz,rfl,(sIA.trans s56).trans (aj hp7 _),RV.of ah,(Bq.plus (by decide) bx bS).mono (Nat.dvd_refl _) (by omega),fun ms fo=>?_⟩
   rw [bA bx.pos bS.pos,vx ms fo,vS ms fo]
   unfold vB
   show _=_+(tU _ i+vT ws rl hh prs ms i)
   grind
  ·rintro σ H2 ⟨x9,x10,u,x,rfl,sm2,ru,bx,vx⟩
   exact⟨_,rfl,k u x H2 (sI.trans sm2) ru bx.red vx⟩
theorem Ao (T:fC K mg t) (hB:base.BuiltinsAt mg t.c_LT):bO P w K mg base eF 7 t.a_Q37 t.d_Q37 ["_law_script"] (kM K t.c_LT):=by
 refine T.F_Q37.ok fE (fun vs H Q E h=>?_) (fun cdv A outer s H vs Q E hr h=>?_)
 ·obtain⟨_,_,rfl,_⟩:=h;rfl
 obtain⟨a,ns,rfl,hS,hl,hT,k⟩:=h
 refine eg.ok (ag (cy 1 fE.nd (bP (Au T) hr T.m_Q20 T.F_Q20.kp T.b_Q20 (ac (qv 0) af ad)))
   (ag (cM PassesOwn.never rfl (cK rfl T.z_range (ac ae af ao)) (aN (i:=2) fE.nd rfl (by first | exact Or.inl rfl | exact Or.inr rfl))
   (ag (cy 3 fE.nd (bP (Ay T) hr T.m_Q14 T.F_Q14.kp T.b_Q14 (ac (qv 1) (ac (bP (bW T) hr T.m_Q21 T.F_Q21.kp T.b_Q21 (ac (qv 1) (ac ae af ao) ad)) af az) ad)))
   (ag (cy 4 fE.nd (cu (ac (aI (ac ae (ac ae af ao) ao)) (ac (aI (ac ae (ac ae af ao) ao)) (ac (aI (ac ae (ac ae af ao) ao)) af aG) aG) aG)))
   (ag (cy 5 fE.nd (bP (At T) hr T.m_Q24 T.F_Q24.kp T.b_Q24 (ac (qv 1) (ac (qv 4) (ac (bf bE (cu (ac (aI (ac ae (ac ae af ao) ao)) (ac (aI (ac ae (ac ae af ao) ao)) (ac (aI (ac ae (ac ae af ao) ao)) af aG) aG) aG)) (bP (bW T) hr T.m_Q21 T.F_Q21.kp T.b_Q21 (ac (qv 1) (ac ae af ao) ad))) af aw) ad) ad)))
   (ag (cy 6 fE.nd (bP (AC T) hr T.m_Q10 T.F_Q10.kp T.b_Q10 (ac (qv 1) (ac (qv 3) (ac (qv 5) (ac (qv 4) af ad) ad) ad) ad)))
   (ag (cy 7 fE.nd (bf bE (cu (ac ae (ac ae (ac ae (ac ae af ao) ao) ao) ao)) (bP (bW T) hr T.m_Q21 T.F_Q21.kp T.b_Q21 (ac (qv 1) (ac ae af ao) ad))))
   (ag (cy 8 fE.nd (aF (kg hr) (by rfl) T.z_repr boot_repr (ac (aI (ac (qv 3) (ac (qv 5) (ac (qv 6) af ad) ad) ad)) af aG)))
   (ag (bK (nL (cC (bP (Az T) hr T.m_Q13 T.F_Q13.kp T.b_Q13 (ac (bP (Aw T) hr T.m_Q17 T.F_Q17.kp T.b_Q17 (ac (qv 3) (ac (qv 5) (ac (qv 7) (ac (qv 6) af ad) ad) ad) ad)) (ac (cJ (Cc T hB) (hr.mono (by decide)) rfl T.m_Q7 T.F_Q7.kp T.b_Q7 .nil eN (ac (qv 3) (ac (qv 5) (ac (qv 7) (ac (qv 6) af ad) ad) ad) ad)) af az) az)))) (aq (aJ hX)) aP)
   (aq (bK (aS ia (aF (kg hr) (by rfl) T.z_repr boot_repr (ac (aI (ac (qv 3) (ac (qv 5) (ac (qv 6) af ad) ad) ad)) af aG)) (qv 8) (aQ _)) (aq (aJ hX)) aP))))))))))
   (aq (aJ hX)))) ?_
 extract_lets +lift
 try dsimp -zeta -zetaDelta only [Cx.nox,Cx.wish,bX]
 refine⟨_,rfl,a,ns,rfl,hS,hl,fun t₁ H1 s1 ht T1=>?_⟩
 refine⟨4,rfl,by decide,by decide,dM (lo:=0) (n:=4) (fun i σ H'=>∃ (x2 x3 x4 x5 x6 x7 x8:Option V),σ=[some (.ref a),some (.ref t₁),x2,x3,x4,x5,x6,x7,x8]/\bG K H' t₁ a/\TB H' t.c_LT) ⟨none,none,none,none,none,none,none,rfl,T1,qY s1 (.inl hT)⟩ ?_ ?_⟩
 ·rintro i₀ σ H2 hi ⟨x2,x3,x4,x5,x6,x7,x8,rfl,tp,tb⟩
  have S0:bo t₁ H2 H2:=⟨fun _ _ _ q=>q,tp.lst,tp.lst⟩
  have hd_:=tp.lst
  refine⟨_,rfl,_,rfl,t₁,a,9,rfl,tp,by decide,by decide,fun ru1 zu1 au1 bu1 Tu1=>?_⟩
  have Su1:=bo.up (ys:=zu1) tp.lst.choose_spec
  replace S0:=S0.trans Su1
  replace hd_:=Su1.tp'
  replace tp:=Tu1
  clear Tu1 Su1
  generalize ax H2 t₁ (.lst zu1)=Hu1 at S0 tp hd_ ⊢
  obtain⟨m,rfl⟩:=Int.eq_ofNat_of_zero_le au1
  refine⟨t₁,a,m,rfl,tp,by omega,fun vw ws HW SW TW wv lw okw=>?_⟩
  replace hd_:=SW.tp'
  replace S0:=S0.trans SW
  replace tp:=TW
  clear TW SW
  obtain⟨pw,xw,rfl,hW,alw⟩:=wv
  have lxw:=alw.len
  refine⟨cY,fun pu2 gu2=>?_⟩
  generalize hG:ax HW pu2 (.tup [.int 1,.int 3])=Hu2
  obtain⟨eu2,hu2,du2⟩:=eE hG gu2 tp.lst hd_
  obtain⟨S0,tp,hd_⟩:=d9 eu2 S0 tp hd_
  replace hW:=tS eu2 hW
  replace alw:=aM eu2 alw
  have rk0:RV K Hu2 (.ref pu2) (1,3):=RV.of hu2
  clear eu2 hu2 du2 hG
  refine⟨cY,fun pu3 gu3=>?_⟩
  generalize hG:ax Hu2 pu3 (.tup [.int 4,.int 3])=Hu3
  obtain⟨eu3,hu3,du3⟩:=eE hG gu3 tp.lst hd_
  obtain⟨S0,tp,hd_⟩:=d9 eu3 S0 tp hd_
  replace hW:=tS eu3 hW
  replace alw:=aM eu3 alw
  replace rk0:=rk0.mono (au.same eu3)
  have rk1:RV K Hu3 (.ref pu3) (4,3):=RV.of hu3
  clear eu3 hu3 du3 hG
  refine⟨cY,fun pu4 gu4=>?_⟩
  generalize hG:ax Hu3 pu4 (.tup [.int 9,.int 2])=Hu4
  obtain⟨eu4,hu4,du4⟩:=eE hG gu4 tp.lst hd_
  obtain⟨S0,tp,hd_⟩:=d9 eu4 S0 tp hd_
  replace hW:=tS eu4 hW
  replace alw:=aM eu4 alw
  replace rk0:=rk0.mono (au.same eu4)
  replace rk1:=rk1.mono (au.same eu4)
  have rk2:RV K Hu4 (.ref pu4) (9,2):=RV.of hu4
  clear eu4 hu4 du4 hG
  refine⟨xN,fun pu5 gu5=>?_⟩
  generalize hG:ax Hu4 pu5 (.lst [V.ref pu2,V.ref pu3,V.ref pu4])=Hu5
  obtain⟨eu5,hu5,du5⟩:=eE hG gu5 tp.lst hd_
  have nu5:=j6 gu5 tp.lst
  obtain⟨S0,tp,hd_⟩:=d9 eu5 S0 tp hd_
  replace hW:=tS eu5 hW
  replace alw:=aM eu5 alw
  replace rk0:=rk0.mono (au.same eu5)
  replace rk1:=rk1.mono (au.same eu5)
  replace rk2:=rk2.mono (au.same eu5)
  have lsk:=hu5
  have alk:bU (RV K Hu5) ([V.ref pu2,V.ref pu3,V.ref pu4]:List V) [(1,3),(4,3),(9,2)]:=(.cons rk0 (.cons rk1 (.cons rk2 .nil)))
  clear eu5 hu5 du5 hG
  have kbk:∀ r∈([(1,3),(4,3),(9,2)]:List R),xL r:=fun r hr=>by
   simp only [List.mem_cons,List.not_mem_nil,or_false] at hr
   rcases hr with rfl | rfl | rfl
   ·exact eV (by decide) ⟨2,by decide⟩ (by decide) (by decide)
   ·exact eV (by decide) ⟨2,by decide⟩ (by decide) (by decide)
   ·exact eV (by decide) ⟨3,by decide⟩ (by decide) (by decide)
  have spk:∀ r∈([(1,3),(4,3),(9,2)]:List R),ow r:=fun r hr=>by
   simp only [List.mem_cons,List.not_mem_nil,or_false] at hr
   rcases hr with rfl | rfl | rfl
   ·exact e8 (by decide) ⟨120,by decide⟩ (by decide) (by decide) (by decide)
   ·exact e8 (by decide) ⟨120,by decide⟩ (by decide) (by decide) (by decide)
   ·exact e8 (by decide) ⟨180,by decide⟩ (by decide) (by decide) (by decide)
  refine⟨_,rfl,_,rfl,cY,fun pu6 gu6=>?_⟩
  generalize hG:ax Hu5 pu6 (.tup [.int 3,.int 1])=Hu6
  obtain⟨eu6,hu6,du6⟩:=eE hG gu6 tp.lst hd_
  obtain⟨S0,tp,hd_⟩:=d9 eu6 S0 tp hd_
  replace hW:=tS eu6 hW
  replace alw:=aM eu6 alw
  replace lsk:=eu6 _ _ lsk
  replace alk:=aM eu6 alk
  have rm0:RV K Hu6 (.ref pu6) (3,1):=RV.of hu6
  clear eu6 hu6 du6 hG
  refine⟨cY,fun pu7 gu7=>?_⟩
  generalize hG:ax Hu6 pu7 (.tup [.int 1,.int 1])=Hu7
  obtain⟨eu7,hu7,du7⟩:=eE hG gu7 tp.lst hd_
  obtain⟨S0,tp,hd_⟩:=d9 eu7 S0 tp hd_
  replace hW:=tS eu7 hW
  replace alw:=aM eu7 alw
  replace lsk:=eu7 _ _ lsk
  replace alk:=aM eu7 alk
  replace rm0:=rm0.mono (au.same eu7)
  have rm1:RV K Hu7 (.ref pu7) (1,1):=RV.of hu7
  clear eu7 hu7 du7 hG
  refine⟨cY,fun pu8 gu8=>?_⟩
  generalize hG:ax Hu7 pu8 (.tup [.int 5,.int 2])=Hu8
  obtain⟨eu8,hu8,du8⟩:=eE hG gu8 tp.lst hd_
  obtain⟨S0,tp,hd_⟩:=d9 eu8 S0 tp hd_
  replace hW:=tS eu8 hW
  replace alw:=aM eu8 alw
  replace lsk:=eu8 _ _ lsk
  replace alk:=aM eu8 alk
  replace rm0:=rm0.mono (au.same eu8)
  replace rm1:=rm1.mono (au.same eu8)
  have rm2:RV K Hu8 (.ref pu8) (5,2):=RV.of hu8
  clear eu8 hu8 du8 hG
  refine⟨xN,fun pu9 gu9=>?_⟩
  generalize hG:ax Hu8 pu9 (.lst [V.ref pu6,V.ref pu7,V.ref pu8])=Hu9
  obtain⟨eu9,hu9,du9⟩:=eE hG gu9 tp.lst hd_
  have nu9:=j6 gu9 tp.lst
  obtain⟨S0,tp,hd_⟩:=d9 eu9 S0 tp hd_
  replace hW:=tS eu9 hW
  replace alw:=aM eu9 alw
  replace lsk:=eu9 _ _ lsk
  replace alk:=aM eu9 alk
  replace rm0:=rm0.mono (au.same eu9)
  replace rm1:=rm1.mono (au.same eu9)
  replace rm2:=rm2.mono (au.same eu9)
  have lsm:=hu9
  have alm:bU (RV K Hu9) ([V.ref pu6,V.ref pu7,V.ref pu8]:List V) [(3,1),(1,1),(5,2)]:=(.cons rm0 (.cons rm1 (.cons rm2 .nil)))
  clear eu9 hu9 du9 hG
  refine⟨_,rfl,t₁,a,3,rfl,tp,by decide,by decide,fun ru10 zu10 au10 bu10 Tu10=>?_⟩
  have Su10:=bo.up (ys:=zu10) tp.lst.choose_spec
  replace S0:=S0.trans Su10
  replace hd_:=Su10.tp'
  replace hW:=tP Su10 hW
  replace alw:=aT Su10 alw
  replace lsk:=Su10.keep _ _ nu5 lsk
  replace alk:=aT Su10 alk
  replace rm0:=rm0.mono (au.step (K:=K) Su10)
  replace rm1:=rm1.mono (au.step (K:=K) Su10)
  replace rm2:=rm2.mono (au.step (K:=K) Su10)
  replace lsm:=Su10.keep _ _ nu9 lsm
  replace tp:=Tu10
  clear Tu10 Su10
  generalize ax Hu9 t₁ (.lst zu10)=Hu10 at S0 tp hd_ hW alw lsk alk rm0 rm1 rm2 lsm ⊢
  obtain⟨vm,rm,hat,rvm,kbm,nm0⟩:∃ (vm:V) (rm:R),jS ([V.ref pu6,V.ref pu7,V.ref pu8]:List V) ru10=some vm/\RV K Hu10 vm rm/\xL rm/\0≤rm.1:=by
   rcases (show ru10=0∨ru10=1∨ru10=2 by omega) with rfl | rfl | rfl
   ·exact⟨_,_,rfl,rm0,eV (by decide) ⟨6,by decide⟩ (by decide) (by decide),by decide⟩
   ·exact⟨_,_,rfl,rm1,eV (by decide) ⟨6,by decide⟩ (by decide) (by decide),by decide⟩
   ·exact⟨_,_,rfl,rm2,eV (by decide) ⟨3,by decide⟩ (by decide) (by decide),by decide⟩
  refine⟨pu9,_,_,_,rfl,rfl,aW.of lsm,hat,t₁,a,pu5,[V.ref pu2,V.ref pu3,V.ref pu4],vm,[(1,3),(4,3),(9,2)],rm,rfl,tp,nu5,lsk,alk,kbk,by decide,rvm,kbm,nm0,fun vr rl HR SR TR rv okr smr rkr=>?_⟩
  clear rvm hat
  replace hd_:=SR.tp'
  replace hW:=tP SR hW
  replace alw:=aT SR alw
  replace lsk:=SR.keep _ _ nu5 lsk
  replace alk:=aT SR alk
  replace S0:=S0.trans SR
  replace tp:=TR
  clear TR SR
  refine⟨_,rfl,_,rfl,_,rfl,_,rfl,t₁,a,pu5,pw,[V.ref pu2,V.ref pu3,V.ref pu4],xw,vr,[(1,3),(4,3),(9,2)],rl,rfl,tp,hW,by omega,rv,okr,smr,rkr,nu5,lsk,alk,spk,by decide,fun pp ys prs HP SP TP hSp alp lp bp=>?_⟩
  replace hd_:=SP.tp'
  replace hW:=tP SP hW
  replace alw:=aT SP alw
  replace rv:=rv.mono (au.step (K:=K) SP)
  replace S0:=S0.trans SP
  replace tp:=TP
  clear TP SP
  have lyp:=alp.len
  refine⟨Dl,fun pu11 gu11=>?_⟩
  generalize hG:ax HP pu11 (.lst [.int 1,.int 2,.int 3,.int 9])=Hu11
  obtain⟨eu11,hu11,du11⟩:=eE hG gu11 tp.lst hd_
  have nu11:=j6 gu11 tp.lst
  obtain⟨S0,tp,hd_⟩:=d9 eu11 S0 tp hd_
  replace hW:=tS eu11 hW
  replace alw:=aM eu11 alw
  replace rv:=rv.mono (au.same eu11)
  replace hSp:=tS eu11 hSp
  replace alp:=aM eu11 alp
  have lsh:=hu11
  clear eu11 hu11 du11 hG
  refine⟨_,rfl,t₁,a,4,rfl,tp,by decide,by decide,fun ru12 zu12 au12 bu12 Tu12=>?_⟩
  have Su12:=bo.up (ys:=zu12) tp.lst.choose_spec
  replace S0:=S0.trans Su12
  replace hd_:=Su12.tp'
  replace hW:=tP Su12 hW
  replace alw:=aT Su12 alw
  replace rv:=rv.mono (au.step (K:=K) Su12)
  replace hSp:=tP Su12 hSp
  replace alp:=aT Su12 alp
  replace lsh:=Su12.keep _ _ nu11 lsh
  replace tp:=Tu12
  clear Tu12 Su12
  generalize ax Hu11 t₁ (.lst zu12)=Hu12 at S0 tp hd_ hW alw rv hSp alp lsh ⊢
  obtain⟨hh,hat,h9⟩:∃ hh:Nat,jS ([.int 1,.int 2,.int 3,.int 9]:List V) ru12=some (.int (hh:Int))/\hh≤9:=by
   rcases (show ru12=0∨ru12=1∨ru12=2∨ru12=3 by omega) with rfl | rfl | rfl | rfl
   ·exact⟨1,rfl,by decide⟩
   ·exact⟨2,rfl,by decide⟩
   ·exact⟨3,rfl,by decide⟩
   ·exact⟨9,rfl,by decide⟩
  refine⟨pu11,_,_,_,rfl,rfl,aW.of lsh,hat,?_⟩
  have tbX:=Fy S0 tb
  clear lsh S0 tb
  refine⟨_,rfl,_,rfl,_,rfl,xN,fun p3 hp3=>?_⟩
  have s3:=aj hp3 (.tup [.ref pw,vr,.ref pp])
  have h3:bh K (ax Hu12 p3 (.tup [.ref pw,vr,.ref pp])) p3 [.ref pw,vr,.ref pp]:=bh.of ah
  generalize ax Hu12 p3 (.tup [.ref pw,vr,.ref pp])=H3 at s3 h3 ⊢
  have t3:=au.same (K:=K) s3
  replace hW:=t3 _ _ hW
  replace alw:=alw.mono fun _ _ q=>q.mono t3
  replace rv:=rv.mono t3
  replace hSp:=t3 _ _ hSp
  replace alp:=alp.mono fun _ _ q=>q.mono t3
  replace tp:=tp.same s3
  replace tbX:=qY s3 tbX
  have shw:m7 (.tuple [xD ws,Bk rl,.tuple (prs.map oh)]):=DC okw (by omega) okr bp (by omega)
  refine⟨_,_,rfl,yH h3 hW alw rv hSp alp,shw,?_⟩
  refine⟨_,rfl,_,rfl,_,rfl,_,rfl,.ref pw,vr,ws,rl,hh,pp,ys,prs,rfl,⟨pw,xw,rfl,hW,alw⟩,by omega,okw,rv,okr,smr,rkr,hSp,alp,by omega,bp,h9,fun u x H4 s4 ru rx vx=>?_⟩
  have t4:=au.same (K:=K) s4
  refine⟨_,rfl,_,rfl,_,rfl,_,rfl,.ref pw,vr,ws,rl,hh,pp,ys,prs,rfl,⟨pw,xw,rfl,t4 _ _ hW,alw.mono fun _ _ q=>q.mono t4⟩,by omega,okw,rv.mono t4,okr,smr,rkr,t4 _ _ hSp,alp.mono fun _ _ q=>q.mono t4,by omega,bp,h9,qY s4 tbX,fun u2 ms H5 s5 tb5 fo ru2=>?_⟩
  have t5:=j4 (K:=K) s5 (qY s4 tbX)
  have inM:∀ m∈ms,m < ws.length:=fun m hm=>by
   have:=List.mem_range.mp (fo.1.mem_iff.mp hm)
   rw [List.length_map] at this
   omega
  rw [← AY okr rkr smr okw bp (by omega) inM h9 rx (vx ms fo)] at ru2
  refine⟨u,u2,x,rfl,ru.mono t5,ru2,fun H6 s6=>⟨_,rfl,eZ ?_⟩⟩
  have t36:=(t4.trans t5).trans (au.same (K:=K) s6)
  have tp6:=(Bz (tp.same s4) s5 (qY s4 tbX)).same s6
  have tb6:=qY s6 tb5
  refine⟨_,rfl,_,rfl,_,rfl,xN,fun p7 hp7=>?_⟩
  have s7:=aj hp7 (.tup [.ref pw,vr,.ref pp])
  have h7:bh K (ax H6 p7 (.tup [.ref pw,vr,.ref pp])) p7 [.ref pw,vr,.ref pp]:=bh.of ah
  generalize ax H6 p7 (.tup [.ref pw,vr,.ref pp])=H7 at s7 h7 ⊢
  have t7:=t36.trans (au.same (K:=K) s7)
  refine⟨_,_,rfl,yH h7 (t7 _ _ hW) (alw.mono fun _ _ q=>q.mono t7) (rv.mono t7) (t7 _ _ hSp) (alp.mono fun _ _ q=>q.mono t7),shw,_,rfl,rfl,_,rfl,jD rfl ?_⟩
  exact⟨_,_,_,_,_,_,_,rfl,tp6.same s7,qY s7 tb6⟩
 ·rintro σ H2 ⟨x2,x3,x4,x5,x6,x7,x8,rfl,_,_⟩
  exact k _
end
set_option autoImplicit true in
set_option relaxedAutoImplicit true in
open PySem.W in
theorem all_mk {l:OpenLaw} {w:World} {K:Frag} {h:Heap} {mg:Str->Option Value} {fa:Addr} (X:K.In h) (G:h.Ns mainGlobals mg) (hfa:mg "law" = some (.ref fa))
  {f_Q0:Addr} {d_Q0:FuncData} (h_greatest_divisor:eX K "greatest_divisor" zn f_Q0 d_Q0)
  {f_Q31:Addr} {d_Q31:FuncData} (h_ratio:eX K "ratio" sK f_Q31 d_Q31)
  {f_Q35:Addr} {d_Q35:FuncData} (h_plus:eX K "plus" sF f_Q35 d_Q35)
  {f_Q32:Addr} {d_Q32:FuncData} (h_minus:eX K "minus" sJ f_Q32 d_Q32)
  {f_Q33:Addr} {d_Q33:FuncData} (h_times:eX K "times" sH f_Q33 d_Q33)
  {f_Q36:Addr} {d_Q36:FuncData} (h_over:eX K "over" sx f_Q36 d_Q36)
  {f_Q29:Addr} {d_Q29:FuncData} (h_raised:eX K "raised" sM f_Q29 d_Q29)
  {f_Q25:Addr} {d_Q25:FuncData} (h_is_less:eX K "is_less" sR f_Q25 d_Q25)
  {f_Q34:Addr} {d_Q34:FuncData} (h_total:eX K "total" sG f_Q34 d_Q34)
  {f_Q6:Addr} {d_Q6:FuncData} (h_whole_parts:eX K "whole_parts" zg f_Q6 d_Q6)
  {f_Q3:Addr} {d_Q3:FuncData} (h_falling_order:eX K "falling_order" zj f_Q3 d_Q3)
  {f_Q4:Addr} {d_Q4:FuncData} (h_slope_between:eX K "slope_between" zi f_Q4 d_Q4)
  {f_Q30:Addr} {d_Q30:FuncData} (h_top_of:eX K "top_of" sL f_Q30 d_Q30)
  {f_Q11:Addr} {d_Q11:FuncData} (h_is_beyond:eX K "is_beyond" tH f_Q11 d_Q11)
  {f_Q18:Addr} {d_Q18:FuncData} (h_place_of:eX K "place_of" tf f_Q18 d_Q18)
  {f_Q19:Addr} {d_Q19:FuncData} (h_power_at:eX K "power_at" sY f_Q19 d_Q19)
  {f_Q12:Addr} {d_Q12:FuncData} (h_in_window:eX K "in_window" tG f_Q12 d_Q12)
  {f_Q5:Addr} {d_Q5:FuncData} (h_turns_at_hand:eX K "turns_at_hand" zh f_Q5 d_Q5)
  {f_Q7:Addr} {d_Q7:FuncData} (h_price_bound:eX K "price_bound" zf f_Q7 d_Q7)
  {f_Q20:Addr} {d_Q20:FuncData} (h_law_tape:eX K "_law_tape" sX f_Q20 d_Q20)
  {f_Q21:Addr} {d_Q21:FuncData} (h_law_draw:eX K "_law_draw" sW f_Q21 d_Q21)
  {f_Q13:Addr} {d_Q13:FuncData} (h_law_alike:eX K "_law_alike" tF f_Q13 d_Q13)
  {f_Q22:Addr} {d_Q22:FuncData} (h_law_frac:eX K "_law_frac" sV f_Q22 d_Q22)
  {f_Q26:Addr} {d_Q26:FuncData} (h_law_add:eX K "_law_add" sP f_Q26 d_Q26)
  {f_Q27:Addr} {d_Q27:FuncData} (h_law_mul:eX K "_law_mul" sO f_Q27 d_Q27)
  {f_Q23:Addr} {d_Q23:FuncData} (h_law_less:eX K "_law_less" sU f_Q23 d_Q23)
  {f_Q28:Addr} {d_Q28:FuncData} (h_law_sum:eX K "_law_sum" sN f_Q28 d_Q28)
  {f_Q14:Addr} {d_Q14:FuncData} (h_law_works:eX K "_law_works" tE f_Q14 d_Q14)
  {f_Q24:Addr} {d_Q24:FuncData} (h_law_rule:eX K "_law_rule" sS f_Q24 d_Q24)
  {f_Q8:Addr} {d_Q8:FuncData} (h_law_rising:eX K "_law_rising" ze f_Q8 d_Q8)
  {f_Q15:Addr} {d_Q15:FuncData} (h_law_power:eX K "_law_power" tz f_Q15 d_Q15)
  {f_Q9:Addr} {d_Q9:FuncData} (h_law_slopes:eX K "_law_slopes" zd f_Q9 d_Q9)
  {f_Q16:Addr} {d_Q16:FuncData} (h_law_price:eX K "_law_price" tw f_Q16 d_Q16)
  {f_Q2:Addr} {d_Q2:FuncData} (h_law_some_speed:eX K "_law_some_speed" zk f_Q2 d_Q2)
  {f_Q10:Addr} {d_Q10:FuncData} (h_law_prices:eX K "_law_prices" tJ f_Q10 d_Q10)
  {f_Q17:Addr} {d_Q17:FuncData} (h_law_bound:eX K "_law_bound" tj f_Q17 d_Q17)
  {f_Q1:Addr} {d_Q1:FuncData} (h_law_least_first:eX K "_law_least_first" zm f_Q1 d_Q1)
  {f_Q37:Addr} {d_Q37:FuncData} (h_law:eX K "law" sw f_Q37 d_Q37)
  {f_NOUGHT:Addr} {od_NOUGHT:Option Addr} {sl_NOUGHT:Array (Option Value)} {tkNOUGHT0 tkNOUGHT1:Tok} {n_NOUGHT:Nat} (p_NOUGHT:nsIn K mainGlobals "NOUGHT" = some (some (.ref f_NOUGHT))) (l_NOUGHT:K.lookup f_NOUGHT=some ⟨.type "tuple", od_NOUGHT,.seq #[.int (0) tkNOUGHT0,.int (1) tkNOUGHT1] n_NOUGHT,sl_NOUGHT⟩)
  {tkPOWER:Tok} (p_POWER:nsIn K mainGlobals "POWER" = some (some (.str "power" tkPOWER)))
  {tkTURNS:Tok} (p_TURNS:nsIn K mainGlobals "TURNS" = some (some (.int (24) tkTURNS)))
  (z_abs:nsIn K mainGlobals "abs" = some none)
  (z_all:nsIn K mainGlobals "all" = some none)
  (z_bool:nsIn K mainGlobals "bool" = some none)
  (z_int:nsIn K mainGlobals "int" = some none)
  (z_isinstance:nsIn K mainGlobals "isinstance" = some none)
  (z_len:nsIn K mainGlobals "len" = some none)
  (z_list:nsIn K mainGlobals "list" = some none)
  (z_range:nsIn K mainGlobals "range" = some none)
  (z_repr:nsIn K mainGlobals "repr" = some none)
  (z_sorted:nsIn K mainGlobals "sorted" = some none)
  (z_str:nsIn K mainGlobals "str" = some none)
  (z_sum:nsIn K mainGlobals "sum" = some none)
  (z_tuple:nsIn K mainGlobals "tuple" = some none)
  (z_zip:nsIn K mainGlobals "zip" = some none)
  {cL tL:Addr} (w_lhd:codeHdIn K cL tL=true) (w_lcd:d_Q3.code=.ref cL)
  : ∃ fd:FuncData,(∀ (s:Shared) (v:Value),BindsTo s fd ⟨[v],[]⟩ [("_law_script", v)])/\∀ base:Heap,K.In base->base.Ns mainGlobals mg->base.BuiltinsAt mg tL->bO l.prog w K mg base eF 7 fa fd ["_law_script"] (kM K tL):=by
 have e:=hfa.symm.trans (mg_of X G h_law.p)
 cases e
 obtain⟨_,_,_,_,_,_,_,_,_,rfl,_,_⟩:=h_law.F.ex
 have T:fC K mg ⟨f_Q0,_,f_Q31,_,f_Q35,_,f_Q32,_,f_Q33,_,f_Q36,_,f_Q29,_,f_Q25,_,f_Q34,_,f_Q6,_,f_Q3,_,f_Q4,_,f_Q30,_,f_Q11,_,f_Q18,_,f_Q19,_,f_Q12,_,f_Q5,_,f_Q7,_,f_Q20,_,f_Q21,_,f_Q13,_,f_Q22,_,f_Q26,_,f_Q27,_,f_Q23,_,f_Q28,_,f_Q14,_,f_Q24,_,f_Q8,_,f_Q15,_,f_Q9,_,f_Q16,_,f_Q2,_,f_Q10,_,f_Q17,_,f_Q1,_,fa,_,f_NOUGHT,tkPOWER,tkTURNS,cL,tL⟩:={
  lhd:=w_lhd,lcd:=w_lcd,
  F_Q0:=h_greatest_divisor.F,b_Q0:=h_greatest_divisor.b2,m_Q0:=mg_of X G h_greatest_divisor.p,
  F_Q31:=h_ratio.F,b_Q31:=h_ratio.b2,m_Q31:=mg_of X G h_ratio.p,
  F_Q35:=h_plus.F,b_Q35:=h_plus.b2,m_Q35:=mg_of X G h_plus.p,
  F_Q32:=h_minus.F,b_Q32:=h_minus.b2,m_Q32:=mg_of X G h_minus.p,
  F_Q33:=h_times.F,b_Q33:=h_times.b2,m_Q33:=mg_of X G h_times.p,
  F_Q36:=h_over.F,b_Q36:=h_over.b2,m_Q36:=mg_of X G h_over.p,
  F_Q29:=h_raised.F,b_Q29:=h_raised.b2,m_Q29:=mg_of X G h_raised.p,
  F_Q25:=h_is_less.F,b_Q25:=h_is_less.b2,m_Q25:=mg_of X G h_is_less.p,
  F_Q34:=h_total.F,b_Q34:=h_total.b1,m_Q34:=mg_of X G h_total.p,
  F_Q6:=h_whole_parts.F,b_Q6:=h_whole_parts.b1,m_Q6:=mg_of X G h_whole_parts.p,
  F_Q3:=h_falling_order.F,b_Q3:=h_falling_order.b1,m_Q3:=mg_of X G h_falling_order.p,
  F_Q4:=h_slope_between.F,b_Q4:=h_slope_between.b2,m_Q4:=mg_of X G h_slope_between.p,
  F_Q30:=h_top_of.F,b_Q30:=h_top_of.b1,m_Q30:=mg_of X G h_top_of.p,
  F_Q11:=h_is_beyond.F,b_Q11:=h_is_beyond.b2,m_Q11:=mg_of X G h_is_beyond.p,
  F_Q18:=h_place_of.F,b_Q18:=h_place_of.b2,m_Q18:=mg_of X G h_place_of.p,
  F_Q19:=h_power_at.F,b_Q19:=h_power_at.b2,m_Q19:=mg_of X G h_power_at.p,
  F_Q12:=h_in_window.F,b_Q12:=h_in_window.b2,m_Q12:=mg_of X G h_in_window.p,
  F_Q5:=h_turns_at_hand.F,b_Q5:=h_turns_at_hand.b3,m_Q5:=mg_of X G h_turns_at_hand.p,
  F_Q7:=h_price_bound.F,b_Q7:=h_price_bound.b4,m_Q7:=mg_of X G h_price_bound.p,
  F_Q20:=h_law_tape.F,b_Q20:=h_law_tape.b1,m_Q20:=mg_of X G h_law_tape.p,
  F_Q21:=h_law_draw.F,b_Q21:=h_law_draw.b2,m_Q21:=mg_of X G h_law_draw.p,
  F_Q13:=h_law_alike.F,b_Q13:=h_law_alike.b2,m_Q13:=mg_of X G h_law_alike.p,
  F_Q22:=h_law_frac.F,b_Q22:=h_law_frac.b2,m_Q22:=mg_of X G h_law_frac.p,
  F_Q26:=h_law_add.F,b_Q26:=h_law_add.b2,m_Q26:=mg_of X G h_law_add.p,
  F_Q27:=h_law_mul.F,b_Q27:=h_law_mul.b2,m_Q27:=mg_of X G h_law_mul.p,
  F_Q23:=h_law_less.F,b_Q23:=h_law_less.b2,m_Q23:=mg_of X G h_law_less.p,
  F_Q28:=h_law_sum.F,b_Q28:=h_law_sum.b1,m_Q28:=mg_of X G h_law_sum.p,
  F_Q14:=h_law_works.F,b_Q14:=h_law_works.b2,m_Q14:=mg_of X G h_law_works.p,
  F_Q24:=h_law_rule.F,b_Q24:=h_law_rule.b3,m_Q24:=mg_of X G h_law_rule.p,
  F_Q8:=h_law_rising.F,b_Q8:=h_law_rising.b1,m_Q8:=mg_of X G h_law_rising.p,
  F_Q15:=h_law_power.F,b_Q15:=h_law_power.b2,m_Q15:=mg_of X G h_law_power.p,
  F_Q9:=h_law_slopes.F,b_Q9:=h_law_slopes.b2,m_Q9:=mg_of X G h_law_slopes.p,
  F_Q16:=h_law_price.F,b_Q16:=h_law_price.b3,m_Q16:=mg_of X G h_law_price.p,
  F_Q2:=h_law_some_speed.F,b_Q2:=h_law_some_speed.b3,m_Q2:=mg_of X G h_law_some_speed.p,
  F_Q10:=h_law_prices.F,b_Q10:=h_law_prices.b4,m_Q10:=mg_of X G h_law_prices.p,
  F_Q17:=h_law_bound.F,b_Q17:=h_law_bound.b4,m_Q17:=mg_of X G h_law_bound.p,
  F_Q1:=h_law_least_first.F,b_Q1:=h_law_least_first.b1,m_Q1:=mg_of X G h_law_least_first.p,
  F_Q37:=h_law.F,b_Q37:=h_law.b1,m_Q37:=mg_of X G h_law.p,
  m_NOUGHT:=mg_of X G p_NOUGHT,q_NOUGHT:=fun H=>.inr ⟨_,_,_,l_NOUGHT,rfl,rfl,cY,(.cons ⟨_,rfl⟩ (.cons ⟨_,rfl⟩ .nil))⟩,
  m_POWER:=mg_of X G p_POWER,
  m_TURNS:=mg_of X G p_TURNS,
  z_abs:=mg_none_of X G z_abs,z_all:=mg_none_of X G z_all,z_bool:=mg_none_of X G z_bool,z_int:=mg_none_of X G z_int,z_isinstance:=mg_none_of X G z_isinstance,z_len:=mg_none_of X G z_len,z_list:=mg_none_of X G z_list,z_range:=mg_none_of X G z_range,z_repr:=mg_none_of X G z_repr,z_sorted:=mg_none_of X G z_sorted,z_str:=mg_none_of X G z_str,z_sum:=mg_none_of X G z_sum,z_tuple:=mg_none_of X G z_tuple,z_zip:=mg_none_of X G z_zip }
 exact⟨_,fun s v=>.of_eq rfl,fun base _ _ hB=>Ao T hB⟩
theorem walk {l:PySem.W.OpenLaw} {q:Program} {loose:List Str} {XP:(Str->Option Value)->Heap->Prop} {YP:World->Heap->Prop} {d:DefRec} {K:Params->PySem.W.Frag} {c T:Addr} (hn:l.most=some 63) (hdf:d.params.defaults=[])
  (hY:∀ (w:World) (h:Heap),YP w h->(K w.params).In h/\h.get? T=some (PySem.W.tabObj #[])) (hC:∀ w:World,PySem.W.codeHdIn (K w.params) c T=true) (hnt:∀ w:World,PySem.W.noTabs (K w.params)=true)
  (F:∀ (w:World) (mg:Str->Option Value) (fa:Addr) (h:Heap),(K w.params).In h->h.Ns mainGlobals mg->mg d.name=some (.ref fa)→
   ∃ fd:FuncData,(∀ (s:Shared) (u:Value),BindsTo s fd ⟨[u],[]⟩ [("_law_script", u)])/\∀ base:Heap,(K w.params).In base->base.Ns mainGlobals mg->base.BuiltinsAt mg T->bO l.prog w (K w.params) mg base eF 7 fa fd ["_law_script"] (kM (K w.params) T)) :
  PySem.W.WalkO q loose XP YP l.row.toRowW d [] (fun f vs=>PySem.call f vs):=
 B.walk_ofT (c:=c) (T:=T) (n:=63) (k:=7) (x := "_law_script") (CX:=fun _=>eF) (sp:=fun w=>kM (K w.params) T) hn (by decide) hdf ⟨rfl,by decide,by decide,rfl⟩ hY hC hnt F (fun _ _ a ns hl hT hS=>⟨a,ns,rfl,hS,hl,hT,fun _=>rfl⟩) fun _ _ _ _ _ z=>z
end My
open PySem PySem.W PyProof.Rows
set_option maxRecDepth 100000 in
set_option maxHeartbeats 0 in
theorem PySem.Challenge.cw_paceplan_k39_bounds_of_prices_holds : PySem.Challenge.rw_paceplan_k39_bounds_of_prices.Holds := by
 w_on;refine HWtop ?_
 k_fill
 refine My.walk (l:=PySem.Challenge.rw_paceplan_k39_bounds_of_prices) (c:=145) (T:=141) rfl rfl (fun w h Y=>⟨PySem.W.km_in_of Y,PySem.W.km_tabs_of Y _ List.mem_cons_self⟩) (fun w=>by kernel_rfl) (fun w=>by kernel_rfl) ?F
 case F=>
  intro w mg fa h KX G hmg
  refine' My.all_mk KX G hmg ?h_greatest_divisor ?h_ratio ?h_plus ?h_minus ?h_times ?h_over ?h_raised ?h_is_less ?h_total ?h_whole_parts ?h_falling_order ?h_slope_between ?h_top_of ?h_is_beyond ?h_place_of ?h_power_at ?h_in_window ?h_turns_at_hand ?h_price_bound ?h_law_tape ?h_law_draw ?h_law_alike ?h_law_frac ?h_law_add ?h_law_mul ?h_law_less ?h_law_sum ?h_law_works ?h_law_rule ?h_law_rising ?h_law_power ?h_law_slopes ?h_law_price ?h_law_some_speed ?h_law_prices ?h_law_bound ?h_law_least_first ?h_law ?p_NOUGHT ?l_NOUGHT ?p_POWER ?p_TURNS ?z_abs ?z_all ?z_bool ?z_int ?z_isinstance ?z_len ?z_list ?z_range ?z_repr ?z_sorted ?z_str ?z_sum ?z_tuple ?z_zip ?w_lhd ?w_lcd
  (case h_greatest_divisor=>refine' B.isF ?a ?b ?c ?d;(case a=>k_is);(case b=>k_is);(case c=>k_is);(case d=>k_is))
  (case h_ratio=>refine' B.isF ?a ?b ?c ?d;(case a=>k_is);(case b=>k_is);(case c=>k_is);(case d=>k_is))
  (case h_plus=>refine' B.isF ?a ?b ?c ?d;(case a=>k_is);(case b=>k_is);(case c=>k_is);(case d=>k_is))
  (case h_minus=>refine' B.isF ?a ?b ?c ?d;(case a=>k_is);(case b=>k_is);(case c=>k_is);(case d=>k_is))
  (case h_times=>refine' B.isF ?a ?b ?c ?d;(case a=>k_is);(case b=>k_is);(case c=>k_is);(case d=>k_is))
  (case h_over=>refine' B.isF ?a ?b ?c ?d;(case a=>k_is);(case b=>k_is);(case c=>k_is);(case d=>k_is))
  (case h_raised=>refine' B.isF ?a ?b ?c ?d;(case a=>k_is);(case b=>k_is);(case c=>k_is);(case d=>k_is))
  (case h_is_less=>refine' B.isF ?a ?b ?c ?d;(case a=>k_is);(case b=>k_is);(case c=>k_is);(case d=>k_is))
  (case h_total=>refine' B.isF ?a ?b ?c ?d;(case a=>k_is);(case b=>k_is);(case c=>k_is);(case d=>k_is))
  (case h_whole_parts=>refine' B.isF ?a ?b ?c ?d;(case a=>k_is);(case b=>k_is);(case c=>k_is);(case d=>k_is))
  (case h_falling_order=>refine' B.isF ?a ?b ?c ?d;(case a=>k_is);(case b=>k_is);(case c=>k_is);(case d=>k_is))
  (case h_slope_between=>refine' B.isF ?a ?b ?c ?d;(case a=>k_is);(case b=>k_is);(case c=>k_is);(case d=>k_is))
  (case h_top_of=>refine' B.isF ?a ?b ?c ?d;(case a=>k_is);(case b=>k_is);(case c=>k_is);(case d=>k_is))
  (case h_is_beyond=>refine' B.isF ?a ?b ?c ?d;(case a=>k_is);(case b=>k_is);(case c=>k_is);(case d=>k_is))
  (case h_place_of=>refine' B.isF ?a ?b ?c ?d;(case a=>k_is);(case b=>k_is);(case c=>k_is);(case d=>k_is))
  (case h_power_at=>refine' B.isF ?a ?b ?c ?d;(case a=>k_is);(case b=>k_is);(case c=>k_is);(case d=>k_is))
  (case h_in_window=>refine' B.isF ?a ?b ?c ?d;(case a=>k_is);(case b=>k_is);(case c=>k_is);(case d=>k_is))
  (case h_turns_at_hand=>refine' B.isF ?a ?b ?c ?d;(case a=>k_is);(case b=>k_is);(case c=>k_is);(case d=>k_is))
  (case h_price_bound=>refine' B.isF ?a ?b ?c ?d;(case a=>k_is);(case b=>k_is);(case c=>k_is);(case d=>k_is))
  (case h_law_tape=>refine' B.isF ?a ?b ?c ?d;(case a=>k_is);(case b=>k_is);(case c=>k_is);(case d=>k_is))
  (case h_law_draw=>refine' B.isF ?a ?b ?c ?d;(case a=>k_is);(case b=>k_is);(case c=>k_is);(case d=>k_is))
  (case h_law_alike=>refine' B.isF ?a ?b ?c ?d;(case a=>k_is);(case b=>k_is);(case c=>k_is);(case d=>k_is))
  (case h_law_frac=>refine' B.isF ?a ?b ?c ?d;(case a=>k_is);(case b=>k_is);(case c=>k_is);(case d=>k_is))
  (case h_law_add=>refine' B.isF ?a ?b ?c ?d;(case a=>k_is);(case b=>k_is);(case c=>k_is);(case d=>k_is))
  (case h_law_mul=>refine' B.isF ?a ?b ?c ?d;(case a=>k_is);(case b=>k_is);(case c=>k_is);(case d=>k_is))
  (case h_law_less=>refine' B.isF ?a ?b ?c ?d;(case a=>k_is);(case b=>k_is);(case c=>k_is);(case d=>k_is))
  (case h_law_sum=>refine' B.isF ?a ?b ?c ?d;(case a=>k_is);(case b=>k_is);(case c=>k_is);(case d=>k_is))
  (case h_law_works=>refine' B.isF ?a ?b ?c ?d;(case a=>k_is);(case b=>k_is);(case c=>k_is);(case d=>k_is))
  (case h_law_rule=>refine' B.isF ?a ?b ?c ?d;(case a=>k_is);(case b=>k_is);(case c=>k_is);(case d=>k_is))
  (case h_law_rising=>refine' B.isF ?a ?b ?c ?d;(case a=>k_is);(case b=>k_is);(case c=>k_is);(case d=>k_is))
  (case h_law_power=>refine' B.isF ?a ?b ?c ?d;(case a=>k_is);(case b=>k_is);(case c=>k_is);(case d=>k_is))
  (case h_law_slopes=>refine' B.isF ?a ?b ?c ?d;(case a=>k_is);(case b=>k_is);(case c=>k_is);(case d=>k_is))
  (case h_law_price=>refine' B.isF ?a ?b ?c ?d;(case a=>k_is);(case b=>k_is);(case c=>k_is);(case d=>k_is))
  (case h_law_some_speed=>refine' B.isF ?a ?b ?c ?d;(case a=>k_is);(case b=>k_is);(case c=>k_is);(case d=>k_is))
  (case h_law_prices=>refine' B.isF ?a ?b ?c ?d;(case a=>k_is);(case b=>k_is);(case c=>k_is);(case d=>k_is))
  (case h_law_bound=>refine' B.isF ?a ?b ?c ?d;(case a=>k_is);(case b=>k_is);(case c=>k_is);(case d=>k_is))
  (case h_law_least_first=>refine' B.isF ?a ?b ?c ?d;(case a=>k_is);(case b=>k_is);(case c=>k_is);(case d=>k_is))
  (case h_law=>refine' B.isF ?a ?b ?c ?d;(case a=>k_is);(case b=>k_is);(case c=>k_is);(case d=>k_is))
  (case p_NOUGHT=>k_is)
  (case l_NOUGHT=>k_is)
  (case p_POWER=>k_is)
  (case p_TURNS=>k_is)
  (case z_abs=>k_is)
  (case z_all=>k_is)
  (case z_bool=>k_is)
  (case z_int=>k_is)
  (case z_isinstance=>k_is)
  (case z_len=>k_is)
  (case z_list=>k_is)
  (case z_range=>k_is)
  (case z_repr=>k_is)
  (case z_sorted=>k_is)
  (case z_str=>k_is)
  (case z_sum=>k_is)
  (case z_tuple=>k_is)
  (case z_zip=>k_is)
  (case w_lcd=>rfl)
  (case w_lhd=>kernel_rfl)
