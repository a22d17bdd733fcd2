import PyProof.Rows.All
import KE.RegKIsAll
import KE.RegKTryMore
import KE.KNestM
import KE.KSortKey
import KE.KLam
import PySem.Challenge.RW_paceplan_k40_power_of_several_hands
set_option Elab.async false
set_option linter.all false
set_option maxRecDepth 100000
theorem xW {α β γ:Type} {o:Option α} {f:α->β} {g:α->γ} {a:β} {b:γ} (h1:o.map f=some a) (h2:o.map g=some b):o.map (fun s=>(f s,g s))=some (a,b):=by
 cases o with
 | none=>cases h1
 | some x=>cases h1;cases h2;rfl
namespace HW
open PySem
def keep:List Nat:=[1,3,4,5,6,7,8,9,10,11,12,14,15,16,17,18,19,20,21,22,23,24,25,27,28,29,30,31,32,34,36,37,38,40,41,42,43,44,45,46,47,48,49,50,51,52,53,54,55,56,57,58,59,60]
def V:Program:=PySem.W.view PySem.Challenge.pw_paceplan_k40_power_of_several_hands keep
end HW
section HWs
open PySem PySem.W PyProof.Rows
set_option maxHeartbeats 0 in
theorem HWa:∀ w:World,(openEnds treeTable PySem.Challenge.rw_paceplan_k40_power_of_several_hands.row.prog w 7638).map (fun s=>openSeen HW.V [] (importedModules PySem.Challenge.rw_paceplan_k40_power_of_several_hands.row.prog.main.body) (fun s=>xlAt HW.V [] s && recOk PySem.Challenge.rw_paceplan_k40_power_of_several_hands.row.records s) true s)=some (openGood HW.V []):=by
 intro w
 delta openEnds fencedOpening topFrom
 rw [PySem.W.Fast.te14364793385576792824,PySem.W.Fast.te14082659384304107361,PySem.W.Fast.te10274390034422433532,PySem.W.Fast.te1435165496053646825,PySem.W.Fast.te14289696077712309145,PySem.W.Fast.te4187177175401517315]
 kernel_rfl
local macro_rules
 | `(tactic| o_head $H:term) => `(tactic| (
   refine holds_open (q:=HW.V) (loose:=[]) (N:=7638)
    (Xt:=fun s=>xlAt HW.V [] s && recOk (RowW.records (OpenRow.toRowW (OpenLaw.row PySem.Challenge.rw_paceplan_k40_power_of_several_hands))) s)
    (XP:=XL HW.V []) (Yf:=Hook.obs $H) (Ya:=Hook.val $H) (YP:=Hook.says $H)
    ?hl (Hook.of $H) (Hook.keeps $H)
    (fun s e=>xl_of s (Bool.and_eq_true_iff.mp e).1) XL.keeps
    (by rfl) (by rfl) (by rfl)
    (fun s e=>recFacts_of (Bool.and_eq_true_iff.mp e).2) (by rfl) (by assumption) (by decide +kernel)
    ⟨rfl,rfl,rfl,rfl,rfl,by decide +kernel⟩ ?hw ?hc
   (case hl=>
    intro w
    refine xW (HWa w) ?_
    delta openEnds fencedOpening topFrom
    rw [PySem.W.Fast.te14364793385576792824,PySem.W.Fast.te14082659384304107361,PySem.W.Fast.te10274390034422433532,PySem.W.Fast.te1435165496053646825,PySem.W.Fast.te14289696077712309145]
    kernel_rfl)))
set_option maxHeartbeats 0 in
open_top HWtop for PySem.Challenge.rw_paceplan_k40_power_of_several_hands
end HWs
theorem yS:1≤PySem.sizeLine:=by decide
theorem dU:2≤PySem.sizeLine:=by decide
theorem zK:3≤PySem.sizeLine:=by decide
theorem EC:4≤PySem.sizeLine:=by decide
theorem FF:5≤PySem.sizeLine:=by decide
theorem GJ:6≤PySem.sizeLine:=by decide
theorem GI:7≤PySem.sizeLine:=by decide
theorem i5:1000≤PySem.sizeLine:=by decide
namespace L2
open PySem PySem.Spec PyProof.Rows
abbrev cJ:=Sum Int Str
def jD:cJ->Value->Bool
 | .inl k,v=>Value.isInt k v
 | .inr x,v=>Value.isStrOf x v
def Fb (w:World):cJ->Int
 | .inl k=>hashInt k
 | .inr x=>hashStr w x
theorem bO:∀ {k:cJ} {v:Value},jD k v=true->(∃ i t,k=Sum.inl i/\v=Value.int i t)∨(∃ x t,k=Sum.inr x/\v=Value.str x t)
 | .inl i,v,h=>by
  obtain⟨t,e⟩:=Value.isInt_shape (k:=i) (v:=v) h
  exact .inl ⟨i,t,rfl,e⟩
 | .inr x,v,h=>by
  obtain⟨t,e⟩:=Value.isStrOf_shape (x:=x) (v:=v) h
  exact .inr ⟨x,t,rfl,e⟩
theorem rq (i:Int) (t:Tok):jD (.inl i) (.int i t)=true:=by simp [jD,Value.isInt]
theorem rk (x:Str) (t:Tok):jD (.inr x) (.str x t)=true:=by simp [jD,Value.isStrOf]
theorem BK (a b:Int):decide ((Sum.inl a:cJ)=Sum.inl b)=(a == b):=by
 by_cases e:a=b
 ·subst e;simp
 ·have h:¬ (Sum.inl a:cJ)=Sum.inl b:=fun q=>e (Sum.inl.inj q)
  rw [decide_eq_false h]
  exact (beq_eq_false_iff_ne.mpr e).symm
theorem BH (a b:Str):decide ((Sum.inr a:cJ)=Sum.inr b)=decide (a=b):=by
 by_cases e:a=b
 ·subst e;simp
 ·have h:¬ (Sum.inr a:cJ)=Sum.inr b:=fun q=>e (Sum.inr.inj q)
  rw [decide_eq_false h,decide_eq_false e]
theorem BJ (a:Int) (b:Str):decide ((Sum.inl a:cJ)=Sum.inr b)=false:=decide_eq_false (fun q=>nomatch q)
theorem BI (a:Str) (b:Int):decide ((Sum.inr a:cJ)=Sum.inl b)=false:=decide_eq_false (fun q=>nomatch q)
def bL (prog:Program) (w:World):PySem.KeyKind prog w cJ where
 is:=jD
 hash:=Fb w
 inj:=fun v a b ha hb=>by
  rcases bO ha with ⟨i,t,rfl,rfl⟩ | ⟨x,t,rfl,rfl⟩
  ·rcases bO hb with ⟨j,u,rfl,e⟩ | ⟨y,u,rfl,e⟩
   ·injection e with e1 _;rw [e1]
   ·exact nomatch e
  ·rcases bO hb with ⟨j,u,rfl,e⟩ | ⟨y,u,rfl,e⟩
   ·exact nomatch e
   ·injection e with e1 _;rw [e1]
 byValue:=fun k v h=>by
  rcases bO h with ⟨i,t,rfl,rfl⟩ | ⟨x,t,rfl,rfl⟩ <;> rfl
 pyHash:=fun hv h=>by
  rcases bO hv with ⟨i,t,rfl,rfl⟩ | ⟨x,t,rfl,rfl⟩
  ·exact wpAny_pyHash_int h
  ·exact wpAny_pyHash_str h
 eqBool:=fun hu hv h=>by
  rcases bO hu with ⟨i,t,rfl,rfl⟩ | ⟨x,t,rfl,rfl⟩
  ·rcases bO hv with ⟨j,u,rfl,rfl⟩ | ⟨y,u,rfl,rfl⟩
   ·rw [BK] at h;exact wpAny_eqBool_int h
   ·rw [BJ] at h;exact SeqAt.EqAt.int_str i t y u _ _ _ _ h
  ·rcases bO hv with ⟨j,u,rfl,rfl⟩ | ⟨y,u,rfl,rfl⟩
   ·rw [BI] at h;exact SeqAt.EqAt.str_int x t j u _ _ _ _ h
   ·rw [BH] at h;exact wpAny_eqBool_str h
 «strs»:=fun k x t v h=>by
  rcases bO h with ⟨i,u,rfl,e⟩ | ⟨y,u,rfl,e⟩
  ·exact nomatch e
  ·injection e with e1 _
   subst e1
   cases v <;> rfl
theorem mV (prog:Program) (w:World) (i:Int) (t:Tok):(bL prog w).is (.inl i) (.int i t)=true:=rq i t
theorem mU (prog:Program) (w:World) (x:Str) (t:Tok):(bL prog w).is (.inr x) (.str x t)=true:=rk x t
end L2
namespace L2
open PySem PySem.Spec PyProof.Rows
inductive V where
 | non | bl (b:Bool) | int (i:Int) | str (x:Str) | byt (b:Array UInt8) | flt (b:UInt64) | ref (a:Addr) | ty (n:String)
 deriving DecidableEq
def aY:V->Value->Prop
 | .non,u=>u=Value.none
 | .bl b,u=>u=Value.bool b
 | .int i,u=>∃ t,u=Value.int i t
 | .str x,u=>∃ t,u=Value.str x t
 | .byt b,u=>∃ t,u=Value.bytes b t
 | .flt b,u=>∃ t,u=Value.float b t
 | .ref a,u=>u=Value.ref a
 | .ty n,u=>u=Value.type n
abbrev aZ:List V->List Value->Prop:=Paired aY
theorem aZ.length {xs:List V} {us:List Value} (r:aZ xs us):xs.length=us.length:=Paired.length r
theorem aZ.get:∀ {xs:List V} {us:List Value} {i:Nat} {x:V},aZ xs us->xs[i]?=some x->∃ u,us[i]?=some u/\aY x u
 | _,_,_,_,.nil,e=>by simp at e
 | _,_,0,_,.cons r _,e=>by simp at e;subst e;exact⟨_,rfl,r⟩
 | _,_,i+1,x,.cons _ t,e=>by
  obtain⟨u,h1,h2⟩:=aZ.get (i:=i) (x:=x) t (by simpa using e)
  exact⟨u,by simpa using h1,h2⟩
theorem aZ.set {x:V} {u:Value} (r:aY x u):∀ {xs:List V} {us:List Value} (i:Nat),aZ xs us->aZ (xs.set i x) (us.set i u)
 | _,_,_,.nil=>.nil
 | _,_,0,.cons _ t=>.cons r t
 | _,_,i+1,.cons q t=>.cons q (aZ.set r i t)
theorem aZ.append:∀ {xs ys:List V} {us ws:List Value},aZ xs us->aZ ys ws->aZ (xs++ys) (us++ws)
 | _,_,_,_,.nil,s=>s
 | _,_,_,_,.cons r t,s=>.cons r (aZ.append t s)
theorem aZ.take:∀ {xs:List V} {us:List Value} (n:Nat),aZ xs us->aZ (xs.take n) (us.take n)
 | _,_,0,_=>.nil
 | _,_,_+1,.nil=>.nil
 | _,_,n+1,.cons r t=>.cons r (aZ.take n t)
theorem aZ.drop:∀ {xs:List V} {us:List Value} (n:Nat),aZ xs us->aZ (xs.drop n) (us.drop n)
 | _,_,0,r=>r
 | _,_,_+1,.nil=>.nil
 | _,_,n+1,.cons _ t=>aZ.drop n t
def ft:Option V->Option Value->Prop
 | some v,some u=>aY v u
 | none,none=>True
 | _,_=>False
def KV {κ:Type}:List (κ×V)->List (κ×Value)->Prop:=Paired fun (p:κ×V) (q:κ×Value)=>p.1=q.1/\aY p.2 q.2
def kV:cJ->V
 | .inl i=>.int i
 | .inr x=>.str x
inductive HO where
 | lst (xs:List V)
 | tup (xs:List V)
 | dK (kvs:List (cJ×V)) | dT (kvs:List (List cJ×V))
 | set (S:Int->Bool) (n:Nat)
 | ins (C dx:Addr) (fs:List (Str×V))
 | own (x:Addr)
 | xd (fs:List (Str×V))
 | met (f x:Addr)
 | rng (lo hi:Int)
 | frz (o:Obj) (u:HO)
 | tbl (ps:Array Value)
 | ext (φ:Heap->Prop)
abbrev Hp:=Addr->Option HO
def upd (H:Hp) (a:Addr) (o:HO):Hp:=fun b=>if b=a then some o else H b
theorem ag {H:Hp} {a:Addr} {o:HO}:upd H a o a=some o:=by unfold upd;rw [if_pos rfl]
theorem av {H:Hp} {a b:Addr} {o:HO} (h:b≠a):upd H a o b=H b:=by unfold upd;rw [if_neg h]
theorem gF {H:Hp} {a:Addr} {o u:HO}:upd (upd H a o) a u=upd H a u:=by
 funext b;unfold upd;split <;> rfl
theorem Dz {H:Hp} {a b:Addr} {o u:HO} (h:H a=some o) (h':H b=some u) (d:o≠u):a≠b:=by
 intro e;subst e;rw [h] at h';exact d (Option.some.inj h')
theorem aA {H:Hp} {a b:Addr} {o:HO} (h:H a=some o) (h':H b=none):a≠b:=by
 intro e;subst e;rw [h] at h';cases h'
section
variable (P:Program) (w:World)
def ObjOk (H:Hp) (h:Heap) (a:Addr):HO->Prop
 | .lst xs=>xs.length≤sizeLine/\∃ (its:List Value) (n:Nat),aZ xs its/\h.get? a=some { cls:=.type "list", data:=.seq its.toArray n }
 | .tup xs=>xs.length≤sizeLine/\∃ its:List Value,aZ xs its/\IsTup h a its.toArray
 | .dK kvs=>kvs.length≤sizeLine/\(a == sysModules)=false/\∃ vs,KV kvs vs/\h.DictOf (bL P w) a vs
 | .dT kvs=>kvs.length≤sizeLine/\(a == sysModules)=false/\∃ xs:List (List cJ×Addr×Value),
   Paired (fun (p:List cJ×V) (q:List cJ×Addr×Value)=>p.1=q.1/\H q.2.1=some (.tup (p.1.map kV))/\aY p.2 q.2.2) kvs xs∧
   ∃ o es ep,h.get? a=some o/\o.ExactDict/\o.data=.dict es ep/\es.toList=xs.map (entryOfKey (tupleKind (bL P w)))/\(xs.map (·.1)).Nodup
 | .set S n=>h.SetOf (intKind P w) a S n
 | .ins C dx fs=>H dx=some (.own a)/\fs.length≤1000/\dx≠a/\h.get? a=some (PySem.W.instObj C dx)∧
   ∃ mA,h.Ns1 dx mA/\(∀ f,ft (fs.lookup f) (mA f))/\PySem.Within mA (fs.map (·.1))
 | .own _=>∃ o,h.get? a=some o
 | .xd fs=>∃ mA,h.Ns1 a mA/\∀ f,ft (fs.lookup f) (mA f)
 | .rng lo hi=>∃ t u v,h.get? a=some { cls:=.type "range", data:=.fields #[.int lo t,.int hi u,.int 1 v] }
 | .frz o u=>h.get? a=some o/\ObjOk H h a u
 | .tbl ps=>h.get? a=some { cls:=.none,data:=.fields ps }
 | .met f x=>h.get? a=some (PySem.W.methodObj (.ref f) (.ref x))
 | .ext φ=>φ h/\(∃ o,h.get? a=some o)/\∀ h1 h2:Heap,φ h1->(∀ o,h1.get? a=some o->h2.get? a=some o)->φ h2
def fP (H:Hp) (h:Heap):Prop:=∀ a o,H a=some o->ObjOk P w H h a o
end
section
variable {P:Program} {w:World} {H H':Hp} {h h':Heap} {a:Addr} {o:HO}
theorem ObjOk.lt (x:ObjOk P w H h a o):a < h.objs.size:=by
 cases o with
 | lst xs=>obtain⟨_,_,_,_,e⟩:=x;exact Heap.lt_size e
 | tup xs=>obtain⟨_,_,_,p⟩:=x;exact p.lt
 | dK kvs=>obtain⟨_,_,_,_,o,_,_,e,_⟩:=x;exact Heap.lt_size e
 | dT kvs=>obtain⟨_,_,_,_,o,_,_,e,_⟩:=x;exact Heap.lt_size e
 | set S n=>obtain⟨o,_,_,_,e,_⟩:=x;exact Heap.lt_size e
 | ins C dx fs=>obtain⟨_,_,_,e,_⟩:=x;exact Heap.lt_size e
 | own y=>obtain⟨_,e⟩:=x;exact Heap.lt_size e
 | xd fs=>obtain⟨_,⟨_,_,_,e,_⟩,_⟩:=x;exact Heap.lt_size e
 | rng lo hi=>obtain⟨_,_,_,e⟩:=x;exact Heap.lt_size e
 | frz ob u=>obtain⟨e,_⟩:=x;exact Heap.lt_size e
 | tbl ps=>exact Heap.lt_size (show h.get? a=some _ from x)
 | met f y=>exact Heap.lt_size (show h.get? a=some _ from x)
 | ext φ=>obtain⟨_,⟨_,e⟩,_⟩:=x;exact Heap.lt_size e
theorem Paired.mapP {α β:Type} {F G:α->β->Prop}:∀ {l₁:List α} {l₂:List β},Paired F l₁ l₂->(∀ a b,F a b->G a b)->Paired G l₁ l₂
 | _,_,.nil,_=>.nil
 | _,_,.cons r t,f=>.cons (f _ _ r) (Paired.mapP t f)
theorem ObjOk.stay (x:ObjOk P w H h a o) (k:∀ b u,(b=a∨H b=some (.own a))->h.get? b=some u->h'.get? b=some u)
  (ho:∀ b,H b=some (.own a)->H' b=some (.own a)) (ht:∀ b xs,H b=some (.tup xs)->H' b=some (.tup xs)):ObjOk P w H' h' a o:=by
 induction o with
 | lst xs=>obtain⟨z,its,n,r,e⟩:=x;exact⟨z,its,n,r,k _ _ (.inl rfl) e⟩
 | tup xs=>obtain⟨z,its,r,ob,e,c⟩:=x;exact⟨z,its,r,ob,k _ _ (.inl rfl) e,c⟩
 | dK kvs=>obtain⟨z,y,vs,r,ob,es,ep,e,c⟩:=x;exact⟨z,y,vs,r,ob,es,ep,k _ _ (.inl rfl) e,c⟩
 | dT kvs=>
  obtain⟨z,y,xs,r,ob,es,ep,e,c⟩:=x
  exact⟨z,y,xs,Paired.mapP r fun p q z=>⟨z.1,ht _ _ z.2.1,z.2.2⟩,ob,es,ep,k _ _ (.inl rfl) e,c⟩
 | set S n=>obtain⟨ob,es,ep,t,e,c⟩:=x;exact⟨ob,es,ep,t,k _ _ (.inl rfl) e,c⟩
 | ins C dx fs=>
  obtain⟨d,z,ne,e,mA,⟨od,es,ep,e2,c⟩,r⟩:=x
  exact⟨ho _ d,z,ne,k _ _ (.inl rfl) e,mA,⟨od,es,ep,k _ _ (.inr d) e2,c⟩,r⟩
 | own y=>obtain⟨ob,e⟩:=x;exact⟨ob,k _ _ (.inl rfl) e⟩
 | xd fs=>obtain⟨mA,⟨od,es,ep,e,c⟩,r⟩:=x;exact⟨mA,⟨od,es,ep,k _ _ (.inl rfl) e,c⟩,r⟩
 | rng lo hi=>obtain⟨t,u,v,e⟩:=x;exact⟨t,u,v,k _ _ (.inl rfl) e⟩
 | frz ob u ih=>obtain⟨e,q⟩:=x;exact⟨k _ _ (.inl rfl) e,ih q⟩
 | tbl ps=>
  have e:h.get? a=some { cls:=.none,data:=.fields ps }:=x
  show h'.get? a=some { cls:=.none,data:=.fields ps }
  exact k a _ (.inl rfl) e
 | met f y=>
  have e:h.get? a=some (PySem.W.methodObj (.ref f) (.ref y)):=x
  show h'.get? a=some (PySem.W.methodObj (.ref f) (.ref y))
  exact k a _ (.inl rfl) e
 | ext φ=>obtain⟨p,⟨o,e⟩,st⟩:=x;exact⟨st _ _ p fun o q=>k _ _ (.inl rfl) q,⟨o,k _ _ (.inl rfl) e⟩,st⟩
theorem fP.lt (x:fP P w H h) (e:H a=some o):a < h.objs.size:=(x a o e).lt
theorem fP.fresh (x:fP P w H h) (e:h.objs.size≤a):H a=none:=by
 cases q:H a with
 | none=>rfl
 | some u=>exact absurd (Nat.lt_of_lt_of_le (x.lt q) e) (Nat.lt_irrefl _)
theorem fP.kept (x:fP P w H h) (k:∀ b u,h.get? b=some u->h'.get? b=some u):fP P w H h':=fun a o e=>
 (x a o e).stay (fun b u _ q=>k b u q) (fun _ q=>q) fun _ _ q=>q
theorem fP.laid (x:fP P w H h) (k:∀ b u,h.get? b=some u->h'.get? b=some u) (hp:h.objs.size≤a) (new:ObjOk P w (upd H a o) h' a o):fP P w (upd H a o) h':=fun b u e=>by
 have hn:=x.fresh hp
 by_cases hb:b=a
 ·subst hb;rw [ag] at e;cases e;exact new
 ·rw [av hb] at e
  exact (x b u e).stay (fun c v _ q=>k c v q) (fun c q=>by rw [av (aA q hn)];exact q) fun c xs q=>by rw [av (aA q hn)];exact q
end
def Rd (H:Hp) (a:Addr) (u:HO):Prop:=H a=some u∨∃ o,H a=some (.frz o u)
theorem Rd.ok {P:Program} {w:World} {H:Hp} {h:Heap} {a:Addr} {u:HO} (r:Rd H a u) (x:fP P w H h):ObjOk P w H h a u:=by
 rcases r with r | ⟨o,r⟩
 ·exact x a u r
 ·obtain⟨_,q⟩:=x a _ r
  exact q
def D5:Option HO->Prop
 | some (.lst _)=>True
 | some (.dK _)=>True
 | some (.dT _)=>True
 | some (.set _ _)=>True
 | some (.ins _ _ _)=>True
 | some (.ext _)=>True
 | _=>False
section
variable {P:Program} {w:World} {H:Hp} {h h':Heap} {x e:Addr} {o':HO}
theorem fP.write (ok:fP P w H h) (mu:D5 (H x)) (he:e=x∨H e=some (.own x)) (k:∀ b u,b≠e->h.get? b=some u->h'.get? b=some u) (heo:∃ u,h'.get? e=some u)
  (new:ObjOk P w (upd H x o') h' x o'):fP P w (upd H x o') h':=fun b u q=>by
 have nown:∀ c y,H c=some (.own y)->c≠x:=fun c y r z=>by subst z;rw [r] at mu;exact mu
 have ntup:∀ c xs,H c=some (.tup xs)->c≠x:=fun c xs r z=>by subst z;rw [r] at mu;exact mu
 by_cases hb:b=x
 ·subst hb;rw [ag] at q;cases q;exact new
 ·rw [av hb] at q
  by_cases hbe:b=e
  ·have q':H b=some (.own x):=by
    rcases he with z | z
    ·exact absurd (hbe.trans z) hb
    ·rw [hbe];exact z
   rw [q] at q';cases q'
   obtain⟨v,hv⟩:=heo
   exact⟨v,by rw [hbe];exact hv⟩
  ·refine (ok b u q).stay (fun c v hc r=>k c v ?_ r) (fun c r=>by rw [av (nown c b r)];exact r) fun c xs r=>by rw [av (ntup c xs r)];exact r
   rcases hc with rfl | hc
   ·exact hbe
   ·rintro rfl
    rcases he with z | z
    ·exact nown c b hc z
    ·rw [hc] at z;cases z;exact hb rfl
end
structure Un (fs ex:List Addr) (H H':Hp) (h h':Heap):Prop where
 keep:∀ b o,h.get? b=some o->H b=none->b∉fs->b∉ex->h'.get? b=some o
 slot:∀ b o,h.get? b=some o->H b=none->b∈fs->b∉ex->∃ sl,h'.get? b=some { o with slots:=sl }
 free:∀ b o,h.get? b=some o->H b=none->b∉ex->H' b=none
 there:∀ b o,h.get? b=some o->b∉ex->∃ o',h'.get? b=some o'
 tups:∀ b xs,H b=some (.tup xs)->H' b=some (.tup xs)
 frzs:∀ b o u,H b=some (.frz o u)->H' b=some (.frz o u)
 tbls:∀ b ps,H b=some (.tbl ps)->∃ more,H' b=some (.tbl (ps++more))
section
variable {fs fs' ex ex':List Addr} {H H1 H2:Hp} {h h1 h2 h':Heap} {a x e:Addr} {o:HO}
theorem Un.any (u:Un fs ex H H1 h h1) {b:Addr} {ob:Obj} (q:h.get? b=some ob) (n:H b=none) (hx:b∉ex):∃ sl,h1.get? b=some { ob with slots:=sl }:=by
 by_cases hb:b∈fs
 ·exact u.slot b ob q n hb hx
 ·exact⟨ob.slots,u.keep b ob q n hb hx⟩
theorem Un.kept (k:∀ b u,h.get? b=some u->h'.get? b=some u):Un fs ex H H h h':=
 ⟨fun b ob q _ _ _=>k b ob q,fun b ob q _ _ _=>⟨ob.slots,k b ob q⟩,fun _ _ _ n _=>n,fun b ob q _=>⟨ob,k b ob q⟩,fun _ _ q=>q,fun _ _ _ q=>q,fun _ ps q=>⟨#[],by rw [q];simp⟩⟩
theorem Un.refl:Un fs ex H H h h:=Un.kept fun _ _ q=>q
theorem Un.laid (k:∀ b u,h.get? b=some u->h'.get? b=some u) (hp:h.objs.size≤a) (hn:H a=none):Un fs ex H (upd H a o) h h' where
 keep:=fun b u q _ _ _=>k b u q
 slot:=fun b u q _ _ _=>⟨u.slots,k b u q⟩
 free:=fun b u q n _=>by rw [av (Nat.ne_of_lt (Nat.lt_of_lt_of_le (Heap.lt_size q) hp))];exact n
 there:=fun b u q _=>⟨u,k b u q⟩
 tups:=fun b xs q=>by rw [av (aA q hn)];exact q
 frzs:=fun b u xs q=>by rw [av (aA q hn)];exact q
 tbls:=fun b ps q=>⟨#[],by rw [av (aA q hn),q];simp⟩
theorem Un.write (mu:D5 (H x)) (he:e=x∨H e=some (.own x)) (k:∀ b u,b≠e->h.get? b=some u->h'.get? b=some u) (heo:∃ u,h'.get? e=some u):Un fs ex H (upd H x o) h h':=by
 have hx:∀ b,H b=none->b≠x:=fun b n z=>by subst z;rw [n] at mu;exact mu
 have hb:∀ b,H b=none->b≠e:=fun b n z=>by
  subst z
  rcases he with r | r
  ·exact hx b n r
  ·rw [n] at r;cases r
 have hm:∀ b u,H b=some u->¬ D5 (some u)->b≠x:=fun b u q nm z=>by subst z;rw [q] at mu;exact nm mu
 refine⟨fun b u q n _ _=>k b u (hb b n) q,fun b u q n _ _=>⟨u.slots,k b u (hb b n) q⟩,fun b u q n _=>by rw [av (hx b n)];exact n,fun b u q _=>?_,
  fun b xs q=>by rw [av (hm b _ q fun z=>z)];exact q,fun b u xs q=>by rw [av (hm b _ q fun z=>z)];exact q,fun b ps q=>⟨#[],by rw [av (hm b _ q fun z=>z),q];simp⟩⟩
 by_cases hbe:b=e
 ·subst hbe;exact heo
 ·exact⟨u,k b u hbe q⟩
end
def zR (h:Heap) (H:Hp):List Addr:=(List.range h.objs.size).filter fun a=>(H a).isSome
def jT (h:Heap) (H:Hp):Heap:=PySem.W.hideAll h (zR h H)
theorem rE (h:Heap) (H:Hp):(jT h H).objs.size=h.objs.size:=PySem.W.hideAll_size _ _
theorem vP {h:Heap} {H:Hp} {b:Addr} {o:Obj} (e:h.get? b=some o) (n:H b=none):(jT h H).get? b=some o:=
 PySem.W.hideAll_get _ e fun hm=>by
  have q:(H b).isSome=true:=(List.mem_filter.mp hm).2
  rw [n] at q;simp at q
theorem xX {h:Heap} {H:Hp} {b:Addr} {o:Obj} (e:(jT h H).get? b=some o):h.get? b=some o/\H b=none:=by
 have e':h.get? b=some o:=PySem.W.of_hideAll (zR h H) e
 refine⟨e',?_⟩
 cases q:H b with
 | none=>rfl
 | some x=>
  have hm:b∈zR h H:=List.mem_filter.mpr ⟨List.mem_range.mpr (Heap.lt_size e'),by simp [q]⟩
  have z:(jT h H).get? b=none:=PySem.W.hideAll_none (zR h H) hm
  rw [z] at e;cases e
def hU (g h:Heap) (L:Addr):List (Addr×Obj):=(List.range h.objs.size).filterMap fun a=>if a=L∨(g.get? a).isSome=true then none else (h.get? a).map fun o=>(a,o)
theorem mZ {g h:Heap} {L a:Addr} {o:Obj} (h1:a≠L) (h2:g.get? a=none) (h3:h.get? a=some o):(a,o)∈hU g h L:=
 List.mem_filterMap.mpr ⟨a,List.mem_range.mpr (Heap.lt_size h3),by simp [h1,h2,h3]⟩
theorem jv {g h:Heap} {L:Addr} {p:Addr×Obj} (hp:p∈hU g h L):p.1≠L/\g.get? p.1=none/\h.get? p.1=some p.2:=by
 obtain⟨b,_,e⟩:=List.mem_filterMap.mp hp
 split at e
 ·cases e
 ·rename_i hn
  cases q:h.get? b with
  | none=>rw [q] at e;simp at e
  | some u=>
   rw [q] at e
   simp only [Option.map_some,Option.some.injEq] at e
   subst e
   refine⟨fun z=>hn (.inl z),?_,q⟩
   show g.get? b=none
   cases r:g.get? b with
   | none=>rfl
   | some v=>exact (hn (.inr (by simp [r]))).elim
def cr (g h:Heap) (L d:Addr):List (Addr×Obj):=(hU g h L).filter fun p=>decide (p.1≠d)
end L2
namespace L2
open PySem PySem.Spec PyProof.Rows
structure Mod (K:PySem.W.Frag) (mg:Str->Option Value) (base:Heap):Prop where
 kin:K.In base
 glob:base.Ns mainGlobals mg
 blt:∃ mb,base.Ns builtinsNs mb/\∀ x:Str,x ≠ "__name__" -> mb x=bootBuiltins x
 nolimit:base.NoLimit
structure Cx where
 prog:Program
 w:World
 K:PySem.W.Frag
 mg:Str->Option Value
 base:Heap
 A:Around
 N:List Str
 s₀:Shared
 H₀:Hp
 env:Env
 outer:List Env
 stack:List Env
 ex:List Addr
 fn:Str->Bool
 calm:Bool
 pn:List (Addr×Obj)
 xe:Value->Shared->Prop
def iW (l:List Env):List Addr:=l.filterMap (·.frame)
abbrev Cx.fs (X:Cx):List Addr:=iW X.outer
def DV (sc:Scope) (x:Str):Prop:=sc.names.lookup x=some .local∨sc.names.lookup x=some .cell∨sc.names.lookup x=some .free
def wB (sc:Scope) (x:Str):Prop:=sc.names.lookup x=some .local∨sc.names.lookup x=some .cell
def Fo (env:Env) (h:Heap) (m:Str->Option Value) (x:Str) (u:Value):Prop:=
 (env.kindOf x=some .local/\m x=some u)∨((env.kindOf x=some .cell∨env.kindOf x=some .free)/\∃ c,env.cells.lookup x=some c/\h.IsCell c (some u))
structure Cx.Ok (X:Cx):Prop where
 mod:Mod X.K X.mg X.base
 kind:X.env.scope.kind=.function
 glob:X.env.globals=mainGlobals
 blt:X.env.builtins=builtinsNs
 above:X.s₀.heap.objs.size≤X.env.locals
 inj:∀ x y c,X.env.cells.lookup x=some c->X.env.cells.lookup y=some c->x=y
 has:∀ x,(X.env.kindOf x=some .cell∨X.env.kindOf x=some .free)->∃ c,X.env.cells.lookup x=some c
 cab:∀ x c,X.fn x=true->X.env.cells.lookup x=some c->X.s₀.heap.objs.size≤c
 hd:X.calm=true->X.A.handled=none
 frames:X.A.frames=some X.stack
 stk:X.stack=X.outer∨(X.stack=X.env :: X.outer/\X.env.frame=some X.env.locals)
 exf:∀ b∈X.ex,b≠X.env.locals/\∀ x c,X.env.cells.lookup x=some c->c≠b
 bs:∀ b o,X.base.get? b=some o->X.s₀.heap.get? b=some o/\X.H₀ b=none
 bsz:X.base.objs.size≤X.s₀.heap.objs.size
 noex:∀ b o,X.base.get? b=some o->b∉X.ex
 exfs:∀ b∈X.ex,b∉X.fs
 funs:X.s₀.heap.FunFrames X.base X.outer
 frf:∀ b∈X.fs,X.H₀ b=none
structure Inv (X:Cx) (pins:List (Addr×Obj)) (σ:List (Option V)) (H:Hp) (s:Shared):Prop where
 ok:X.Ok
 os:s.os=X.s₀.os
 bare:AllBare s.gens
 base:Un X.fs X.ex X.H₀ H X.s₀.heap s.heap
 loc:∃ m,s.heap.Ns X.env.locals m/\∀ (i:Nat) (x:Str) (v:V),X.N[i]?=some x->σ[i]?=some (some v)->DV X.env.scope x->∃ u,aY v u/\Fo X.env s.heap m x u
 cell:∀ x c,X.env.cells.lookup x=some c->∃ v,s.heap.IsCell c v
 free:H X.env.locals=none
 freeC:∀ x c,X.env.cells.lookup x=some c->H c=none
 pin:∀ p∈X.pn++pins,s.heap.get? p.1=some p.2/\H p.1=none/\p.1≠X.env.locals/\p.1∉X.fs/\∀ v,p.2.data≠.cell v
 hok:fP X.prog X.w H s.heap
 len:σ.length=X.N.length
section
variable {X:Cx} {pins:List (Addr×Obj)} {σ:List (Option V)} {H H':Hp} {s:Shared} {h':Heap}
theorem Cx.Ok.nofr (ok:X.Ok) {b:Addr} {o:Obj} (e:X.base.get? b=some o):b∉X.fs:=fun hb=>by
 have:=(ok.funs.mem hb).1
 rw [e] at this;cases this
theorem Inv.bs (I:Inv X pins σ H s):∀ b o,X.base.get? b=some o->s.heap.get? b=some o/\H b=none:=fun b o e=>
 ⟨I.base.keep b o (I.ok.bs b o e).1 (I.ok.bs b o e).2 (I.ok.nofr e) (I.ok.noex b o e),I.base.free b o (I.ok.bs b o e).1 (I.ok.bs b o e).2 (I.ok.noex b o e)⟩
theorem Inv.bk (I:Inv X pins σ H s):∀ b o,X.base.get? b=some o->s.heap.get? b=some o:=fun b o e=>(I.bs b o e).1
theorem Inv.mod (I:Inv X pins σ H s):Mod X.K X.mg X.base:=I.ok.mod
theorem Inv.kIn (I:Inv X pins σ H s):X.K.In s.heap:=I.ok.mod.kin.keeps I.bk
theorem Inv.nolimit (I:Inv X pins σ H s):s.heap.NoLimit:=I.ok.mod.nolimit.keeps I.bk
theorem Inv.lt (I:Inv X pins σ H s):X.env.locals < s.heap.objs.size:=let ⟨_,hn,_⟩:=I.loc;hn.lt
theorem Inv.sz (I:Inv X pins σ H s):X.s₀.heap.objs.size≤s.heap.objs.size:=Nat.le_trans I.ok.above (Nat.le_of_lt I.lt)
theorem Inv.nofs (I:Inv X pins σ H s) {a:Addr} (h:s.heap.objs.size≤a):a∉X.fs:=fun hb=>by
 obtain⟨_,o,ho,_⟩:=I.ok.funs.mem hb
 exact absurd (Nat.lt_of_lt_of_le (Heap.lt_size ho) (Nat.le_trans I.sz h)) (Nat.lt_irrefl _)
theorem Inv.cne (I:Inv X pins σ H s):∀ x c,X.env.cells.lookup x=some c->c≠X.env.locals:=fun x c e z=>by
 obtain⟨v,o,ho,hd⟩:=I.cell x c e
 obtain⟨m,⟨o',es,ep,ho',hd',_⟩,_⟩:=I.loc
 rw [z,ho'] at ho;cases ho;rw [hd'] at hd;cases hd
theorem Inv.funs (I:Inv X pins σ H s):s.heap.FunFrames X.base X.outer:=by
 have all:∀ (l:List Env),(∀ b∈iW l,b∈X.fs)->X.s₀.heap.FunFrames X.base l->s.heap.FunFrames X.base l:=by
  intro l
  induction l with
  | nil=>intro _ _;trivial
  | cons env r ih=>
   intro hs hl
   obtain⟨hk,⟨L,o,hf,hn,ho,hd⟩,hr⟩:=hl
   have hL:L∈X.fs:=hs L (by unfold iW;rw [List.filterMap_cons,hf];exact List.mem_cons_self)
   obtain⟨sl,e⟩:=I.base.slot L o ho (I.ok.frf L hL) hL fun z=>I.ok.exfs L z hL
   exact⟨hk,⟨L,_,hf,hn,e,hd⟩,ih (fun b hb=>hs b (by unfold iW;rw [List.filterMap_cons,hf];exact List.mem_cons_of_mem _ hb)) hr⟩
 exact all X.outer (fun _ hb=>hb) I.ok.funs
theorem Inv.stack (I:Inv X pins σ H s):s.heap.FunFrames X.base X.stack:=by
 rcases I.ok.stk with e | ⟨e,hf⟩
 ·rw [e];exact I.funs
 ·rw [e]
  obtain⟨m,hn,_⟩:=I.loc
  refine .cons (by rw [I.ok.kind];decide) hf hn ?_ I.funs
  exact Heap.get?_none_of_le (Nat.le_trans I.ok.bsz I.ok.above)
theorem Inv.stkSub (I:Inv X pins σ H s):∀ b∈iW X.stack,b∈X.env.locals :: X.fs:=fun b hb=>by
 rcases I.ok.stk with e | ⟨e,hf⟩
 ·rw [e] at hb;exact List.mem_cons_of_mem _ hb
 ·rw [e] at hb
  unfold iW at hb
  rw [List.filterMap_cons,hf] at hb
  exact hb
theorem Inv.stkFree (I:Inv X pins σ H s):∀ b∈iW X.stack,H b=none:=fun b hb=>by
 rcases List.mem_cons.mp (I.stkSub b hb) with e | hb
 ·rw [e];exact I.free
 ·obtain⟨_,o,ho,_⟩:=I.ok.funs.mem hb
  exact I.base.free b o ho (I.ok.frf b hb) fun z=>I.ok.exfs b z hb
theorem Inv.step {g':Array GenState} {t':Nat} {d':Drawn} {ch:List Addr} (I:Inv X pins σ H s)
  (hch:∀ b∈ch,(b∈X.ex∨X.s₀.heap.get? b=none)/\b≠X.env.locals/\(∀ x c,X.env.cells.lookup x=some c->c≠b)/\∀ p∈X.pn++pins,p.1≠b)
  (keep:∀ b o,b≠X.env.locals->b∉X.fs->b∉ch->s.heap.get? b=some o->H b=none->h'.get? b=some o)
  (slot:∀ b o,b≠X.env.locals->b∈X.fs->b∉ch->s.heap.get? b=some o->H b=none->∃ sl,h'.get? b=some { o with slots:=sl }) (free:∀ b o,b∉ch->s.heap.get? b=some o->H b=none->H' b=none)
  (there:∀ b o,b∉ch->s.heap.get? b=some o->∃ o',h'.get? b=some o')
  (tups:∀ b xs,H b=some (.tup xs)->H' b=some (.tup xs)) (frzs:∀ b o u,H b=some (.frz o u)->H' b=some (.frz o u)) (tbls:∀ b ps,H b=some (.tbl ps)->∃ more,H' b=some (.tbl (ps++more)))
  (ns:∀ m,s.heap.Ns X.env.locals m->h'.Ns X.env.locals m) (hok:fP X.prog X.w H' h') (hg:AllBare g') :
  Inv X pins σ H' { s with heap:=h',gens:=g',drawn:=d',toks:=t' }:=by
 have neL:∀ b o,X.s₀.heap.get? b=some o->b≠X.env.locals:=fun b o e=>Nat.ne_of_lt (Nat.lt_of_lt_of_le (Heap.lt_size e) I.ok.above)
 have neC:∀ b o,X.s₀.heap.get? b=some o->b∉X.ex->b∉ch:=fun b o e hx hb=>by
  rcases (hch b hb).1 with z | z
  ·exact hx z
  ·rw [e] at z;cases z
 have cellK:∀ x c,X.env.cells.lookup x=some c->∀ v,s.heap.IsCell c v->h'.IsCell c v:=fun x c e v ⟨o,ho,hd⟩=>by
  have nch:c∉ch:=fun z=>(hch c z).2.2.1 x c e rfl
  by_cases hc:c∈X.fs
  ·obtain⟨sl,q⟩:=slot c o (I.cne x c e) hc nch ho (I.freeC x c e)
   exact⟨_,q,hd⟩
  ·exact⟨o,keep c o (I.cne x c e) hc nch ho (I.freeC x c e),hd⟩
 refine⟨I.ok,I.os,hg,⟨fun b o e n hb hx=>?_,fun b o e n hb hx=>?_,fun b o e n hx=>?_,fun b o e hx=>?_,fun b xs e=>tups b xs (I.base.tups b xs e),fun b o xs e=>frzs b o xs (I.base.frzs b o xs e),fun b ps e=>?_⟩,?_,fun x c e=>?_,?_,fun x c e=>?_,fun p hp=>?_,hok,I.len⟩
 ·exact keep b o (neL b o e) hb (neC b o e hx) (I.base.keep b o e n hb hx) (I.base.free b o e n hx)
 ·obtain⟨sl,e1⟩:=I.base.slot b o e n hb hx
  obtain⟨sl',e2⟩:=slot b _ (neL b o e) hb (neC b o e hx) e1 (I.base.free b o e n hx)
  exact⟨sl',e2⟩
 ·obtain⟨o',e1⟩:=I.base.there b o e hx
  exact free b o' (neC b o e hx) e1 (I.base.free b o e n hx)
 ·obtain⟨o',e1⟩:=I.base.there b o e hx
  exact there b o' (neC b o e hx) e1
 ·obtain⟨m1,e1⟩:=I.base.tbls b ps e
  obtain⟨m2,e2⟩:=tbls b _ e1
  exact⟨m1++m2,by rw [e2,Array.append_assoc]⟩
 ·obtain⟨m,hn,hl⟩:=I.loc
  refine⟨m,ns m hn,fun i x v e1 e2 e3=>?_⟩
  obtain⟨u,r,l⟩:=hl i x v e1 e2 e3
  refine⟨u,r,?_⟩
  rcases l with l | ⟨k,c,e,z⟩
  ·exact .inl l
  ·exact .inr ⟨k,c,e,cellK x c e _ z⟩
 ·obtain⟨v,z⟩:=I.cell x c e
  exact⟨v,cellK x c e v z⟩
 ·obtain⟨m,⟨o,_,_,ho,_⟩,_⟩:=I.loc
  exact free _ o (fun z=>(hch _ z).2.1 rfl) ho I.free
 ·obtain⟨v,o,ho,hd⟩:=I.cell x c e
  exact free c o (fun z=>(hch c z).2.2.1 x c e rfl) ho (I.freeC x c e)
 ·obtain⟨e,n,ne,nf,d⟩:=I.pin p hp
  have nch:p.1∉ch:=fun z=>(hch p.1 z).2.2.2 p hp rfl
  exact⟨keep p.1 p.2 ne nf nch e n,free p.1 p.2 nch e n,ne,nf,d⟩
theorem Inv.un {t':Nat} (I:Inv X pins σ H s) (u:Un X.fs [] H H' s.heap h') (hok:fP X.prog X.w H' h'):Inv X pins σ H' { s with heap:=h',toks:=t' }:=by
 obtain⟨m,⟨o,es,ep,ho,r⟩,_⟩:=id I.loc
 obtain⟨sl,hL⟩:=u.any ho I.free (by simp)
 exact I.step (g':=s.gens) (d':=s.drawn) (ch:=[]) (fun _ z=>nomatch z) (fun b o _ hb _ e n=>u.keep b o e n hb (by simp)) (fun b o _ hb _ e n=>u.slot b o e n hb (by simp)) (fun b o _ e n=>u.free b o e n (by simp)) (fun b o _ e=>u.there b o e (by simp)) u.tups u.frzs u.tbls (fun m' hm=>by
  obtain⟨o',es',ep',ho',r'⟩:=hm
  rw [ho] at ho';cases ho'
  exact⟨_,es',ep',hL,r'⟩) hok I.bare
theorem Inv.call {g':Array GenState} {t':Nat} {d':Drawn} {ch:List Addr} (I:Inv X pins σ H s) (u:Un (iW X.stack) ch H H' s.heap h') (hok:fP X.prog X.w H' h') (hg:AllBare g')
  (hch:∀ b∈ch,(b∈X.ex∨X.s₀.heap.get? b=none)/\b≠X.env.locals/\(∀ x c,X.env.cells.lookup x=some c->c≠b)/\∀ p∈X.pn++pins,p.1≠b) :
  Inv X pins σ H' { s with heap:=h',gens:=g',drawn:=d',toks:=t' }:=by
 obtain⟨m,⟨o,es,ep,ho,r⟩,_⟩:=id I.loc
 obtain⟨sl,hL⟩:=u.any ho I.free fun z=>(hch _ z).2.1 rfl
 exact I.step (ch:=ch) hch (fun b o hL hb hc e n=>u.keep b o e n (fun z=>(List.mem_cons.mp (I.stkSub b z)).elim hL hb) hc) (fun b o _ _ hc e n=>u.any e n hc) (fun b o hc e n=>u.free b o e n hc) (fun b o hc e=>u.there b o e hc) u.tups u.frzs u.tbls (fun m' hm=>by
  obtain⟨o',es',ep',ho',r'⟩:=hm
  rw [ho] at ho';cases ho'
  exact⟨_,es',ep',hL,r'⟩) hok hg
theorem Inv.turned {t':Nat} {it:Addr} (I:Inv X pins σ H s) (k:∀ b o,b≠it->s.heap.get? b=some o->h'.get? b=some o) (hn:H it=none) (hL:it≠X.env.locals)
  (h1:it∈X.ex∨X.s₀.heap.get? it=none) (h2:∀ x c,X.env.cells.lookup x=some c->c≠it) (h3:∀ p∈X.pn++pins,p.1≠it):Inv X pins σ H { s with heap:=h',toks:=t' }:=by
 have nit:∀ b u,H b=some u->b≠it:=fun b u e z=>by rw [z,hn] at e;cases e
 refine I.step (g':=s.gens) (d':=s.drawn) (ch:=[it]) (fun b hb=>?_) (fun b o _ _ hc e _=>k b o (fun z=>hc (by simp [z])) e) (fun b o _ _ hc e _=>⟨o.slots,k b o (fun z=>hc (by simp [z])) e⟩) (fun _ _ _ _ n=>n)
  (fun b o hc e=>⟨o,k b o (fun z=>hc (by simp [z])) e⟩) (fun _ _ e=>e) (fun _ _ _ e=>e) (fun b ps e=>⟨#[],by rw [e];simp⟩) (fun m hm=>?_) (fun b u e=>?_) I.bare
 ·have e:b=it:=by simpa using hb
  subst e
  exact⟨h1,hL,h2,h3⟩
 ·obtain⟨o,es,ep,ho,r⟩:=hm
  exact⟨o,es,ep,k _ o (Ne.symm hL) ho,r⟩
 ·refine (I.hok b u e).stay (fun c v hc q=>k c v ?_ q) (fun _ q=>q) fun _ _ q=>q
  rcases hc with z | z
  ·rw [z];exact nit b u e
  ·exact nit c _ z
theorem Inv.tok (I:Inv X pins σ H s) (t:Nat):Inv X pins σ H { s with toks:=t }:=I.un (h':=s.heap) (t':=t) Un.refl I.hok
theorem Inv.kept {t':Nat} (I:Inv X pins σ H s) (k:∀ b u,s.heap.get? b=some u->h'.get? b=some u):Inv X pins σ H { s with heap:=h',toks:=t' }:=I.un (Un.kept k) (I.hok.kept k)
theorem Inv.laid {a:Addr} {o:HO} {t':Nat} (I:Inv X pins σ H s) (k:∀ b u,s.heap.get? b=some u->h'.get? b=some u) (hp:s.heap.objs.size≤a) (new:ObjOk X.prog X.w (upd H a o) h' a o) :
  Inv X pins σ (upd H a o) { s with heap:=h',toks:=t' }:=I.un (Un.laid k hp (I.hok.fresh hp)) (I.hok.laid k hp new)
theorem Inv.write {x e:Addr} {o:HO} {t':Nat} (I:Inv X pins σ H s) (mu:D5 (H x)) (he:e=x∨H e=some (.own x)) (k:∀ b u,b≠e->s.heap.get? b=some u->h'.get? b=some u) (heo:∃ u,h'.get? e=some u)
  (new:ObjOk X.prog X.w (upd H x o) h' x o):Inv X pins σ (upd H x o) { s with heap:=h',toks:=t' }:=I.un (Un.write mu he k heo) (I.hok.write mu he k heo new)
theorem Inv.weak {σ':List (Option V)} (I:Inv X pins σ H s) (hl:σ'.length=σ.length) (w:∀ (i:Nat) v,σ'[i]?=some (some v)->σ[i]?=some (some v)):Inv X pins σ' H s:=
 ⟨I.ok,I.os,I.bare,I.base,let ⟨m,hn,hl'⟩:=I.loc;⟨m,hn,fun i x v e1 e2 e3=>hl' i x v e1 (w i v e2) e3⟩,I.cell,I.free,I.freeC,I.pin,I.hok,hl.trans I.len⟩
theorem Inv.pins_of {pins':List (Addr×Obj)} (I:Inv X pins σ H s) (h:∀ p∈pins',s.heap.get? p.1=some p.2/\H p.1=none/\p.1≠X.env.locals/\p.1∉X.fs/\∀ v,p.2.data≠.cell v):Inv X pins' σ H s:=
 ⟨I.ok,I.os,I.bare,I.base,I.loc,I.cell,I.free,I.freeC,fun p hp=>(List.mem_append.mp hp).elim (fun z=>I.pin p (List.mem_append_left _ z)) (h p),I.hok,I.len⟩
theorem jx {N:List Str} (hN:N.Nodup) {i j:Nat} {x:Str} (a:N[i]?=some x) (b:N[j]?=some x):i=j:=by
 obtain⟨h1,e1⟩:=List.getElem?_eq_some_iff.mp a
 obtain⟨h2,e2⟩:=List.getElem?_eq_some_iff.mp b
 exact (List.getElem_inj hN).mp (e1.trans e2.symm)
theorem qH {M:Model} {A:Around} {E:Value->Shared->Prop} {i:Nat} {x:Str} {v:V} {u:Value} {Q:Unit->Shared->Prop} (I:Inv X pins σ H s) (hN:X.N.Nodup) (hi:X.N[i]?=some x) (hx:wB X.env.scope x) (r:aY v u)
  (h:∀ s',Inv X pins (σ.set i (some v)) H s'->(∃ a,Heap.SameBut a s.heap s'.heap/\(a=X.env.locals∨X.env.cells.lookup x=some a))->Q () s') (hf:X.fn x=true∨X.env.scope.names.lookup x=some .local:=by first | exact .inl rfl | exact .inr rfl | assumption):wpAny M A (storeName X.env x u) Q E s:=by
 obtain⟨m,hn,hl⟩:=id I.loc
 have hcls:(X.env.scope.kind == .class || (X.env.scope.kind == .module && X.env.locals != X.env.globals))=false:=by rw [I.ok.kind];rfl
 have hiσ:i < σ.length:=by rw [I.len];exact (List.getElem?_eq_some_iff.mp hi).1
 have cne:=I.cne
 have tracked:∀ {a:Addr} {h':Heap},(∃ o,s.heap.get? a=some o/\H a=none)->Heap.SameBut a s.heap h'->fP X.prog X.w H h':=fun {a h'} ha hs b ob e=>by
  obtain⟨_,_,hfree⟩:=ha
  refine (I.hok b ob e).stay (fun c w' hc q=>(hs.2 c ?_).trans q) (fun _ q=>q) fun _ _ q=>q
  rintro rfl
  rcases hc with rfl | hc
  ·rw [hfree] at e;cases e
  ·rw [hfree] at hc;cases hc
 rcases hx with hk | hk
 ·refine wpAny_storeName_local hk hn (fun h' hn' hs=>?_) hcls
  obtain⟨oL,_,_,hoL,_⟩:=id hn
  refine h _ ⟨I.ok,I.os,I.bare,⟨fun b o e n hb hx=>?_,fun b o e n hb hx=>?_,I.base.free,fun b o e hx=>?_,I.base.tups,I.base.frzs,I.base.tbls⟩,⟨_,hn',fun j y v' e1 e2 e3=>?_⟩,fun y c e=>?_,I.free,I.freeC,fun p hp=>?_,tracked ⟨oL,hoL,I.free⟩ hs,by simpa using I.len⟩ ⟨_,hs,.inl rfl⟩
  ·exact (hs.2 b (Nat.ne_of_lt (Nat.lt_of_lt_of_le (Heap.lt_size e) I.ok.above))).trans (I.base.keep b o e n hb hx)
  ·obtain⟨sl,e1⟩:=I.base.slot b o e n hb hx
   exact⟨sl,(hs.2 b (Nat.ne_of_lt (Nat.lt_of_lt_of_le (Heap.lt_size e) I.ok.above))).trans e1⟩
  ·obtain⟨o',e1⟩:=I.base.there b o e hx
   exact⟨o',(hs.2 b (Nat.ne_of_lt (Nat.lt_of_lt_of_le (Heap.lt_size e) I.ok.above))).trans e1⟩
  ·by_cases hj:j=i
   ·subst hj
    rw [hi] at e1;cases e1
    rw [List.getElem?_set_self hiσ] at e2
    cases e2
    exact⟨u,r,.inl ⟨hk,by simp⟩⟩
   ·rw [List.getElem?_set_ne (Ne.symm hj)] at e2
    obtain⟨u',r',q⟩:=hl j y v' e1 e2 e3
    refine⟨u',r',?_⟩
    rcases q with ⟨k,e⟩ | ⟨k,c,e,z⟩
    ·refine .inl ⟨k,?_⟩
     have:y≠x:=fun e=>hj (jx hN e1 (e ▸ hi))
     simp [this,e]
    ·exact .inr ⟨k,c,e,z.sameBut hs (cne y c e)⟩
  ·obtain⟨w',z⟩:=I.cell y c e
   exact⟨w',z.sameBut hs (cne y c e)⟩
  ·obtain⟨e,n,ne,nf,d⟩:=I.pin p hp
   exact⟨(hs.2 p.1 ne).trans e,n,ne,nf,d⟩
 ·have hfn:X.fn x=true:=by
   rcases hf with z | z
   ·exact z
   ·rw [z] at hk;cases hk
  obtain⟨c,hc⟩:=I.ok.has x (.inl hk)
  obtain⟨w',z⟩:=I.cell x c hc
  refine wpAny_storeName_cell I.ok.kind hk hc z (fun h' hc' hs=>?_)
  obtain⟨oc,hoc,hocd⟩:=id z
  refine h { s with heap:=h' } ⟨I.ok,I.os,I.bare,⟨fun b o e n hb hx=>?_,fun b o e n hb hx=>?_,I.base.free,fun b o e hx=>?_,I.base.tups,I.base.frzs,I.base.tbls⟩,⟨m,hn.sameBut hs (Ne.symm (cne x c hc)),fun j y v' e1 e2 e3=>?_⟩,fun y c' e=>?_,I.free,I.freeC,fun p hp=>?_,tracked ⟨oc,hoc,I.freeC x c hc⟩ hs,by simpa using I.len⟩ ⟨c,hs,.inr hc⟩
  ·exact (hs.2 b (Nat.ne_of_lt (Nat.lt_of_lt_of_le (Heap.lt_size e) (I.ok.cab x c hfn hc)))).trans (I.base.keep b o e n hb hx)
  ·obtain⟨sl,e1⟩:=I.base.slot b o e n hb hx
   exact⟨sl,(hs.2 b (Nat.ne_of_lt (Nat.lt_of_lt_of_le (Heap.lt_size e) (I.ok.cab x c hfn hc)))).trans e1⟩
  ·obtain⟨o',e1⟩:=I.base.there b o e hx
   exact⟨o',(hs.2 b (Nat.ne_of_lt (Nat.lt_of_lt_of_le (Heap.lt_size e) (I.ok.cab x c hfn hc)))).trans e1⟩
  ·by_cases hj:j=i
   ·subst hj
    rw [hi] at e1;cases e1
    rw [List.getElem?_set_self hiσ] at e2
    cases e2
    exact⟨u,r,.inr ⟨.inl hk,c,hc,hc'⟩⟩
   ·rw [List.getElem?_set_ne (Ne.symm hj)] at e2
    obtain⟨u',r',q⟩:=hl j y v' e1 e2 e3
    refine⟨u',r',?_⟩
    rcases q with q | ⟨k,c',e,z'⟩
    ·exact .inl q
    ·refine .inr ⟨k,c',e,z'.sameBut hs ?_⟩
     rintro rfl
     exact hj (jx hN e1 (I.ok.inj _ _ _ e hc ▸ hi))
  ·by_cases hcc:c'=c
   ·subst hcc;exact⟨_,hc'⟩
   ·obtain⟨w2,z2⟩:=I.cell y c' e
    exact⟨w2,z2.sameBut hs hcc⟩
  ·obtain⟨e,n,ne,nf,d⟩:=I.pin p hp
   refine⟨(hs.2 p.1 ?_).trans e,n,ne,nf,d⟩
   intro q
   rw [q,hoc] at e
   have q':oc=p.2:=Option.some.inj e
   exact d w' (by rw [← q'];exact hocd)
theorem d5 {M:Model} {A:Around} {E:Value->Shared->Prop} {i:Nat} {x:Str} {v:V} {u:Value} {Q:Unit->Shared->Prop} (I:Inv X pins σ H s) (hN:X.N.Nodup) (hi:X.N[i]?=some x) (hx:wB X.env.scope x) (r:aY v u)
  (h:∀ s',Inv X pins (σ.set i (some v)) H s'->Q () s') (hf:X.fn x=true∨X.env.scope.names.lookup x=some .local:=by first | exact .inl rfl | exact .inr rfl | assumption):wpAny M A (storeName X.env x u) Q E s:=
 qH I hN hi hx r (fun s' I' _=>h s' I') hf
theorem Inv.call' {s':Shared} {ch:List Addr} (I:Inv X pins σ H s) (ho:s'.os=s.os) (u:Un (iW X.stack) ch H H' s.heap s'.heap) (hok:fP X.prog X.w H' s'.heap) (hg:AllBare s'.gens)
  (hch:∀ b∈ch,(b∈X.ex∨X.s₀.heap.get? b=none)/\b≠X.env.locals/\(∀ x c,X.env.cells.lookup x=some c->c≠b)/\∀ p∈X.pn++pins,p.1≠b):Inv X pins σ H' s':=by
 obtain⟨h',g',d',t',o'⟩:=s'
 have e:o'=s.os:=ho
 subst e
 exact I.call (g':=g') (t':=t') (d':=d') u hok hg hch
end
abbrev XK:=Value->Option Addr->Hp->Prop
abbrev St:=List (Option V)
abbrev VK:=V->Hp->Prop
abbrev TE:=St->Hp->VK->Prop
abbrev TT:=St->Hp->(Bool->Hp->Prop)->Prop
abbrev TA:=St->Hp->(List V->Hp->Prop)->Prop
structure iA where
 nx:St->Hp->Prop
 rt:VK
 bk:St->Hp->Prop:=fun _ _=>False
 ct:St->Hp->Prop:=fun _ _=>False
abbrev TS:=iA->St->Hp->Prop
def EP (X:Cx) (pins:List (Addr×Obj)) (σ:St) (Q:VK) (u:Value) (s':Shared):Prop:=∃ v H',Inv X pins σ H' s'/\aY v u/\Q v H'
def TP (X:Cx) (pins:List (Addr×Obj)) (σ:St) (Q:Bool->Hp->Prop) (b:Bool) (s':Shared):Prop:=∃ H',Inv X pins σ H' s'/\Q b H'
def AP (X:Cx) (pins:List (Addr×Obj)) (σ:St) (Q:List V->Hp->Prop) (us:List Value) (s':Shared):Prop:=∃ vs H',Inv X pins σ H' s'/\aZ vs us/\Q vs H'
def SP (X:Cx) (pins:List (Addr×Obj)) (D:iA) (f:Flow) (s':Shared):Prop:=
 match f with
 | .next=>∃ σ' H',Inv X pins σ' H' s'/\D.nx σ' H'
 | .brk=>∃ σ' H',Inv X pins σ' H' s'/\D.bk σ' H'
 | .cont=>∃ σ' H',Inv X pins σ' H' s'/\D.ct σ' H'
 | .ret u=>∃ v σ' H',Inv X pins σ' H' s'/\aY v u/\D.rt v H'
def PE (X:Cx) (e:Expr) (t:TE):Prop:=
 ∀ (pins:List (Addr×Obj)) (s:Shared) (σ:St) (H:Hp) (Q:VK),Inv X pins σ H s->t σ H Q->wpAny (model X.prog X.w) X.A (eval e X.env) (EP X pins σ Q) X.xe s
def PT (X:Cx) (e:Expr) (t:TT):Prop:=
 ∀ (pins:List (Addr×Obj)) (s:Shared) (σ:St) (H:Hp) (Q:Bool->Hp->Prop),Inv X pins σ H s->t σ H Q->wpAny (model X.prog X.w) X.A (isTrue e X.env (eval e X.env)) (TP X pins σ Q) X.xe s
def PW (X:Cx) (e:Expr) (t:TT):Prop:=
 ∀ (whole:Sem Value) (pins:List (Addr×Obj)) (s:Shared) (σ:St) (H:Hp) (Q:Bool->Hp->Prop),Inv X pins σ H s->t σ H Q->wpAny (model X.prog X.w) X.A (isTrue e X.env whole) (TP X pins σ Q) X.xe s
theorem PW.pt {X:Cx} {e:Expr} {t:TT} (h:PW X e t):PT X e t:=h _
def PA (X:Cx) (es:List Expr) (t:TA):Prop:=
 ∀ (pos:Pos) (pins:List (Addr×Obj)) (s:Shared) (σ:St) (H:Hp) (Q:List V->Hp->Prop),Inv X pins σ H s->t σ H Q->wpAny (model X.prog X.w) X.A (spliced (backTo pos (starEach es X.env))) (AP X pins σ Q) X.xe s
def PS (X:Cx) (st:Stmt) (t:TS):Prop:=
 ∀ (pins:List (Addr×Obj)) (s:Shared) (σ:St) (H:Hp) (D:iA),Inv X pins σ H s->t D σ H->wpAny (model X.prog X.w) X.A (exec st X.env) (SP X pins D) X.xe s
def jV (X:Cx) (st:List Stmt) (t:TS):Prop:=
 ∀ (pins:List (Addr×Obj)) (s:Shared) (σ:St) (H:Hp) (D:iA),Inv X pins σ H s->t D σ H->wpAny (model X.prog X.w) X.A (execs st X.env) (SP X pins D) X.xe s
theorem bX {α:Type} {t:Sem α} {Q Q':α->Shared->Prop} {M:Model} {A:Around} {E:Value->Shared->Prop} {s:Shared} (h:wpAny M A t Q E s) (hQ:∀ a s,Q a s->Q' a s):wpAny M A t Q' E s:=wpAny_mono h hQ fun _ _ x=>x
end L2
namespace L2
open PySem PySem.Spec PyProof.Rows
section
variable {X:Cx}
def zV (i:Nat):TE:=fun σ H Q=>∃ v,σ[i]?=some (some v)/\Q v H
def tC (v:V):TE:=fun _ H Q=>Q v H
theorem A2 {i:Nat} {x:Str} {pos:Pos} (hN:X.N[i]?=some x) (hv:DV X.env.scope x) (hd:(x == ("__debug__" : Str))=false:=by decide) (hcd:(x == ("__classdict__" : Str))=false:=by decide):PE X (.Name x pos) (zV i):=by
 intro pins s σ H Q I h
 obtain⟨v,e,h⟩:=h
 obtain⟨m,hn,hl⟩:=I.loc
 obtain⟨u,r,l⟩:=hl i x v hN e hv
 have fin:EP X pins σ Q u s:=⟨v,H,I,r,h⟩
 rcases l with ⟨hk,hm⟩ | ⟨hk,c,hc,hcell⟩
 ·exact wpAny_Name (wpAny_loadName_local I.ok.kind hk hn hm fin) hd
 ·rcases hk with hk | hk
  ·exact wpAny_Name (wpAny_loadName_cell I.ok.kind hk hc hcell fin) hd
  ·exact wpAny_Name (wpAny_loadName_free I.ok.kind hk hc hcell fin hcd) hd
theorem A9 {i j pos}:PE X (.Constant (.int i) j pos) (tC (.int i)):=fun _ _ _ H _ I h=>wpAny_Constant_int ⟨.int i,H,I.tok _,⟨_,rfl⟩,h⟩
theorem Dl {b j pos}:PE X (.Constant (.bool b) j pos) (tC (.bl b)):=fun _ _ _ H _ I h=>Constant_bool ⟨.bl b,H,I,rfl,h⟩
theorem A7 {j pos}:PE X (.Constant .none j pos) (tC .non):=fun _ _ _ H _ I h=>Constant_none ⟨.non,H,I,rfl,h⟩
theorem A4 {x j pos}:PE X (.Constant (.str x) j pos) (tC (.str x)):=fun _ _ _ H _ I h=>Calls.Constant_str ⟨.str x,H,I.tok _,⟨_,rfl⟩,h⟩
def Gl (X:Cx) (x:Str):Prop:=X.env.kindOf x=some .globalImplicit
theorem gT {E:Value->Shared->Prop} {pins:List (Addr×Obj)} {s:Shared} {σ:St} {H:Hp} {x:Str} {u:Value} {pos:Pos} {Q:Value->Shared->Prop} (I:Inv X pins σ H s) (hg:Gl X x) (hm:X.mg x=some u) (h:Q u s)
  (hd:(x == ("__debug__" : Str))=false:=by decide):wpAny (model X.prog X.w) X.A (eval (.Name x pos) X.env) Q E s:=
 Calls.Name_function_global I.ok.kind hg (Calls.loadGlobal_global (by rw [I.ok.glob];exact I.mod.glob.keeps I.bk) hm h) hd
theorem fF {E:Value->Shared->Prop} {pins:List (Addr×Obj)} {s:Shared} {σ:St} {H:Hp} {x:Str} {u:Value} {pos:Pos} {Q:Value->Shared->Prop} (I:Inv X pins σ H s) (hg:Gl X x) (hm:X.mg x=none) (hv:bootBuiltins x=some u) (h:Q u s)
  (hn:x ≠ "__name__" := by decide) (hd:(x == ("__debug__" : Str))=false:=by decide):wpAny (model X.prog X.w) X.A (eval (.Name x pos) X.env) Q E s:=by
 obtain⟨mb,h1,h2⟩:=I.mod.blt
 exact Calls.Name_function_global I.ok.kind hg (Calls.loadGlobal_builtin (by rw [I.ok.glob];exact I.mod.glob.keeps I.bk) hm (by rw [I.ok.blt];exact h1.keeps I.bk) ((h2 x hn).trans hv) h) hd
theorem xM {x:Str} {v:V} {u:Value} {pos:Pos} (hg:Gl X x) (hm:X.mg x=some u) (r:aY v u) (hd:(x == ("__debug__" : Str))=false:=by decide):PE X (.Name x pos) (tC v):=
 fun _ _ _ H _ I h=>gT I hg hm ⟨v,H,I,r,h⟩ hd
theorem xQ {x:Str} {v:V} {u:Value} {pos:Pos} (hg:Gl X x) (hm:X.mg x=none) (hv:bootBuiltins x=some u) (r:aY v u) (hn:x ≠ "__name__" := by decide) (hd:(x == ("__debug__" : Str))=false:=by decide):PE X (.Name x pos) (tC v):=
 fun _ _ _ H _ I h=>fF I hg hm hv ⟨v,H,I,r,h⟩ hn hd
def Ef (ta tb:TE) (k:Int->Int->Hp->Prop):St->Hp->Prop:=fun σ H=>ta σ H fun x H1=>tb σ H1 fun y H2=>∃ i j,x=.int i/\y=.int j/\k i j H2
def Hd (ta tb:TE):TE:=fun σ H Q=>Ef ta tb (fun i j H2=>Q (.int (i+j)) H2) σ H
def GS (ta tb:TE):TE:=fun σ H Q=>Ef ta tb (fun i j H2=>Q (.int (i - j)) H2) σ H
def GW (ta tb:TE):TE:=fun σ H Q=>Ef ta tb (fun i j H2=>(-(2 ^ 64) < i/\i < 2 ^ 64)/\Q (.int (i * j)) H2) σ H
variable {a b:Expr} {ta tb:TE} {pos:Pos}
def PC (X:Cx) (op:CmpOp) (a b:Expr) (t:TE):Prop:=
 ∀ (pins:List (Addr×Obj)) (s:Shared) (σ:St) (H:Hp) (Q:VK),Inv X pins σ H s->t σ H Q→
  wpAny (model X.prog X.w) X.A (eval a X.env) (fun v s₁=>wpAny (model X.prog X.w) X.A (eval b X.env) (fun u s₂=>wpAny (model X.prog X.w) X.A (compareOp op v u) (EP X pins σ Q) X.xe s₂) X.xe s₁) X.xe s
def qG (p:Int->Int->Bool) (ta tb:TE):TE:=fun σ H Q=>Ef ta tb (fun i j H2=>Q (.bl (p i j)) H2) σ H
abbrev Iz:TE->TE->TE:=qG fun i j=>decide (i < j)
abbrev IA:TE->TE->TE:=qG fun i j=>decide (i≤j)
abbrev IB:TE->TE->TE:=qG fun i j=>decide (j < i)
abbrev IC:TE->TE->TE:=qG fun i j=>decide (j≤i)
abbrev GZ:TE->TE->TE:=qG fun i j=>decide (i=j)
abbrev GV:TE->TE->TE:=qG fun i j=>!decide (i=j)
def GX (ta:TE):TE:=fun σ H Q=>ta σ H fun x H1=>Q (.bl (decide (x=.non))) H1
def FM (ta:TE):TE:=fun σ H Q=>ta σ H fun x H1=>Q (.bl (!decide (x=.non))) H1
def tB (t:TE):TT:=fun σ H Q=>t σ H fun x H1=>∃ c,x=.bl c/\Q c H1
theorem AR {e:Expr} {t:TE} (h:PE X e t) (he:∀ whole,isTrue e X.env whole=(do let v ← whole;standAt e.pos;holding [v] (truthy v)):=by intro _;rfl):PT X e (tB t):=by
 intro pins s σ H Q I hw
 refine isTrue_plain (bX (h pins s σ H _ I hw) fun v s1 ⟨x,H1,I1,r1,q1⟩=>?_) (he _)
 obtain⟨d,rfl,q⟩:=q1
 cases r1
 exact wpAny_truthy_bool ⟨H1,I1,q⟩
variable {tA tB':TT} {cr:List Expr}
def CS (t u:TT):TT:=fun σ H Q=>t σ H fun c H1=>if c=true then u σ H1 Q else Q false H1
def FL (t u:TT):TT:=fun σ H Q=>t σ H fun c H1=>if c=true then Q true H1 else u σ H1 Q
def CM (t:TT):TT:=fun σ H Q=>t σ H fun c H1=>Q (!c) H1
theorem xg (ha:PT X a tA):PW X (.BoolOp .And [a] pos) tA:=by
 intro wh pins s σ H Q I h
 refine isTrue_and (bX (ha pins s σ H Q I h) fun c s1 e=>?_)
 cases c with
 | true=>exact isTrue_and_nil e
 | false=>exact e
theorem AN (ha:PT X a tA):PW X (.BoolOp .Or [a] pos) tA:=by
 intro wh pins s σ H Q I h
 refine isTrue_or (bX (ha pins s σ H Q I h) fun c s1 e=>?_)
 cases c with
 | false=>exact isTrue_or_nil e
 | true=>exact e
theorem AO (ha:PT X a tA) (hb:PW X (.BoolOp .And (b :: cr) pos) tB'):PW X (.BoolOp .And (a :: b :: cr) pos) (CS tA tB'):=by
 intro wh pins s σ H Q I h
 refine isTrue_and (bX (ha pins s σ H _ I h) fun c s1 ⟨H1,I1,q1⟩=>?_)
 cases c with
 | true=>exact hb wh pins s1 σ H1 Q I1 q1
 | false=>exact⟨H1,I1,q1⟩
theorem Dd (ha:PT X a tA) (hb:PW X (.BoolOp .Or (b :: cr) pos) tB'):PW X (.BoolOp .Or (a :: b :: cr) pos) (FL tA tB'):=by
 intro wh pins s σ H Q I h
 refine isTrue_or (bX (ha pins s σ H _ I h) fun c s1 ⟨H1,I1,q1⟩=>?_)
 cases c with
 | true=>exact⟨H1,I1,q1⟩
 | false=>exact hb wh pins s1 σ H1 Q I1 q1
theorem AS (ha:PT X a tA):PT X (.UnaryOp .Not a pos) (CM tA):=by
 intro pins s σ H Q I h
 exact isTrue_not (ha pins s σ H (fun c H1=>Q (!c) H1) I h)
def zd (ta tb:TE):TE:=fun σ H Q=>ta σ H fun x H1=>∃ c,x=.bl c/\if c=true then tb σ H1 Q else Q (.bl false) H1
def GU (ta tb:TE):TE:=fun σ H Q=>ta σ H fun x H1=>∃ c,x=.bl c/\if c=true then Q (.bl true) H1 else tb σ H1 Q
def yY (ta:TE):TE:=fun σ H Q=>ta σ H fun x H1=>∃ c,x=.bl c/\Q (.bl (!c)) H1
theorem A5 {op} {t:TE} (h:PE X a t):PE X (.BoolOp op [a] pos) t:=fun pins s σ H Q I hw=>BoolOp_one (h pins s σ H Q I hw)
theorem Ba (ha:PE X a ta) (hb:PE X (.BoolOp .And (b :: cr) pos) tb):PE X (.BoolOp .And (a :: b :: cr) pos) (zd ta tb):=by
 intro pins s σ H Q I h
 refine BoolOp_and (bX (ha pins s σ H _ I h) fun v s1 ⟨x,H1,I1,r1,q1⟩=>?_)
 obtain⟨c,rfl,q1⟩:=q1
 cases r1
 refine wpAny_truthy_bool ?_
 cases c with
 | true=>exact hb pins s1 σ H1 Q I1 q1
 | false=>exact⟨.bl false,H1,I1,rfl,q1⟩
theorem A6 (ha:PE X a ta):PE X (.UnaryOp .Not a pos) (yY ta):=by
 intro pins s σ H Q I h
 refine UnaryOp_ (bX (ha pins s σ H _ I h) fun v s1 ⟨x,H1,I1,r1,q1⟩=>?_)
 obtain⟨c,rfl,q1⟩:=q1
 cases r1
 exact not_of (wpAny_truthy_bool ⟨.bl (!c),H1,I1,rfl,q1⟩)
def FQ (t:TT) (ta tb:TE):TE:=fun σ H Q=>t σ H fun c H1=>if c=true then ta σ H1 Q else tb σ H1 Q
theorem uU {c:Expr} (hc:PT X c tA) (ha:PE X a ta) (hb:PE X b tb):PE X (.IfExp c a b pos) (FQ tA ta tb):=by
 intro pins s σ H Q I h
 refine wpAny_IfExp (bX (hc pins s σ H _ I h) fun d s1 ⟨H1,I1,q1⟩=>?_)
 cases d with
 | true=>exact ha pins s1 σ H1 Q I1 q1
 | false=>exact hb pins s1 σ H1 Q I1 q1
end
end L2
namespace L2
open PySem PySem.Spec PyProof.Rows
def aR (K:PySem.W.Frag) (H:Hp) (a:Addr) (xs:List V):Prop:=
 Rd H a (.lst xs)∨
  ∃ (o:Obj) (its:Array Value) (n:Nat),K.lookup a=some o/\o.cls=.type "list" /\ o.dict=none/\o.data=.seq its n/\its.size≤sizeLine/\aZ xs its.toList
def bo (K:PySem.W.Frag) (H:Hp) (a:Addr) (xs:List V):Prop:=
 Rd H a (.tup xs)∨
  ∃ (o:Obj) (its:Array Value) (n:Nat),K.lookup a=some o/\o.cls=.type "tuple" /\ o.data=.seq its n/\its.size≤sizeLine/\aZ xs its.toList
def Fh:Value->Option V
 | .none=>some .non
 | .bool b=>some (.bl b)
 | .int i _=>some (.int i)
 | .str x _=>some (.str x)
 | .bytes b _=>some (.byt b)
 | .float b _=>some (.flt b)
 | .ref a=>some (.ref a)
 | .type n=>some (.ty n)
 | _=>none
theorem aY.abs {x:V} {u:Value} (r:aY x u):Fh u=some x:=by
 cases x with
 | non=>cases r;rfl
 | bl _=>cases r;rfl
 | int _=>obtain⟨t,rfl⟩:=r;rfl
 | str _=>obtain⟨t,rfl⟩:=r;rfl
 | byt _=>obtain⟨t,rfl⟩:=r;rfl
 | flt _=>obtain⟨t,rfl⟩:=r;rfl
 | ref _=>cases r;rfl
 | ty _=>cases r;rfl
theorem aY.inj {x y:V} {u:Value} (r:aY x u) (q:aY y u):x=y:=Option.some.inj (r.abs.symm.trans q.abs)
theorem aZ.inj:∀ {xs ys:List V} {us:List Value},aZ xs us->aZ ys us->xs=ys
 | _,_,_,.nil,.nil=>rfl
 | _,_,_,.cons r t,.cons r' t'=>by rw [r.inj r',aZ.inj t t']
section
variable {X:Cx} {pins:List (Addr×Obj)} {σ:St} {H:Hp} {s:Shared} {a:Addr} {xs ys:List V}
theorem aR.of {K:PySem.W.Frag} (h:H a=some (.lst xs)):aR K H a xs:=.inl (.inl h)
theorem bo.of {K:PySem.W.Frag} (h:H a=some (.tup xs)):bo K H a xs:=.inl (.inl h)
theorem Inv.list (I:Inv X pins σ H s) (h:aR X.K H a xs):∃ its:List Value,aZ xs its/\PlainL s.heap a its.toArray/\xs.length≤sizeLine:=by
 rcases h with h | ⟨o,its,n,hk,hc,hd,hs,hz,r⟩
 ·obtain⟨z,its,n,r,e⟩:=h.ok I.hok
  exact⟨its,r,⟨_,n,e,rfl,rfl,rfl⟩,z⟩
 ·refine⟨its.toList,r,⟨o,n,I.kIn a o hk,hc,hd,by simpa using hs⟩,?_⟩
  have e:=r.length
  simp only [Array.length_toList] at e
  omega
theorem Inv.tuple (I:Inv X pins σ H s) (h:bo X.K H a xs):∃ its:List Value,aZ xs its/\IsTup s.heap a its.toArray/\xs.length≤sizeLine:=by
 rcases h with h | ⟨o,its,n,hk,hc,hs,hz,r⟩
 ·obtain⟨z,its,r,p⟩:=h.ok I.hok
  exact⟨its,r,p,z⟩
 ·refine⟨its.toList,r,⟨o,I.kIn a o hk,hc,n,by simpa using hs⟩,?_⟩
  have e:=r.length
  simp only [Array.length_toList] at e
  omega
theorem Inv.list_inj (I:Inv X pins σ H s) (h:aR X.K H a xs) (h':aR X.K H a ys):xs=ys:=by
 obtain⟨its,r,⟨o,n,e,_,_,d⟩,_⟩:=I.list h
 obtain⟨its',r',⟨o',n',e',_,_,d'⟩,_⟩:=I.list h'
 rw [e] at e';cases e'
 rw [d] at d'
 injection d' with d1 _
 have:its=its':=by simpa using congrArg Array.toList d1
 subst this
 exact r.inj r'
theorem Inv.tuple_inj (I:Inv X pins σ H s) (h:bo X.K H a xs) (h':bo X.K H a ys):xs=ys:=by
 obtain⟨its,r,⟨o,e,_,n,d⟩,_⟩:=I.tuple h
 obtain⟨its',r',⟨o',e',_,n',d'⟩,_⟩:=I.tuple h'
 rw [e] at e';cases e'
 rw [d] at d'
 injection d' with d1 _
 have:its=its':=by simpa using congrArg Array.toList d1
 subst this
 exact r.inj r'
end
abbrev Cx.wish (X:Cx) (E:Value->Shared->Prop):Cx:={ X with xe:=E }
abbrev Cx.nox (X:Cx):Cx:=X.wish fun _ _=>False
theorem Cx.Ok.wish {X:Cx} (ok:X.Ok) (E:Value->Shared->Prop):(X.wish E).Ok:=
 ⟨ok.mod,ok.kind,ok.glob,ok.blt,ok.above,ok.inj,ok.has,ok.cab,ok.hd,ok.frames,ok.stk,ok.exf,ok.bs,ok.bsz,ok.noex,ok.exfs,ok.funs,ok.frf⟩
theorem Cx.Ok.unwish {X:Cx} {E:Value->Shared->Prop} (ok:(X.wish E).Ok):X.Ok:=
 ⟨ok.mod,ok.kind,ok.glob,ok.blt,ok.above,ok.inj,ok.has,ok.cab,ok.hd,ok.frames,ok.stk,ok.exf,ok.bs,ok.bsz,ok.noex,ok.exfs,ok.funs,ok.frf⟩
section
variable {X:Cx} {pins:List (Addr×Obj)} {σ:St} {H:Hp} {s:Shared} {E:Value->Shared->Prop}
theorem Inv.wish (I:Inv X pins σ H s) (E:Value->Shared->Prop):Inv (X.wish E) pins σ H s:=⟨I.ok.wish E,I.os,I.bare,I.base,I.loc,I.cell,I.free,I.freeC,I.pin,I.hok,I.len⟩
theorem Inv.unwish (I:Inv (X.wish E) pins σ H s):Inv X pins σ H s:=⟨I.ok.unwish,I.os,I.bare,I.base,I.loc,I.cell,I.free,I.freeC,I.pin,I.hok,I.len⟩
theorem SP.unwish {D:iA} {f:Flow} {s':Shared} (h:SP (X.wish E) pins D f s'):SP X pins D f s':=by
 cases f with
 | next=>obtain⟨σ',H',I,q⟩:=h;exact⟨σ',H',I.unwish,q⟩
 | brk=>obtain⟨σ',H',I,q⟩:=h;exact⟨σ',H',I.unwish,q⟩
 | cont=>obtain⟨σ',H',I,q⟩:=h;exact⟨σ',H',I.unwish,q⟩
 | ret u=>obtain⟨v,σ',H',I,r,q⟩:=h;exact⟨v,σ',H',I.unwish,r,q⟩
theorem jV.nox {st:List Stmt} {t:TS} (h:jV X.nox st t):jV X st t:=fun pins s σ H D I hw=>
 wpAny_mono (h pins s σ H D (I.wish _) hw) (fun _ _ q=>q.unwish) fun _ _ z=>False.elim z
end
section
variable {X:Cx} {st:Stmt} {cr:List Stmt} {t u:TS} {e:Expr} {te:TE} {pos:Pos}
def yZ:TS:=fun D σ H=>D.nx σ H
def zX (t u:TS):TS:=fun D σ H=>t { D with nx:=u D } σ H
theorem xp:jV X [] yZ:=fun _ _ σ H _ I h=>wpAny_execs_nil ⟨σ,H,I,h⟩
theorem uF (h1:PS X st t) (h2:jV X cr u):jV X (st :: cr) (zX t u):=by
 intro pins s σ H D I h
 refine wpAny_execs_cons (bX (h1 pins s σ H { D with nx:=u D } I h) fun f s1 q=>?_)
 cases f with
 | next=>
  obtain⟨σ',H',I',q⟩:=q
  exact h2 pins s1 σ' H' D I' q
 | ret v=>exact q
 | brk=>exact q
 | cont=>exact q
theorem xn (h1:PS X st t):jV X [st] t:=by
 intro pins s σ H D I h
 refine wpAny_execs_cons (bX (h1 pins s σ H D I h) fun f s1 q=>?_)
 cases f with
 | next=>exact wpAny_execs_nil q
 | ret v=>exact q
 | brk=>exact q
 | cont=>exact q
def sG:TS:=fun D σ H=>D.bk σ H
def FU:TS:=fun D σ H=>D.ct σ H
theorem uJ:PS X (.Break pos) sG:=fun _ _ σ H _ I h=>wpAny_Break ⟨σ,H,I,h⟩
theorem Inv.quiet {pins:List (Addr×Obj)} {σ:St} {H:Hp} {s:Shared} (I:Inv X pins σ H s):interactive X.env=false:=by simp [interactive,I.ok.kind]
def zc (te:TE):TS:=fun D σ H=>te σ H fun _ H1=>D.nx σ H1
theorem xy (he:PE X e te) (hs:swapsWith e none pos.line X.env=pure false:=by rfl):PS X (.Expr e pos) (zc te):=by
 intro pins s σ H D I h
 exact wpAny_Expr_any (bX (he pins s σ H _ I h) fun v s1 ⟨x,H1,I1,r1,q1⟩=>⟨σ,H1,I1,q1⟩) I.quiet hs
def CK (te:TE):TS:=fun D σ H=>te σ H D.rt
theorem AU (he:PE X e te):PS X (.Return (some e) pos) (CK te):=by
 intro pins s σ H D I h
 exact wpAny_Return_some (bX (he pins s σ H _ I h) fun v s1 ⟨x,H1,I1,r1,q1⟩=>⟨x,σ,H1,I1,r1,q1⟩)
def FK:TS:=fun D _ H=>D.rt .non H
def CO (c:TT) (t u:TS):TS:=fun D σ H=>c σ H fun b H1=>if b=true then t D σ H1 else u D σ H1
theorem De {c:Expr} {a b:List Stmt} {tc:TT} (hc:PT X c tc) (ha:jV X a t) (hb:jV X b u):PS X (.If c a b pos) (CO tc t u):=by
 intro pins s σ H D I h
 refine wpAny_If (bX (hc pins s σ H _ I h) fun d s1 ⟨H1,I1,q1⟩=>?_)
 cases d with
 | true=>exact ha pins s1 σ H1 D I1 q1
 | false=>exact hb pins s1 σ H1 D I1 q1
def sw:TS:=fun _ _ _=>False
theorem uI:PS X st sw:=fun _ _ _ _ _ _ h=>h.elim
end
abbrev TG:=V->St->Hp->(St->Hp->Prop)->Prop
abbrev wA:=List V->St->Hp->(St->Hp->Prop)->Prop
def PG (X:Cx) (target:Expr) (t:TG):Prop:=
 ∀ (pins:List (Addr×Obj)) (s:Shared) (σ:St) (H:Hp) (v:V) (u:Value) (Q:St->Hp->Prop),Inv X pins σ H s->aY v u->t v σ H Q→
  wpAny (model X.prog X.w) X.A (assign target X.env u) (fun _ s'=>∃ σ' H',Inv X pins σ' H' s'/\Q σ' H') X.xe s
def D1 (X:Cx) (ts:List Expr) (t:wA):Prop:=
 ∀ (pins:List (Addr×Obj)) (s:Shared) (σ:St) (H:Hp) (vs:List V) (us:List Value) (Q:St->Hp->Prop),Inv X pins σ H s->aZ vs us->t vs σ H Q→
  wpAny (model X.prog X.w) X.A (assignInOrder ((assignEach ts X.env).map (·.2)) us) (fun _ s'=>∃ σ' H',Inv X pins σ' H' s'/\Q σ' H') X.xe s
abbrev wy:=V->V->V->Hp->(Hp->Prop)->Prop
def Ce (X:Cx) (t:wy):Prop:=
 ∀ (pins:List (Addr×Obj)) (s:Shared) (σ:St) (H:Hp) (o i v:V) (ov iv u:Value) (Q:Hp->Prop),Inv X pins σ H s->aY o ov->aY i iv->aY v u->t o i v H Q→
  wpAny (model X.prog X.w) X.A (setItem ov iv u) (fun _ s'=>∃ H',Inv X pins σ H' s'/\Q H') X.xe s
abbrev Cr:=V->V->Hp->VK->Prop
def Fn (X:Cx) (op:Operator) (t:Cr):Prop:=
 ∀ (pins:List (Addr×Obj)) (s:Shared) (σ:St) (H:Hp) (x y:V) (v u:Value) (Q:VK),Inv X pins σ H s->aY x v->aY y u->t x y H Q→
  wpAny (model X.prog X.w) X.A (inplaceOp op v u) (EP X pins σ Q) X.xe s
section
variable {X:Cx} {pos:Pos}
def jI (i:Nat):TG:=fun v σ H Q=>Q (σ.set i (some v)) H
theorem xK {i:Nat} {x:Str} (hN:X.N.Nodup) (hi:X.N[i]?=some x) (hx:wB X.env.scope x) (hf:X.fn x=true∨X.env.scope.names.lookup x=some .local:=by first | exact .inl rfl | exact .inr rfl | assumption):PG X (.Name x pos) (jI i):=by
 intro pins s σ H v u Q I r h
 exact wpAny_assign_Name (d5 I hN hi hx r (fun s' I'=>⟨_,H,I',h⟩) hf)
def DK:wA:=fun vs σ H Q=>vs=[]/\Q σ H
def zr (t:TG) (u:wA):wA:=fun vs σ H Q=>∃ v r,vs=v :: r/\t v σ H fun σ' H'=>u r σ' H' Q
theorem xJ:D1 X [] DK:=by
 intro pins s σ H vs us Q I r h
 obtain⟨e,h⟩:=h
 subst e
 cases r
 exact assignInOrder_nil ⟨σ,H,I,h⟩
theorem uQ {e:Expr} {es:List Expr} {t:TG} {u:wA} (h1:PG X e t) (h2:D1 X es u)
  (hs:(assignEach (e :: es) X.env).map (·.2)=assign e X.env :: (assignEach es X.env).map (·.2):=by rfl):D1 X (e :: es) (zr t u):=by
 intro pins s σ H vs us Q I r h
 obtain⟨v,vr,e1,h⟩:=h
 subst e1
 cases r with
 | cons r rr=>
  rw [hs]
  refine assignInOrder_cons (bX (h1 pins s σ H _ _ _ I r h) fun _ s1 ⟨σ1,H1,I1,q1⟩=>?_)
  exact h2 pins s1 σ1 H1 _ _ Q I1 rr q1
def DI (K:PySem.W.Frag) (n:Nat) (t:wA):TG:=fun v σ H Q=>∃ a xs,v=.ref a/\bo K H a xs/\xs.length=n/\t xs σ H Q
theorem A0 {es:List Expr} {k:Nat} {t:wA} {n:Nat} (hc:X.calm=true) (h:D1 X es t)
  (hn:(assignEach es X.env).length=n:=by rfl) (hst:(assignEach es X.env).findIdx? (·.1)=none:=by rfl):PG X (.Tuple es k pos) (DI X.K n t):=by
 intro pins s σ H v u Q I r hw
 obtain⟨a,xs,e1,hq,hl,hw⟩:=hw
 subst e1
 cases r
 obtain⟨its,rv,ht,hz⟩:=I.tuple hq
 refine assign_Tuple_tuple (I.ok.hd hc) ht (by simp [hn,← hl,rv.length]) hst fun h' hx=>?_
 have I1:Inv X pins σ H { s with heap:=h' }:=I.kept (t':=s.toks) fun b o e=>hx b o (Nat.ne_of_lt (Heap.lt_size e)) e
 exact h pins _ σ H xs _ Q I1 (by simpa using rv) hw
def DJ (to ti:TE) (t:wy):TG:=fun v σ H Q=>to σ H fun o H1=>ti σ H1 fun i H2=>t o i v H2 fun H3=>Q σ H3
theorem A1 {o i:Expr} {to ti:TE} {t:wy} (ho:PE X o to) (hi:PE X i ti) (hs:Ce X t)
  (ha:∀ v,assign (.Subscript o i pos) X.env v=(do
   let ov ← holding [v] (eval o X.env)
   let iv ← holding [v,ov] (eval i X.env)
   standAt pos
   holding [v,ov,iv] (setItem ov iv v)
   release [v,ov,iv] []):=by intro _;rfl):PG X (.Subscript o i pos) (DJ to ti t):=by
 intro pins s σ H v u Q I r h
 rw [ha]
 refine wpAny_bind (wpAny_holding (bX (ho pins s σ H _ I h) fun ov s1 ⟨x,H1,I1,r1,q1⟩=>?_))
 refine wpAny_bind (wpAny_holding (bX (hi pins s1 σ H1 _ I1 q1) fun iv s2 ⟨y,H2,I2,r2,q2⟩=>?_))
 refine wpAny_bind (wpAny_standAt (wpAny_bind (wpAny_holding (bX (hs pins s2 σ H2 x y v ov iv u _ I2 r1 r2 r q2) fun _ s3 ⟨H3,I3,q3⟩=>?_))))
 exact wpAny_release ⟨σ,H3,I3,q3⟩
def nV (te:TE) (g:TG):TS:=fun D σ H=>te σ H fun x H1=>g x σ H1 D.nx
theorem AY {tg e:Expr} {te:TE} {g:TG} (he:PE X e te) (hg:PG X tg g) (hs:swapsWithSole [tg] e pos.line X.env=pure false:=by rfl) (hw:swappedStores [tg] e X.env=pure none:=by rfl)
  (h1:(assignEach [tg] X.env).map (·.2)=[assign tg X.env]:=by rfl):PS X (.Assign [tg] e pos) (nV te g):=by
 intro pins s σ H D I h
 refine wpAny_Assign_stores (bX (he pins s σ H _ I h) fun v s1 ⟨x,H1,I1,r1,q1⟩=>?_) hs hw
 rw [h1]
 exact bX (hg pins s1 σ H1 x v _ I1 r1 q1) fun _ s2 q=>q
theorem AT {i:Nat} {x:Str} {e:Expr} {te:TE} {pos':Pos} (hN:X.N.Nodup) (hi:X.N[i]?=some x) (hx:wB X.env.scope x) (he:PE X e te) (hs:swapsWith e (some (.Name x pos')) pos.line X.env=pure false:=by rfl) (hf:X.fn x=true∨X.env.scope.names.lookup x=some .local:=by first | exact .inl rfl | exact .inr rfl | assumption) :
  PS X (.Assign [.Name x pos'] e pos) (nV te (jI i)):=by
 intro pins s σ H D I h
 refine wpAny_Assign_Name (bX (he pins s σ H _ I h) fun v s1 ⟨y,H1,I1,r1,q1⟩=>?_) hs
 exact d5 I1 hN hi hx r1 (fun s2 I2=>⟨_,H1,I2,q1⟩) hf
def CL (i j:Nat) (ta:TA):TS:=fun D σ H=>ta σ H fun vs H1=>∃ v w,vs=[v,w]/\D.nx ((σ.set i (some v)).set j (some w)) H1
theorem AV {i j:Nat} {x y:Str} {a b:Expr} {ta:TA} {px py pt:Pos} {kt k2 pt2} (hc:X.calm=true) (hN:X.N.Nodup) (hi:X.N[i]?=some x) (hj:X.N[j]?=some y) (hij:i≠j)
  (hx:X.env.scope.names.lookup x=some .local) (hy:X.env.scope.names.lookup y=some .local) (ha:PA X [a,b] ta)
  (hw:swappedStores [.Tuple [.Name x px,.Name y py] kt pt] (.Tuple [a,b] k2 pt2) X.env=pure (some [x,y]))
  (hs:swapsWithSole [.Tuple [.Name x px,.Name y py] kt pt] (.Tuple [a,b] k2 pt2) pos.line X.env=pure false:=by rfl) :
  PS X (.Assign [.Tuple [.Name x px,.Name y py] kt pt] (.Tuple [a,b] k2 pt2) pos) (CL i j ta):=by
 intro pins s σ H D I h
 rw [exec_Assign_arm]
 refine wpAny_bind (wpAny_standAt ?_)
 rw [hs]
 refine wpAny_bind (wpAny_pure ?_)
 rw [if_neg (by decide)]
 refine wpAny_bind (Tuple_ (bX (ha _ pins s σ H _ I h) fun us s1 ⟨vs,H1,I1,r1,q1⟩=>?_))
 obtain⟨v,w,e1,q1⟩:=q1
 subst e1
 obtain⟨u1,u2,rfl,rv,rw'⟩:∃ u1 u2,us=[u1,u2]/\aY v u1/\aY w u2:=by
  cases r1 with
  | cons p q=>
   cases q with
   | cons p' q'=>
    cases q'
    exact⟨_,_,rfl,p,p'⟩
 refine wpAny_newObj_type ?_ dU
 have I2:Inv X pins σ H1 { s1 with heap:=s1.heap.push { cls:=.type "tuple", data:=.seq [u1,u2].toArray } }:=I1.kept (t':=s1.toks) fun b o e=>Heap.get?_push_of_some _ e
 rw [hw]
 refine wpAny_bind (wpAny_pure ?_)
 show wpAny (model X.prog X.w) X.A (do rule "assign.swapped-stores";let items ← unpackItems (.ref s1.heap.objs.size) 2 none;assignInOrder [fun v=>bindName X.env y v,fun v=>bindName X.env x v] items.reverse;pure Flow.next) _ _ _
 refine wpAny_bind (wpAny_rule (wpAny_bind (unpackItems_tuple (items:=#[u1,u2]) (I.ok.hd hc) (IsTup.new s1.heap _) fun h' hx'=>?_)))
 have I3:=I2.kept (h':=h') (t':=s1.toks) fun b o e=>hx' b o (Nat.ne_of_lt (Heap.lt_size e)) e
 show wpAny _ _ (assignInOrder [fun v=>bindName X.env y v,fun v=>bindName X.env x v] [u2,u1] >>= fun _=>pure Flow.next) _ _ _
 refine wpAny_bind (assignInOrder_cons (wpAny_bindName (d5 I3 hN hj (.inl hy) rw' (fun s2 I4=>?_) (.inr hy))))
 refine assignInOrder_cons (wpAny_bindName (d5 I4 hN hi (.inl hx) rv (fun s3 I5=>assignInOrder_nil (wpAny_pure ?_)) (.inr hx)))
 rw [List.set_comm _ _ (Ne.symm hij)] at I5
 exact⟨_,H1,I5,q1⟩
def CQ (i:Nat) (te:TE) (ti:Cr):TS:=fun D σ H=>∃ x,σ[i]?=some (some x)/\te σ H fun y H1=>ti x y H1 fun z H2=>D.nx (σ.set i (some z)) H2
theorem AX {i:Nat} {x:Str} {e:Expr} {te:TE} {op:Operator} {ti:Cr} {pos':Pos} (hN:X.N.Nodup) (hi:X.N[i]?=some x) (hx:wB X.env.scope x) (he:PE X e te) (ho:Fn X op ti) (hf:X.fn x=true∨X.env.scope.names.lookup x=some .local:=by first | exact .inl rfl | exact .inr rfl | assumption) :
  PS X (.AugAssign (.Name x pos') op e pos) (CQ i te ti):=by
 intro pins s σ H D I h
 obtain⟨v,e1,h⟩:=h
 obtain⟨m,hn,hl⟩:=I.loc
 have vis:DV X.env.scope x:=by rcases hx with k | k;exact .inl k;exact .inr (.inl k)
 obtain⟨u,r,l⟩:=hl i x v hi e1 vis
 refine wpAny_AugAssign_Name ?_
 have go:wpAny (model X.prog X.w) X.A (eval e X.env) (fun w s₂=>wpAny (model X.prog X.w) X.A (inplaceOp op u w) (fun r s₃=>wpAny (model X.prog X.w) X.A (storeName X.env x r) (fun _=>SP X pins D .next) X.xe s₃) X.xe s₂) X.xe s:=by
  refine bX (he pins s σ H _ I h) fun w s1 ⟨y,H1,I1,r1,q1⟩=>?_
  refine bX (ho pins s1 σ H1 v y u w _ I1 r r1 q1) fun z s2 ⟨zv,H2,I2,r2,q2⟩=>?_
  exact d5 I2 hN hi hx r2 (fun s3 I3=>⟨_,H2,I3,q2⟩) hf
 rcases l with ⟨hk,hm⟩ | ⟨hk,c,hc,hcell⟩
 ·exact wpAny_loadName_local I.ok.kind hk hn hm go
 ·rcases hk with hk | hk
  ·exact wpAny_loadName_cell I.ok.kind hk hc hcell go
  ·rcases hx with k | k
   ·have:X.env.scope.names.lookup x=some .free:=hk
    rw [k] at this;cases this
   ·have:X.env.scope.names.lookup x=some .free:=hk
    rw [k] at this;cases this
def FW (to ti te:TE) (tget:V->V->Hp->VK->Prop) (tip:Cr) (tset:wy):TS:=fun D σ H=>to σ H fun o H1=>ti σ H1 fun i H2=>tget o i H2 fun x H3=>te σ H3 fun y H4=>tip x y H4 fun z H5=>tset o i z H5 fun H6=>D.nx σ H6
def Ig (X:Cx) (t:V->V->Hp->VK->Prop):Prop:=
 ∀ (pins:List (Addr×Obj)) (s:Shared) (σ:St) (H:Hp) (o i:V) (ov iv:Value) (Q:VK),Inv X pins σ H s->aY o ov->aY i iv->t o i H Q→
  wpAny (model X.prog X.w) X.A (getItem ov iv) (EP X pins σ Q) X.xe s
def Hy (f:Int->Int->Int):Cr:=fun x y H Q=>∃ i j,x=.int i/\y=.int j/\Q (.int (f i j)) H
theorem BL:Fn X .Add (Hy fun i j=>i+j):=by
 intro pins s σ H x y v u Q I r1 r2 h
 obtain⟨i,j,e1,e2,q⟩:=h
 subst e1;subst e2
 obtain⟨t,rfl⟩:=r1
 obtain⟨t',rfl⟩:=r2
 exact iadd_int ⟨.int _,H,I.tok _,⟨_,rfl⟩,q⟩
end
section
variable {X:Cx} {pos:Pos}
def sr (c:TT) (tb:TS):TS:=fun D σ H=>∃ W:Nat->St->Hp->Prop,(∃ m,W m σ H)/\∀ m σ H,W m σ H→
 c σ H fun b H1=>if b=true then ∃ N:St->Hp->Prop,(∀ σ' H',N σ' H'->∃ m',m' < m/\W m' σ' H')/\tb { D with nx:=N,ct:=N,bk:=D.nx } σ H1 else D.nx σ H1
theorem uG {c:Expr} {body:List Stmt} {tc:TT} {tb:TS} (hp:PassesOwn (model X.prog X.w) X.A X.env X.xe) (hc:PT X c tc) (hb:jV X body tb):PS X (.While c body [] pos) (sr tc tb):=by
 intro pins s σ H D I h
 obtain⟨W,⟨m0,w0⟩,turn⟩:=h
 refine wpAny_While (codeAny_whileLoop (fun n s'=>∃ σ' H',Inv X pins σ' H' s'/\W n σ' H') ?_ m0 ⟨σ,H,I,w0⟩)
 rintro n s1 ⟨σ1,H1,I1,w1⟩
 refine wpAny_passesOwn hp (bX (hc pins s1 σ1 H1 _ I1 (turn n σ1 H1 w1)) fun b s2 ⟨H2,I2,q2⟩=>?_)
 cases b with
 | true=>
  obtain⟨N,hN,q2⟩:=q2
  rw [if_pos rfl]
  refine wpAny_passesOwn hp (bX (hb pins s2 σ1 H2 _ I2 q2) fun f s3 q3=>?_)
  cases f with
  | next=>
   obtain⟨σ3,H3,I3,n3⟩:=q3
   obtain⟨m',hm,w3⟩:=hN σ3 H3 n3
   exact⟨m',hm,σ3,H3,I3,w3⟩
  | cont=>
   obtain⟨σ3,H3,I3,n3⟩:=q3
   obtain⟨m',hm,w3⟩:=hN σ3 H3 n3
   exact⟨m',hm,σ3,H3,I3,w3⟩
  | brk=>exact q3
  | ret v=>exact q3
 | false=>
  rw [if_neg Bool.false_ne_true]
  exact wpAny_execs_nil ⟨σ1,H2,I2,q2⟩
end
structure It where
 go:Nat->Hp->Prop
 yld:Nat->Hp->V->Hp->Prop
 stop:Nat->Hp->Prop
def eG (X:Cx) (pins:List (Addr×Obj)) (H:Hp) (b:Addr):Prop:=
 H b=none/\b≠X.env.locals/\b∉X.fs/\(b∈X.ex∨X.s₀.heap.get? b=none)/\(∀ x c,X.env.cells.lookup x=some c->c≠b)/\∀ p∈X.pn++pins,p.1≠b
theorem Inv.fpOk {X:Cx} {pins:List (Addr×Obj)} {σ:St} {H H':Hp} {s:Shared} {b:Addr} (I:Inv X pins σ H s) (hb:s.heap.objs.size≤b) (hn:H' b=none):eG X pins H' b:=by
 refine⟨hn,Nat.ne_of_gt (Nat.lt_of_lt_of_le I.lt hb),I.nofs hb,.inr (Heap.get?_none_of_le (Nat.le_trans I.sz hb)),fun x c e z=>?_,fun p hp z=>?_⟩
 ·obtain⟨v,q⟩:=I.cell x c e
  exact absurd (Nat.lt_of_lt_of_le q.lt (by rw [z];exact hb)) (Nat.lt_irrefl _)
 ·exact absurd (Nat.lt_of_lt_of_le (Heap.lt_size (I.pin p hp).1) (by rw [z];exact hb)) (Nat.lt_irrefl _)
structure wx (P:Program) (w:World) (K:PySem.W.Frag) (tg:Expr) (J:It) (fp:List Addr) (it:Addr) (tn:Nat->Heap->Prop):Prop where
 mem:it∈fp
 obj:∀ i h,tn i h->∀ b∈fp,∃ o,h.get? b=some o/\∀ v,o.data≠.cell v
 keep:∀ i h h',tn i h->(∀ b∈fp,∀ o,h.get? b=some o->h'.get? b=some o)->tn i h'
 item:∀ (X:Cx),X.prog=P->X.w=w->X.K=K->X.calm=true->∀ (i:Nat) (pins:List (Addr×Obj)) (s:Shared) (σ:St) (H:Hp) (E:Value->Shared->Prop),Inv X pins σ H s->(∀ b∈fp,eG X pins H b)->tn i s.heap->J.go i H→
  wpAny (model P w) X.A (pyNext (.ref it)) (fun r s1=>∃ u,r=some u∧
   wpAny (model P w) X.A (letOwnedTupleGo tg (.ref it) u) (fun _ s2=>∃ x H',Inv X pins σ H' s2/\aY x u/\J.yld i H x H'/\tn (i+1) s2.heap/\∀ b∈fp,H' b=none) E s1) E s
 done:∀ (X:Cx),X.prog=P->X.w=w->X.K=K->X.calm=true->∀ (i:Nat) (pins:List (Addr×Obj)) (s:Shared) (σ:St) (H:Hp) (E:Value->Shared->Prop),Inv X pins σ H s->(∀ b∈fp,eG X pins H b)->tn i s.heap->J.stop i H→
  wpAny (model P w) X.A (pyNext (.ref it)) (fun r s1=>r=none/\Inv X pins σ H s1) E s
 self:∀ (A:Around) (i:Nat) (s:Shared) (Q:Value->Shared->Prop) (E:Value->Shared->Prop),tn i s.heap->Q (.ref it) s->wpAny (model P w) A (pyIter (.ref it)) Q E s
abbrev TI:=St->Hp->(It->Hp->Prop)->Prop
def GE (X:Cx) (pins:List (Addr×Obj)) (σ:St) (tg:Expr) (R:It->Hp->Prop) (itv:Value) (s2:Shared):Prop:=
 ∃ (it:Addr) (fp:List Addr) (tn:Nat->Heap->Prop) (J:It) (H':Hp),itv=.ref it/\Inv X pins σ H' s2/\wx X.prog X.w X.K tg J fp it tn/\tn 0 s2.heap/\(∀ b∈fp,eG X pins H' b)/\R J H'
def PI (X:Cx) (tg iter:Expr) (wi:TI):Prop:=
 ∀ (pins:List (Addr×Obj)) (s:Shared) (σ:St) (H:Hp) (R:It->Hp->Prop),Inv X pins σ H s->wi σ H R→
  wpAny (model X.prog X.w) X.A (eval iter X.env) (fun v s1=>wpAny (model X.prog X.w) X.A (pyIter v) (GE X pins σ tg R) X.xe s1) X.xe s
theorem vR {M:Model} {A:Around} {E:Value->Shared->Prop} {s:Shared} {tg:Expr} {it:Addr} {u:Value} {o:Obj} {n:String} {vs:Array Value} {Q:Unit->Shared->Prop} (ho:s.heap.get? it=some o) (hc:o.cls=.type n) (hd:o.data=.fields vs)
  (hn:["enumerate", "zip", "dict_itemiterator", "dict_reverseitemiterator", "odict_iterator", "itertools.zip_longest", "itertools.pairwise"].contains n=false) (hQ:Q () s):wpAny M A (letOwnedTupleGo tg (.ref it) u) Q E s:=by
 unfold letOwnedTupleGo
 cases tg <;> first
  | exact wpAny_pure hQ
  | (cases u <;> first
    | exact wpAny_pure hQ
    | (refine wpAny_bind (wpAny_load ho ?_)
       rw [hc,hd]
       show wpAny M A (if (["enumerate", "zip", "dict_itemiterator", "dict_reverseitemiterator", "odict_iterator", "itertools.zip_longest", "itertools.pairwise"].contains n && vs[0]? == some (rawInt _))=true then _ else _) Q E s
       rw [if_neg (by intro h;rw [hn,Bool.false_and] at h;cases h)]
       exact wpAny_pure hQ))
def sd (K:PySem.W.Frag) (a:Addr):It:=
 ⟨fun i H=>∃ xs x,aR K H a xs/\xs[i]?=some x,fun i H x H'=>H'=H/\∀ xs,aR K H a xs->xs[i]?=some x,fun i H=>∃ xs,aR K H a xs/\xs.length≤i⟩
def wD (K:PySem.W.Frag) (a:Addr):It:=
 ⟨fun i H=>∃ xs x,bo K H a xs/\xs[i]?=some x,fun i H x H'=>H'=H/\∀ xs,bo K H a xs->xs[i]?=some x,fun i H=>∃ xs,bo K H a xs/\xs.length≤i⟩
def wE (lo:Int) (n:Nat):It:=⟨fun i _=>i < n,fun i H x H'=>H'=H/\x=.int (lo+i),fun i _=>n≤i⟩
theorem j8 {P:Program} {w:World} {K:PySem.W.Frag} {tg:Expr} (a it:Addr):wx P w K tg (sd K a) [it] it (fun i h=>h.IsListIter it a i) where
 mem:=by simp
 obj:=fun i h st b hb=>by
  have e:b=it:=by simpa using hb
  subst e
  obtain⟨o,e,c,d⟩:=st
  exact⟨o,e,fun v z=>by rw [d] at z;cases z⟩
 keep:=fun i h h' st k=>st.at fun o e=>k it (by simp) o e
 item:=by
  intro X hP hw hK hc i pins s σ H E I hf st hg
  subst hP hw hK
  obtain⟨xs,x,hq,hx⟩:=hg
  obtain⟨its,rv,p,hz⟩:=I.list hq
  obtain⟨u,hu,ru⟩:=rv.get hx
  obtain⟨f0,f1,f2,f3,f4,f5⟩:=hf it (by simp)
  refine wpAny_pyNext_list_item st p.isList (x:=u) (by simpa using hu) fun h' st' sb=>?_
  have I1:Inv X pins σ H { s with heap:=h' }:=I.turned (t':=s.toks) (fun b o hb e=>(sb.2 b hb).trans e) f0 f1 f3 f4 f5
  obtain⟨o,e,c,d⟩:=id st'
  exact⟨u,rfl,vR (s:={ s with heap:=h' }) e c d (by decide) ⟨x,H,I1,ru,⟨rfl,fun ys hy=>by rw [I.list_inj hy hq];exact hx⟩,st',fun b hb=>(hf b hb).1⟩⟩
 done:=by
  intro X hP hw hK hc i pins s σ H E I hf st hg
  subst hP hw hK
  obtain⟨xs,hq,hx⟩:=hg
  obtain⟨its,rv,p,hz⟩:=I.list hq
  obtain⟨f0,f1,f2,f3,f4,f5⟩:=hf it (by simp)
  have hl:=rv.length
  exact wpAny_pyNext_list_end (I.ok.hd hc) st p.isList (by simp;omega) fun h' eb=>⟨rfl,I.turned (t':=s.toks) (fun b o hb e=>eb b o hb e) f0 f1 f3 f4 f5⟩
 self:=fun _ _ _ _ _ st h=>wpAny_pyIter_listiter st h
theorem i8 {P:Program} {w:World} {K:PySem.W.Frag} {tg:Expr} (a it:Addr):wx P w K tg (wD K a) [it] it (fun i h=>h.IsTupleIter it a i) where
 mem:=by simp
 obj:=fun i h st b hb=>by
  have e:b=it:=by simpa using hb
  subst e
  obtain⟨o,e,c,d⟩:=st
  exact⟨o,e,fun v z=>by rw [d] at z;cases z⟩
 keep:=fun i h h' st k=>st.at fun o e=>k it (by simp) o e
 item:=by
  intro X hP hw hK hc i pins s σ H E I hf st hg
  subst hP hw hK
  obtain⟨xs,x,hq,hx⟩:=hg
  obtain⟨its,rv,p,hz⟩:=I.tuple hq
  obtain⟨u,hu,ru⟩:=rv.get hx
  obtain⟨f0,f1,f2,f3,f4,f5⟩:=hf it (by simp)
  refine wpAny_pyNext_tuple_item st (show s.heap.IsTuple a its.toArray from p) (x:=u) (by simpa using hu) fun h' st' sb=>?_
  have I1:Inv X pins σ H { s with heap:=h' }:=I.turned (t':=s.toks) (fun b o hb e=>(sb.2 b hb).trans e) f0 f1 f3 f4 f5
  obtain⟨o,e,c,d⟩:=id st'
  exact⟨u,rfl,vR (s:={ s with heap:=h' }) e c d (by decide) ⟨x,H,I1,ru,⟨rfl,fun ys hy=>by rw [I.tuple_inj hy hq];exact hx⟩,st',fun b hb=>(hf b hb).1⟩⟩
 done:=by
  intro X hP hw hK hc i pins s σ H E I hf st hg
  subst hP hw hK
  obtain⟨xs,hq,hx⟩:=hg
  obtain⟨its,rv,p,hz⟩:=I.tuple hq
  obtain⟨f0,f1,f2,f3,f4,f5⟩:=hf it (by simp)
  have hl:=rv.length
  exact wpAny_pyNext_tuple_end (I.ok.hd hc) st (show s.heap.IsTuple a its.toArray from p) (by simp;omega) fun h' eb=>⟨rfl,I.turned (t':=s.toks) (fun b o hb e=>eb b o hb e) f0 f1 f3 f4 f5⟩
 self:=fun _ _ _ _ _ st h=>wpAny_pyIter_tupleiter st h
theorem nR {P:Program} {w:World} {K:PySem.W.Frag} {tg:Expr} (it:Addr) (lo:Int) (n:Nat):wx P w K tg (wE lo n) [it] it (fun i h=>IsRangeIter h it (lo+(i:Nat) * 1) ((n:Int) - (i:Nat)) 1) where
 mem:=by simp
 obj:=fun i h st b hb=>by
  have e:b=it:=by simpa using hb
  subst e
  exact⟨_,st,fun v z=>by
   have z':Data.fields _=Data.cell v:=z
   cases z'⟩
 keep:=fun i h h' st k=>k it (by simp) _ st
 item:=by
  intro X hP hw hK hc i pins s σ H E I hf st hg
  subst hP hw hK
  obtain⟨f0,f1,f2,f3,f4,f5⟩:=hf it (by simp)
  have W:=Walks.range (prog:=X.prog) (w:=X.w) (I.ok.hd hc) it lo 1 n
  refine W.item i s _ _ hg st fun v h' tk hv st' kk=>?_
  obtain⟨t,rfl⟩:=hv
  have I1:Inv X pins σ H { s with heap:=h',toks:=tk }:=I.turned (fun b o hb e=>kk b o (by simpa using hb) e) f0 f1 f3 f4 f5
  refine⟨_,rfl,vR (s:={ s with heap:=h',toks:=tk }) (n := "range_iterator") st' rfl rfl (by decide) ⟨.int (lo+i),H,I1,⟨t,?_⟩,⟨rfl,rfl⟩,st',fun b hb=>(hf b hb).1⟩⟩
  rw [Int.mul_one]
 done:=by
  intro X hP hw hK hc i pins s σ H E I hf st hg
  subst hP hw hK
  obtain⟨f0,f1,f2,f3,f4,f5⟩:=hf it (by simp)
  exact wpAny_pyNext_range_end (I.ok.hd hc) st (by have:n≤i:=hg;omega) fun h' eb=>⟨rfl,I.turned (t':=s.toks) (fun b o hb e=>eb b o hb e) f0 f1 f3 f4 f5⟩
 self:=fun _ _ _ _ _ st h=>wpAny_pyIter_rangeiter st h
end L2
namespace L2
open PySem PySem.Spec PyProof.Rows
section
variable {X:Cx} {tg:Expr}
def zo (K:PySem.W.Frag) (tl:TE):TI:=fun σ H R=>tl σ H fun x H1=>∃ a,x=.ref a/\(∃ xs,aR K H1 a xs)/\R (sd K a) H1
def yn (K:PySem.W.Frag) (tl:TE):TI:=fun σ H R=>tl σ H fun x H1=>∃ a,x=.ref a/\(∃ xs,bo K H1 a xs)/\R (wD K a) H1
theorem xI {l:Expr} {tl:TE} (hl:PE X l tl):PI X tg l (zo X.K tl):=by
 intro pins s σ H R I h
 refine bX (hl pins s σ H _ I h) fun v s1 ⟨x,H1,I1,r1,q1⟩=>?_
 obtain⟨a,e,⟨xs,hq⟩,q⟩:=q1
 subst e
 cases r1
 obtain⟨its,rv,p,hz⟩:=I1.list hq
 refine wpAny_pyIter_list p.isList ?_
 refine⟨s1.heap.objs.size,[s1.heap.objs.size],_,_,H1,rfl,I1.kept (t':=s1.toks) fun b o e=>Heap.get?_push_of_some _ e,j8 a _,⟨_,Heap.get?_push_size _ rfl,rfl,rfl⟩,fun b hb=>?_,q⟩
 have e:b=s1.heap.objs.size:=by simpa using hb
 subst e
 exact I1.fpOk (Nat.le_refl _) (I1.hok.fresh (Nat.le_refl _))
theorem uO {l:Expr} {tl:TE} (hl:PE X l tl):PI X tg l (yn X.K tl):=by
 intro pins s σ H R I h
 refine bX (hl pins s σ H _ I h) fun v s1 ⟨x,H1,I1,r1,q1⟩=>?_
 obtain⟨a,e,⟨xs,hq⟩,q⟩:=q1
 subst e
 cases r1
 obtain⟨its,rv,p,hz⟩:=I1.tuple hq
 refine wpAny_pyIter_tuple (show s1.heap.IsTuple a its.toArray from p) ?_
 refine⟨s1.heap.objs.size,[s1.heap.objs.size],_,_,H1,rfl,I1.kept (t':=s1.toks) fun b o e=>Heap.get?_push_of_some _ e,i8 a _,⟨_,Heap.get?_push_size _ rfl,rfl,rfl⟩,fun b hb=>?_,q⟩
 have e:b=s1.heap.objs.size:=by simpa using hb
 subst e
 exact I1.fpOk (Nat.le_refl _) (I1.hok.fresh (Nat.le_refl _))
theorem ur {pins:List (Addr×Obj)} {σ:St} {H:Hp} {s:Shared} {R:It->Hp->Prop} {E:Value->Shared->Prop} {lo hi:Int} {t u v:Tok} {tk:Nat} (I:Inv X pins σ H s) (h1:-(2 ^ 62)≤lo) (h2:lo < 2 ^ 62) (h3:-(2 ^ 62)≤hi) (h4:hi < 2 ^ 62)
  (q:R (wE lo (hi - lo).toNat) H):wpAny (model X.prog X.w) X.A (pyIter (.ref s.heap.objs.size)) (GE X pins σ tg R) E { s with heap:=s.heap.push { cls:=.type "range", data:=.fields #[.int lo t,.int hi u,.int 1 v] },toks:=tk }:=by
 refine wpAny_pyIter_range (IsRange.new ..) (small_one h1 h2 h3 h4) ?_
 have I1:Inv X pins σ H { s with heap:=s.heap.push { cls:=.type "range", data:=.fields #[.int lo t,.int hi u,.int 1 v] },toks:=tk }:=I.kept fun b o e=>Heap.get?_push_of_some _ e
 refine⟨(s.heap.push { cls:=.type "range", data:=.fields #[.int lo t,.int hi u,.int 1 v] }).objs.size,[(s.heap.push { cls:=.type "range", data:=.fields #[.int lo t,.int hi u,.int 1 v] }).objs.size],_,_,H,rfl,
  I1.kept (t':=tk) fun b o e=>Heap.get?_push_of_some _ e,nR _ lo (hi - lo).toNat,?_,fun b hb=>?_,q⟩
 ·have e1:lo+((0:Nat):Int) * 1=lo:=by simp
  have e2:(((hi - lo).toNat:Nat):Int) - ((0:Nat):Int)=Builtin.Range.rangeSize lo hi 1:=by rw [rangeSize_one];split <;> omega
  show IsRangeIter _ _ (lo+((0:Nat):Int) * 1) ((((hi - lo).toNat:Nat):Int) - ((0:Nat):Int)) 1
  rw [e1,e2]
  exact Heap.get?_push_size _ rfl
 ·have e:b=(s.heap.push { cls:=.type "range", data:=.fields #[.int lo t,.int hi u,.int 1 v] }).objs.size:=by simpa using hb
  subst e
  exact I1.fpOk (Nat.le_refl _) (I1.hok.fresh (Nat.le_refl _))
def zn (ta:TA):TI:=fun σ H R=>ta σ H fun vs H1=>∃ j:Int,vs=[.int j]/\-(2 ^ 62)≤j/\j < 2 ^ 62/\R (wE 0 j.toNat) H1
def Gr (ta:TA):TI:=fun σ H R=>ta σ H fun vs H1=>∃ i j:Int,vs=[.int i,.int j]/\(-(2 ^ 62)≤i/\i < 2 ^ 62/\-(2 ^ 62)≤j/\j < 2 ^ 62)/\R (wE i (j - i).toNat) H1
theorem qU {a:Expr} {ta:TA} {p pos:Pos} (hg:Gl X "range") (hm:X.mg "range" = none) (ha:PA X [a] ta) (hs:starEach [a] X.env=[(false,eval a X.env)]:=by rfl):PI X tg (.Call (.Name "range" p) [a] [] pos) (zn ta):=by
 intro pins s σ H R I h
 refine Call_ (fF I hg hm boot_range (PyProof.Rows.callWith_type1 (bX (ha pos pins s σ H _ I h) fun us s1 ⟨vs,H1,I1,r1,q1⟩=>?_) hs rfl))
 obtain⟨j,e,q1,q2,q⟩:=q1
 subst e
 cases r1 with
 | cons r rr=>
  cases rr
  obtain⟨t,rfl⟩:=r
  exact call_range_1 (ur I1 (by omega) (by omega) q1 q2 (by simpa using q))
def CP (wi:TI) (g:TG) (tb:TS):TS:=fun D σ H=>wi σ H fun J H1=>∃ W:Nat->Nat->St->Hp->Prop,(∃ m,W 0 m σ H1)/\∀ i m σ H,W i m σ H→
 (J.stop i H/\D.nx σ H)∨(J.go i H/\∃ N:St->Hp->Prop,(∀ σ' H',N σ' H'->∃ m',m' < m/\W (i+1) m' σ' H')/\∀ x H',J.yld i H x H'->g x σ H' fun σ2 H2=>tb { D with nx:=N,ct:=N,bk:=D.nx } σ2 H2)
def gj (fp:List Addr) (h:Heap):List (Addr×Obj):=fp.filterMap fun b=>(h.get? b).map fun o=>(b,o)
theorem cS {fp:List Addr} {h:Heap} {b:Addr} {o:Obj} (hb:b∈fp) (e:h.get? b=some o):(b,o)∈gj fp h:=List.mem_filterMap.mpr ⟨b,hb,by rw [e];rfl⟩
theorem qZ {fp:List Addr} {h:Heap} {p:Addr×Obj} (hp:p∈gj fp h):p.1∈fp/\h.get? p.1=some p.2:=by
 obtain⟨b,hb,e⟩:=List.mem_filterMap.mp hp
 cases q:h.get? b with
 | none=>rw [q] at e;cases e
 | some o=>
  rw [q] at e
  have e':(b,o)=p:=Option.some.inj e
  subst e'
  exact⟨hb,q⟩
theorem Inv.pinned {pins:List (Addr×Obj)} {σ:St} {H:Hp} {s:Shared} {fp:List Addr} (I:Inv X pins σ H s) (hf:∀ b∈fp,eG X pins H b) (ho:∀ b∈fp,∃ o,s.heap.get? b=some o/\∀ v,o.data≠.cell v):Inv X (pins++gj fp s.heap) σ H s:=
 I.pins_of fun p hp=>(List.mem_append.mp hp).elim (fun z=>I.pin p (List.mem_append_right _ z)) fun z=>by
  obtain⟨hb,e⟩:=qZ z
  obtain⟨f0,f1,f2,_⟩:=hf p.1 hb
  obtain⟨o,e',d⟩:=ho p.1 hb
  rw [e] at e';cases e'
  exact⟨e,f0,f1,f2,d⟩
theorem Inv.unpinned {pins pl:List (Addr×Obj)} {σ:St} {H:Hp} {s:Shared} (I:Inv X (pins++pl) σ H s):Inv X pins σ H s:=I.pins_of fun p hp=>I.pin p (List.mem_append_right _ (List.mem_append_left _ hp))
theorem AW {iter:Expr} {body:List Stmt} {wi:TI} {g:TG} {tb:TS} {pos:Pos} (hp:PassesOwn (model X.prog X.w) X.A X.env X.xe) (hc:X.calm=true) (hi:PI X tg iter wi) (hg:PG X tg g) (hb:jV X body tb)
  (hs:∀ x,foldedSetIterable iter X.env x=pure x:=by intro _;rfl):PS X (.For tg iter body [] pos) (CP wi g tb):=by
 intro pins s σ H D I h
 refine wpAny_For (bX (hi pins s σ H _ I h) fun v s1 h1=>bX h1 fun itv s2 h2=>?_) hs
 obtain⟨it,fp,tn,J,H2,e,I2,T,st2,f2,W,⟨m0,w0⟩,turn⟩:=h2
 subst e
 have stat:∀ {H':Hp},(∀ b∈fp,H' b=none)->∀ b∈fp,eG X pins H' b:=fun hn b hb=>⟨hn b hb,(f2 b hb).2⟩
 refine codeAny_forLoop_any (fun n s'=>∃ i σ' H',Inv X pins σ' H' s'/\tn i s'.heap/\(∀ b∈fp,H' b=none)/\W i n σ' H') ?_ m0 ⟨0,σ,H2,I2,st2,fun b hb=>(f2 b hb).1,w0⟩
 rintro n s3 ⟨i,σ3,H3,I3,st3,fr3,w3⟩
 rcases turn i n σ3 H3 w3 with ⟨stop,qn⟩ | ⟨go,N,hN,step⟩
 ·refine wpAny_passesOwn hp (bX (T.done X rfl rfl rfl hc i pins s3 σ3 H3 X.xe I3 (stat fr3) st3 stop) fun r s4 ⟨hr,I4⟩=>?_)
  subst hr
  exact wpAny_execs_nil ⟨σ3,H3,I4,qn⟩
 ·refine wpAny_passesOwn hp (bX (T.item X rfl rfl rfl hc i pins s3 σ3 H3 X.xe I3 (stat fr3) st3 go) fun r s4 ⟨u,hr,h4⟩=>?_)
  subst hr
  refine wpAny_passesOwn hp (bX h4 fun _ s5 ⟨x,H5,I5,r5,y5,st5,fr5⟩=>?_)
  have I5':=I5.pinned (stat fr5) (T.obj _ _ st5)
  refine wpAny_passesOwn hp (bX (hg _ s5 σ3 H5 x u _ I5' r5 (step x H5 y5)) fun _ s6 ⟨σ6,H6,I6,q6⟩=>?_)
  refine wpAny_passesOwn hp (bX (hb _ s6 σ6 H6 _ I6 q6) fun f s7 q7=>?_)
  have again:∀ {σ7:St} {H7:Hp},Inv X (pins++gj fp s5.heap) σ7 H7 s7->N σ7 H7->∃ m,m < n/\∃ i σ' H',Inv X pins σ' H' s7/\tn i s7.heap/\(∀ b∈fp,H' b=none)/\W i m σ' H':=fun {σ7 H7} I7 n7=>by
   obtain⟨m',hm,w7⟩:=hN σ7 H7 n7
   refine⟨m',hm,i+1,σ7,H7,I7.unpinned,T.keep _ _ _ st5 fun b hb o e=>(I7.pin (b,o) (List.mem_append_right _ (List.mem_append_right _ (cS hb e)))).1,fun b hb=>?_,w7⟩
   obtain⟨o,e,d⟩:=T.obj _ _ st5 b hb
   exact (I7.pin (b,o) (List.mem_append_right _ (List.mem_append_right _ (cS hb e)))).2.1
  cases f with
  | next=>obtain⟨σ7,H7,I7,n7⟩:=q7;exact again I7 n7
  | cont=>obtain⟨σ7,H7,I7,n7⟩:=q7;exact again I7 n7
  | brk=>obtain⟨σ7,H7,I7,q7⟩:=q7;exact⟨σ7,H7,I7.unpinned,q7⟩
  | ret v=>obtain⟨x7,σ7,H7,I7,r7,q7⟩:=q7;exact⟨x7,σ7,H7,I7.unpinned,r7,q7⟩
end
theorem eV {K:PySem.W.Frag} {a:Addr} {xs:List V} {g:TG} {tb:TS} {D:iA} {σ:St} {H:Hp} (Pv:Nat->St->Hp->Prop) (h0:Pv 0 σ H) (hl:∀ i σ H,i≤xs.length->Pv i σ H->aR K H a xs)
  (hs:∀ i x σ H,xs[i]?=some x->Pv i σ H->g x σ H fun σ2 H2=>tb { D with nx:=Pv (i+1),ct:=Pv (i+1),bk:=D.nx } σ2 H2) (hd:∀ σ H,Pv xs.length σ H->D.nx σ H) :
  ∃ W:Nat->Nat->St->Hp->Prop,(∃ m,W 0 m σ H)/\∀ i m σ H,W i m σ H→
   ((sd K a).stop i H/\D.nx σ H)∨((sd K a).go i H/\∃ N:St->Hp->Prop,(∀ σ' H',N σ' H'->∃ m',m' < m/\W (i+1) m' σ' H')/\∀ x H',(sd K a).yld i H x H'->g x σ H' fun σ2 H2=>tb { D with nx:=N,ct:=N,bk:=D.nx } σ2 H2):=by
 refine⟨fun i m σ H=>m=xs.length - i/\i≤xs.length/\Pv i σ H,⟨xs.length,by simp,Nat.zero_le _,h0⟩,?_⟩
 rintro i m σ H ⟨rfl,hi,p⟩
 have q:=hl i σ H hi p
 by_cases hlt:i < xs.length
 ·refine .inr ⟨⟨xs,xs[i],q,by simp [hlt]⟩,Pv (i+1),fun σ' H' p'=>⟨xs.length - (i+1),by omega,rfl,hlt,p'⟩,fun x H' y=>?_⟩
  obtain⟨e,y⟩:=y
  subst e
  exact hs i x σ _ (y xs q) p
 ·have e:i=xs.length:=by omega
  subst e
  exact .inl ⟨⟨xs,q,Nat.le_refl _⟩,hd σ H p⟩
theorem iY {K:PySem.W.Frag} {a:Addr} {xs:List V} {g:TG} {tb:TS} {D:iA} {σ:St} {H:Hp} (Pv:Nat->St->Hp->Prop) (h0:Pv 0 σ H) (hl:∀ i σ H,i≤xs.length->Pv i σ H->bo K H a xs)
  (hs:∀ i x σ H,xs[i]?=some x->Pv i σ H->g x σ H fun σ2 H2=>tb { D with nx:=Pv (i+1),ct:=Pv (i+1),bk:=D.nx } σ2 H2) (hd:∀ σ H,Pv xs.length σ H->D.nx σ H) :
  ∃ W:Nat->Nat->St->Hp->Prop,(∃ m,W 0 m σ H)/\∀ i m σ H,W i m σ H→
   ((wD K a).stop i H/\D.nx σ H)∨((wD K a).go i H/\∃ N:St->Hp->Prop,(∀ σ' H',N σ' H'->∃ m',m' < m/\W (i+1) m' σ' H')/\∀ x H',(wD K a).yld i H x H'->g x σ H' fun σ2 H2=>tb { D with nx:=N,ct:=N,bk:=D.nx } σ2 H2):=by
 refine⟨fun i m σ H=>m=xs.length - i/\i≤xs.length/\Pv i σ H,⟨xs.length,by simp,Nat.zero_le _,h0⟩,?_⟩
 rintro i m σ H ⟨rfl,hi,p⟩
 have q:=hl i σ H hi p
 by_cases hlt:i < xs.length
 ·refine .inr ⟨⟨xs,xs[i],q,by simp [hlt]⟩,Pv (i+1),fun σ' H' p'=>⟨xs.length - (i+1),by omega,rfl,hlt,p'⟩,fun x H' y=>?_⟩
  obtain⟨e,y⟩:=y
  subst e
  exact hs i x σ _ (y xs q) p
 ·have e:i=xs.length:=by omega
  subst e
  exact .inl ⟨⟨xs,q,Nat.le_refl _⟩,hd σ H p⟩
theorem cX {lo:Int} {n:Nat} {g:TG} {tb:TS} {D:iA} {σ:St} {H:Hp} (Pv:Nat->St->Hp->Prop) (h0:Pv 0 σ H)
  (hs:∀ i σ H,i < n->Pv i σ H->g (.int (lo+i)) σ H fun σ2 H2=>tb { D with nx:=Pv (i+1),ct:=Pv (i+1),bk:=D.nx } σ2 H2) (hd:∀ σ H,Pv n σ H->D.nx σ H) :
  ∃ W:Nat->Nat->St->Hp->Prop,(∃ m,W 0 m σ H)/\∀ i m σ H,W i m σ H→
   ((wE lo n).stop i H/\D.nx σ H)∨((wE lo n).go i H/\∃ N:St->Hp->Prop,(∀ σ' H',N σ' H'->∃ m',m' < m/\W (i+1) m' σ' H')/\∀ x H',(wE lo n).yld i H x H'->g x σ H' fun σ2 H2=>tb { D with nx:=N,ct:=N,bk:=D.nx } σ2 H2):=by
 refine⟨fun i m σ H=>m=n - i/\i≤n/\Pv i σ H,⟨n,by simp,Nat.zero_le _,h0⟩,?_⟩
 rintro i m σ H ⟨rfl,hi,p⟩
 by_cases hlt:i < n
 ·refine .inr ⟨hlt,Pv (i+1),fun σ' H' p'=>⟨n - (i+1),by omega,rfl,hlt,p'⟩,fun x H' y=>?_⟩
  obtain⟨e,y⟩:=y
  subst e y
  exact hs i σ _ hlt p
 ·have e:i=n:=by omega
  subst e
  exact .inl ⟨Nat.le_refl _,hd σ H p⟩
end L2
namespace L2
open PySem PySem.Spec PyProof.Rows
abbrev R2:=V->V->Hp->VK->Prop
def gB (X:Cx) (f:Value->Value->Sem Value) (r:R2):Prop:=
 ∀ (pins:List (Addr×Obj)) (s:Shared) (σ:St) (H:Hp) (x y:V) (v u:Value) (Q:VK),Inv X pins σ H s->aY x v->aY y u->r x y H Q→
  wpAny (model X.prog X.w) X.A (f v u) (EP X pins σ Q) X.xe s
def Ew (X:Cx) (f:Value->Sem Value) (r:V->Hp->VK->Prop):Prop:=
 ∀ (pins:List (Addr×Obj)) (s:Shared) (σ:St) (H:Hp) (x:V) (v:Value) (Q:VK),Inv X pins σ H s->aY x v->r x H Q→
  wpAny (model X.prog X.w) X.A (f v) (EP X pins σ Q) X.xe s
def dj (X:Cx) (f:Value) (r:List V->Hp->VK->Prop):Prop:=
 ∀ (pins:List (Addr×Obj)) (s:Shared) (σ:St) (H:Hp) (xs:List V) (us:List Value) (Q:VK),Inv X pins σ H s->aZ xs us->r xs H Q→
  wpAny (model X.prog X.w) X.A (call f us) (EP X pins σ Q) X.xe s
def HY (X:Cx) (r:V->Hp->(Bool->Hp->Prop)->Prop):Prop:=
 ∀ (pins:List (Addr×Obj)) (s:Shared) (σ:St) (H:Hp) (x:V) (v:Value) (Q:Bool->Hp->Prop),Inv X pins σ H s->aY x v->r x H Q→
  wpAny (model X.prog X.w) X.A (truthy v) (TP X pins σ Q) X.xe s
def wN (r:R2) (ta tb:TE):TE:=fun σ H Q=>ta σ H fun x H1=>tb σ H1 fun y H2=>r x y H2 Q
def FG (r:V->Hp->VK->Prop) (ta:TE):TE:=fun σ H Q=>ta σ H fun x H1=>r x H1 Q
def rI (C:Int->Int->Prop) (g:Int->Int->V):R2:=fun x y H Q=>∃ i j,x=.int i/\y=.int j/\C i j/\Q (g i j) H
def AJ (g:Int->Int->V):R2:=fun x y H Q=>∃ i j,x=.int i/\y=.int j/\Q (g i j) H
def rU (g:Int->V):V->Hp->VK->Prop:=fun x H Q=>∃ i,x=.int i/\Q (g i) H
section
variable {X:Cx} {a b c:Expr} {ta tb tc:TE} {pos:Pos}
theorem B4 (ha:PE X a ta) (hb:PE X b tb) {pins:List (Addr×Obj)} {s:Shared} {σ:St} {H:Hp} {R:V->V->Hp->Prop} (I:Inv X pins σ H s)
  (h:ta σ H fun x H1=>tb σ H1 fun y H2=>R x y H2) {Q:Value->Shared->Prop} {f:Value->Value->Sem Value}
  (hf:∀ v u s2 x y H2,Inv X pins σ H2 s2->aY x v->aY y u->R x y H2->wpAny (model X.prog X.w) X.A (f v u) Q X.xe s2) :
  wpAny (model X.prog X.w) X.A (eval a X.env) (fun v s₁=>wpAny (model X.prog X.w) X.A (eval b X.env) (fun u s₂=>wpAny (model X.prog X.w) X.A (f v u) Q X.xe s₂) X.xe s₁) X.xe s:=by
 refine bX (ha pins s σ H _ I h) fun v s1 ⟨x,H1,I1,r1,q1⟩=>?_
 refine bX (hb pins s1 σ H1 _ I1 q1) fun u s2 ⟨y,H2,I2,r2,q2⟩=>?_
 exact hf v u s2 x y H2 I2 r1 r2 q2
theorem Di {op:Operator} {r:R2} (ho:gB X (binaryOp op) r) (ha:PE X a ta) (hb:PE X b tb):PE X (.BinOp a op b pos) (wN r ta tb):=by
 intro pins s σ H Q I h
 exact wpAny_BinOp (B4 ha hb I h fun v u s2 x y H2 I2 rx ry q=>ho pins s2 σ H2 x y v u Q I2 rx ry q)
theorem Dh {op:UnaryOp} {r:V->Hp->VK->Prop} (ho:Ew X (unaryOp op) r) (ha:PE X a ta):PE X (.UnaryOp op a pos) (FG r ta):=by
 intro pins s σ H Q I h
 exact UnaryOp_ (bX (ha pins s σ H _ I h) fun v s1 ⟨x,H1,I1,r1,q1⟩=>ho pins s1 σ H1 x v Q I1 r1 q1)
theorem Bd {f:Value->Value->Sem Value} {C:Int->Int->Prop} {g:Int->Int->Int}
  (rule:∀ (i j:Int) (t u:Tok) (s:Shared) (Q:Value->Shared->Prop) (E:Value->Shared->Prop),C i j->Q (.int (g i j) s.toks) { s with toks:=s.toks+1 }->wpAny (model X.prog X.w) X.A (f (.int i t) (.int j u)) Q E s) :
  gB X f (rI C fun i j=>.int (g i j)):=by
 intro pins s σ H x y v u Q I rx ry h
 obtain⟨i,j,rfl,rfl,hc,q⟩:=h
 obtain⟨t,rfl⟩:=rx
 obtain⟨t',rfl⟩:=ry
 exact rule i j t t' s _ _ hc ⟨.int (g i j),H,I.tok _,⟨_,rfl⟩,q⟩
theorem Do {f:Value->Value->Sem Value} {g:Int->Int->Int}
  (rule:∀ (i j:Int) (t u:Tok) (s:Shared) (Q:Value->Shared->Prop) (E:Value->Shared->Prop),Q (.int (g i j) s.toks) { s with toks:=s.toks+1 }->wpAny (model X.prog X.w) X.A (f (.int i t) (.int j u)) Q E s) :
  gB X f (AJ fun i j=>.int (g i j)):=by
 intro pins s σ H x y v u Q I rx ry h
 obtain⟨i,j,rfl,rfl,q⟩:=h
 obtain⟨t,rfl⟩:=rx
 obtain⟨t',rfl⟩:=ry
 exact rule i j t t' s _ _ ⟨.int (g i j),H,I.tok _,⟨_,rfl⟩,q⟩
theorem Be {f:Value->Value->Sem Value} {g:Int->Int->Bool}
  (rule:∀ (i j:Int) (t u:Tok) (s:Shared) (Q:Value->Shared->Prop) (E:Value->Shared->Prop),Q (.bool (g i j)) s->wpAny (model X.prog X.w) X.A (f (.int i t) (.int j u)) Q E s) :
  gB X f (AJ fun i j=>.bl (g i j)):=by
 intro pins s σ H x y v u Q I rx ry h
 obtain⟨i,j,rfl,rfl,q⟩:=h
 obtain⟨t,rfl⟩:=rx
 obtain⟨t',rfl⟩:=ry
 exact rule i j t t' s _ _ ⟨.bl (g i j),H,I,rfl,q⟩
def FD (i j:Int):Prop:=0 < j/\j < 1073741824
def GH (i j:Int):Prop:=j≠0/\j.natAbs < 1073741824
def FC (i j:Int):Prop:=0≤j/\j≤1000000/\i.natAbs < 2 ^ 64
def Cj (i j:Int):Prop:=(-(2 ^ 64) < i/\i < 2 ^ 64)∨(-(2 ^ 64) < j/\j < 2 ^ 64)
theorem Cj.ok {i j:Int} (h:Cj i j):IntMulOk i j:=by
 rcases h with ⟨h1,h2⟩ | ⟨h1,h2⟩
 ·exact .of_left (intBits_le_64 h1 h2)
 ·exact .of_right (intBits_le_64 h1 h2)
theorem bJ:gB X (binaryOp .Add) (AJ fun i j=>.int (i+j)):=Do fun _ _ _ _ _ _ _ q=>add_int q
theorem fh:gB X (binaryOp .Sub) (AJ fun i j=>.int (i - j)):=Do fun _ _ _ _ _ _ _ q=>sub_int q
theorem ik:gB X (binaryOp .Mult) (rI Cj fun i j=>.int (i * j)):=Bd fun _ _ _ _ _ _ _ hc q=>mul_int q hc.ok
theorem iT:gB X (binaryOp .FloorDiv) (rI FD fun i j=>.int (i / j)):=Bd fun i j _ _ _ _ _ hc q=>by
 have h1:(0:Int) < j:=hc.1
 have h2:j < 1073741824:=hc.2
 exact floordiv_int (by omega) (by rw [Int.fdiv_eq_ediv_of_nonneg i (by omega)];exact q) (.inl (PyProof.noPylong_small (by omega)))
theorem eK:gB X (binaryOp .Mod) (rI (fun _ j=>0 < j) fun i j=>.int (i % j)):=Bd fun i j _ _ _ _ _ hc q=>by
 have h1:(0:Int) < j:=hc
 exact mod_int' (by omega) (by rw [Int.fmod_eq_emod_of_nonneg i (by omega)];exact q)
theorem Bb:gB X (binaryOp .Pow) (rI FC fun i j=>.int (i ^ j.toNat)):=Bd fun _ _ _ _ _ _ _ hc q=>pow_int_small hc.1 hc.2.1 hc.2.2 q
theorem GN {f:Value->Sem Value} {g:Int->Int}
  (rule:∀ (i:Int) (t:Tok) (s:Shared) (Q:Value->Shared->Prop) (E:Value->Shared->Prop),Q (.int (g i) s.toks) { s with toks:=s.toks+1 }->wpAny (model X.prog X.w) X.A (f (.int i t)) Q E s) :
  Ew X f (rU fun i=>.int (g i)):=by
 intro pins s σ H x v Q I rx h
 obtain⟨i,rfl,q⟩:=h
 obtain⟨t,rfl⟩:=rx
 exact rule i t s _ _ ⟨.int (g i),H,I.tok _,⟨_,rfl⟩,q⟩
theorem dG:Ew X (unaryOp .USub) (rU fun i=>.int (-i)):=GN fun _ _ _ _ _ q=>neg_int q
end
def CY:V->V->Bool
 | .non,.non=>true | .non,.int _=>true | .int _,.non=>true | .non,.bl _=>true | .bl _,.non=>true | .non,.str _=>true | .str _,.non=>true
 | .int _,.int _=>true | .bl _,.bl _=>true | .str _,.str _=>true | .byt _,.byt _=>true
 | .int _,.str _=>true | .str _,.int _=>true | .bl _,.str _=>true | .str _,.bl _=>true
 | _,_=>false
def Hr:R2:=fun x y H Q=>CY x y=true/\Q (.bl (decide (x=y))) H
def Hk:R2:=fun x y H Q=>CY x y=true/\Q (.bl (!decide (x=y))) H
theorem qh {i j:Int}:decide (V.int i=V.int j)=(i == j):=by
 rw [Bool.eq_iff_iff]
 simp
theorem v7 {i j:Bool}:decide (V.bl i=V.bl j)=(i == j):=by
 rw [Bool.eq_iff_iff]
 simp
theorem qg {i j:Str}:decide (V.str i=V.str j)=(i == j):=by
 rw [Bool.eq_iff_iff]
 simp
theorem qi {i j:Array UInt8}:decide (V.byt i=V.byt j)=(i.toList == j.toList):=by
 rw [Bool.eq_iff_iff]
 cases i
 cases j
 simp
section
variable {X:Cx} {a b c:Expr} {ta tb tc:TE} {pos:Pos}
theorem br {pins:List (Addr×Obj)} {σ:St} {H:Hp} {s:Shared} {Q:VK} {k k':Bool} (I:Inv X pins σ H s) (q:Q (.bl k) H) (e:k=k'):EP X pins σ Q (.bool k') s:=by
 subst e
 exact⟨.bl k,H,I,rfl,q⟩
theorem dh:gB X (compareOp .Eq) Hr:=by
 intro pins s σ H x y v u Q I rx ry h
 obtain⟨hs,q⟩:=h
 cases x with
 | non=>
  cases rx
  cases y with
  | non=>cases ry;exact PySem.EqNone.eq_none_none (br I q (by simp))
  | bl j=>cases ry;exact PySem.EqNone.eq_none_bool (br I q (by simp))
  | int j=>obtain⟨t',rfl⟩:=ry;exact PySem.EqNone.eq_none_int (br I q (by simp))
  | str j=>obtain⟨t',rfl⟩:=ry;exact PySem.EqNone.eq_none_str (br I q (by simp))
  | _=>exact absurd (show false=true from hs) Bool.false_ne_true
 | bl i=>
  cases rx
  cases y with
  | non=>cases ry;exact PySem.EqNone.eq_bool_none (br I q (by simp))
  | bl j=>cases ry;exact eq_bool (br I q v7)
  | str j=>obtain⟨t',rfl⟩:=ry;exact PySem.EqMixed.eq_bool_str (br I q (by simp))
  | _=>exact absurd (show false=true from hs) Bool.false_ne_true
 | int i=>
  obtain⟨t,rfl⟩:=rx
  cases y with
  | non=>cases ry;exact PySem.EqNone.eq_int_none (br I q (by simp))
  | int j=>obtain⟨t',rfl⟩:=ry;exact eq_int (br I q qh)
  | str j=>obtain⟨t',rfl⟩:=ry;exact PySem.EqMixed.eq_int_str (br I q (by simp))
  | _=>exact absurd (show false=true from hs) Bool.false_ne_true
 | str i=>
  obtain⟨t,rfl⟩:=rx
  cases y with
  | non=>cases ry;exact PySem.EqNone.eq_str_none (br I q (by simp))
  | bl j=>cases ry;exact PySem.EqMixed.eq_str_bool (br I q (by simp))
  | int j=>obtain⟨t',rfl⟩:=ry;exact PySem.EqMixed.eq_str_int (br I q (by simp))
  | str j=>obtain⟨t',rfl⟩:=ry;exact eq_str (br I q qg)
  | _=>exact absurd (show false=true from hs) Bool.false_ne_true
 | byt i=>
  obtain⟨t,rfl⟩:=rx
  cases y with
  | byt j=>obtain⟨t',rfl⟩:=ry;exact PySem.W.eq_bytes (br I q qi)
  | _=>exact absurd (show false=true from hs) Bool.false_ne_true
 | _=>cases y <;> exact absurd (show false=true from hs) Bool.false_ne_true
theorem gQ:gB X (compareOp .NotEq) Hk:=by
 intro pins s σ H x y v u Q I rx ry h
 obtain⟨hs,q⟩:=h
 cases x with
 | non=>
  cases rx
  cases y with
  | non=>cases ry;exact PySem.EqNone.ne_none_none (br I q (by simp))
  | bl j=>cases ry;exact PySem.EqNone.ne_none_bool (br I q (by simp))
  | int j=>obtain⟨t',rfl⟩:=ry;exact PySem.EqNone.ne_none_int (br I q (by simp))
  | str j=>obtain⟨t',rfl⟩:=ry;exact PySem.EqNone.ne_none_str (br I q (by simp))
  | _=>exact absurd (show false=true from hs) Bool.false_ne_true
 | bl i=>
  cases rx
  cases y with
  | non=>cases ry;exact PySem.EqNone.ne_bool_none (br I q (by simp))
  | bl j=>cases ry;exact ne_bool (br I q (congrArg not v7))
  | str j=>obtain⟨t',rfl⟩:=ry;exact PySem.EqMixed.ne_bool_str (br I q (by simp))
  | _=>exact absurd (show false=true from hs) Bool.false_ne_true
 | int i=>
  obtain⟨t,rfl⟩:=rx
  cases y with
  | non=>cases ry;exact PySem.EqNone.ne_int_none (br I q (by simp))
  | int j=>obtain⟨t',rfl⟩:=ry;exact ne_int (br I q (congrArg not qh))
  | str j=>obtain⟨t',rfl⟩:=ry;exact PySem.EqMixed.ne_int_str (br I q (by simp))
  | _=>exact absurd (show false=true from hs) Bool.false_ne_true
 | str i=>
  obtain⟨t,rfl⟩:=rx
  cases y with
  | non=>cases ry;exact PySem.EqNone.ne_str_none (br I q (by simp))
  | bl j=>cases ry;exact PySem.EqMixed.ne_str_bool (br I q (by simp))
  | int j=>obtain⟨t',rfl⟩:=ry;exact PySem.EqMixed.ne_str_int (br I q (by simp))
  | str j=>obtain⟨t',rfl⟩:=ry;exact ne_str (br I q (congrArg not qg))
  | _=>exact absurd (show false=true from hs) Bool.false_ne_true
 | byt i=>
  obtain⟨t,rfl⟩:=rx
  cases y with
  | byt j=>obtain⟨t',rfl⟩:=ry;exact PySem.W.ne_bytes (br I q (congrArg not qi))
  | _=>exact absurd (show false=true from hs) Bool.false_ne_true
 | _=>cases y <;> exact absurd (show false=true from hs) Bool.false_ne_true
theorem kq:gB X (compareOp .Lt) (AJ fun i j=>.bl (decide (i < j))):=Be fun _ _ _ _ _ _ _ q=>lt_int q
theorem pS:gB X (compareOp .Gt) (AJ fun i j=>.bl (decide (j < i))):=Be fun _ _ _ _ _ _ _ q=>gt_int q
theorem Dn:gB X (compareOp .GtE) (AJ fun i j=>.bl (decide (j≤i))):=Be fun _ _ _ _ _ _ _ q=>ge_int q
theorem gl:gB X (compareOp .Is) (fun x y H Q=>y=.non/\Q (.bl (decide (x=.non))) H):=by
 intro pins s σ H x y v u Q I rx ry h
 obtain⟨rfl,q⟩:=h
 cases ry
 refine is_none_gen (br I q ?_)
 cases x <;> first
  | (cases rx;rfl)
  | (obtain⟨t,rfl⟩:=rx;rfl)
theorem pR:gB X (compareOp .IsNot) (fun x y H Q=>y=.non/\Q (.bl (!decide (x=.non))) H):=by
 intro pins s σ H x y v u Q I rx ry h
 obtain⟨rfl,q⟩:=h
 cases ry
 refine isnot_none_gen (br I q ?_)
 cases x <;> first
  | (cases rx;rfl)
  | (obtain⟨t,rfl⟩:=rx;rfl)
def Gk:HO->Bool
 | .lst _=>true
 | .ins _ _ _=>true
 | _=>false
theorem aJ (b:Expr) {op:CmpOp} (h:op≠.In:=by decide) (h2:op≠.NotIn:=by decide):behindInMarks op b=false:=by
 have e1:(op == CmpOp.In)=false:=by cases op <;> first | rfl | exact absurd rfl h
 have e2:(op == CmpOp.NotIn)=false:=by cases op <;> first | rfl | exact absurd rfl h2
 cases b <;> simp [behindInMarks,e1,e2]
theorem xO {op:CmpOp} {r:R2} (ho:gB X (compareOp op) r) (ha:PE X a ta) (hb:PE X b tb) (hm:behindInMarks op b=false):PE X (.Compare a [op] [b] pos) (wN r ta tb):=by
 intro pins s σ H Q I h
 exact wpAny_Compare1 (B4 ha hb I h fun v u s2 x y H2 I2 rx ry q=>ho pins s2 σ H2 x y v u Q I2 rx ry q) hm
def yV (t:TE):TT:=fun σ H Q=>t σ H fun x H'=>∃ k,x=.bl k/\Q k H'
theorem xm {op:CmpOp} {r:R2} (ho:gB X (compareOp op) r) (ha:PE X a ta) (hb:PE X b tb) (hm:behindInMarks op b=false):PT X (.Compare a [op] [b] pos) (yV (wN r ta tb)):=by
 intro pins s σ H Q I h
 refine wpAny_isTrue_Compare1 (bX (ha pins s σ H _ I h) fun v s1 ⟨x,H1,I1,r1,q1⟩=>bX (hb pins s1 σ H1 _ I1 q1) fun u s2 ⟨y,H2,I2,r2,q2⟩=>
  bX (ho pins s2 σ H2 x y v u _ I2 r1 r2 q2) fun c s3 ⟨z,H3,I3,r3,k,e,q3⟩=>?_) hm
 subst e
 cases r3
 exact wpAny_truthy_bool ⟨H3,I3,q3⟩
def EQ (r r':R2) (ta tb tc:TE):TE:=fun σ H Q=>ta σ H fun x H1=>tb σ H1 fun y H2=>r x y H2 fun z H3=>∃ k,z=.bl k∧
 (if k=true then tc σ H3 fun w' H4=>r' y w' H4 Q else Q (.bl false) H3)
def HV (K:PySem.W.Frag) (x:V) (H:Hp) (k:Bool):Prop:=
 match x with
 | .non=>k=false
 | .bl b=>k=b
 | .int i=>k=(i != 0)
 | .str y=>y.length≤sizeLine/\k=((y.length:Int) != 0)
 | .byt y=>y.size≤sizeLine/\k=((y.size:Int) != 0)
 | .ref p=>(∃ xs,aR K H p xs/\k=!xs.isEmpty)∨(∃ xs,bo K H p xs/\k=!xs.isEmpty)∨∃ kvs,H p=some (.dK kvs)/\k=!kvs.isEmpty
 | _=>False
theorem lJ:(sizeLine:Nat) < 2 ^ 63:=by rw [sizeLine_eq];decide
def DZ (b:Expr):Prop:=∀ o i,subscripted b false o i=operate [o,i] (getItem o i)
theorem fz {x:V} {us:List Value} (r:aZ [x] us):∃ u,us=[u]/\aY x u:=by
 cases r with
 | cons r1 r2=>cases r2;exact⟨_,rfl,r1⟩
theorem j7 {x y:V} {us:List Value} (r:aZ [x,y] us):∃ u w',us=[u,w']/\aY x u/\aY y w':=by
 cases r with
 | cons r1 r2=>
  cases r2 with
  | cons r3 r4=>cases r4;exact⟨_,_,rfl,r1,r3⟩
theorem jM:dj X (.builtin "abs") (fun xs H Q=>∃ i,xs=[.int i]/\Q (.int (if i < 0 then -i else i)) H):=by
 intro pins s σ H xs us Q I r h
 obtain⟨i,rfl,q⟩:=h
 obtain⟨u,rfl,t,rfl⟩:=fz r
 exact call_abs_int fun u tk=>⟨.int (if i < 0 then -i else i),H,I.tok _,⟨_,rfl⟩,q⟩
theorem rP (hc:X.calm=true):dj X (.builtin "min") (fun xs H Q=>∃ i j,xs=[.int i,.int j]/\Q (.int (if j < i then j else i)) H):=by
 intro pins s σ H xs us Q I r h
 obtain⟨i,j,rfl,q⟩:=h
 obtain⟨u,w',rfl,⟨t,rfl⟩,⟨t',rfl⟩⟩:=j7 r
 refine min_two_ints (I.ok.hd hc) fun h' tk k=>⟨_,H,I.kept k,?_,q⟩
 by_cases hj:j < i
 ·rw [if_pos hj,if_pos hj];exact⟨_,rfl⟩
 ·rw [if_neg hj,if_neg hj];exact⟨_,rfl⟩
theorem rQ:dj X (.type "int") (fun xs H Q=>(∃ i,xs=[.int i]/\Q (.int i) H)∨∃ k,xs=[.bl k]/\Q (.int (if k then 1 else 0)) H):=by
 intro pins s σ H xs us Q I r h
 rcases h with ⟨i,rfl,q⟩ | ⟨k,rfl,q⟩
 ·obtain⟨u,rfl,t,rfl⟩:=fz r
  exact call_int_int ⟨.int i,H,I,⟨_,rfl⟩,q⟩
 ·obtain⟨u,rfl,r1⟩:=fz r
  cases r1
  exact call_int_bool ⟨.int (if k then 1 else 0),H,I.tok _,⟨_,rfl⟩,q⟩
def Ik (K:PySem.W.Frag) (x:V) (H:Hp) (n:Nat):Prop:=
 match x with
 | .str y=>y.length≤sizeLine/\n=y.length
 | .byt y=>y.size≤sizeLine/\n=y.size
 | .ref p=>(∃ xs,aR K H p xs/\n=xs.length)∨∃ xs,bo K H p xs/\n=xs.length
 | _=>False
end
end L2
namespace L2
open PySem PySem.Spec PyProof.Rows
structure Cf (h:Heap) (x dx C:Addr) (mA:Str->Option Value):Prop where
 obj:h.get? x=some (PySem.W.instObj C dx)
 ns:h.Ns1 dx mA
 ne:dx≠x
theorem ky {h:Heap} {dx:Addr} {mA:Str->Option Value} (n:h.Ns1 dx mA):∃ od,h.get? dx=some od/\∀ name,PySem.W.lookIn name od=some (mA name):=by
 obtain⟨o,es,ep,ho,hd,hk,_,hm⟩:=n
 refine⟨o,ho,fun name=>?_⟩
 have e:=hm name
 unfold nsFind findBy at e
 rw [← Array.find?_toList] at e
 unfold PySem.W.lookIn
 rw [hd]
 dsimp only
 split
 ·rename_i y q
  rw [q] at e
  exact congrArg some e
 ·rename_i q
  rw [q] at e
  have a:es.toList.any (·.refKey)=false:=by
   rw [List.any_eq_false]
   intro y hy
   obtain⟨z,t,hkey⟩:=hk y (Array.mem_toList_iff.mp hy)
   simp [DictEntry.refKey,hkey]
  have a':¬ es.toList.any (·.refKey)=true:=by rw [a];exact Bool.false_ne_true
  rw [if_neg a']
  exact congrArg some e
theorem Cf.look {h:Heap} {x dx C:Addr} {mA:Str->Option Value} (I:Cf h x dx C mA):∃ od,PySem.W.InstAt h x (PySem.W.instObj C dx) C (some od)/\∀ name,PySem.W.lookIn name od=some (mA name):=
 let ⟨od,ho,hl⟩:=ky I.ns
 ⟨od,⟨I.obj,rfl,rfl,ho⟩,hl⟩
section
variable {prog:Program} {w:World} {A:Around} {E:Value->Shared->Prop} {s:Shared} {K:PySem.W.Frag} {x dx C f:Addr} {mA:Str->Option Value} {name:Str} {v:Value}
end
def AQ (f:Str) (v:V):List (Str×V)->List (Str×V)
 | []=>[(f,v)]
 | (g,x) :: r=>if g=f then (g,v) :: r else (g,x) :: AQ f v r
theorem ft.some_of {v:V} {o:Option Value} (r:ft (some v) o):∃ u,o=some u/\aY v u:=by
 cases o with
 | none=>exact (show False from r).elim
 | some u=>exact⟨u,rfl,r⟩
theorem rF {v:V} {u:Value} (r:aY v u):PySem.W.handedIn u=true:=by
 cases v with
 | non=>cases (show u=Value.none from r);rfl
 | bl b=>cases (show u=Value.bool b from r);rfl
 | int i=>obtain⟨t,e⟩:=(show ∃ t,u=Value.int i t from r);cases e;rfl
 | str x=>obtain⟨t,e⟩:=(show ∃ t,u=Value.str x t from r);cases e;rfl
 | byt b=>obtain⟨t,e⟩:=(show ∃ t,u=Value.bytes b t from r);cases e;rfl
 | flt b=>obtain⟨t,e⟩:=(show ∃ t,u=Value.float b t from r);cases e;rfl
 | ref a=>cases (show u=Value.ref a from r);rfl
 | ty n=>cases (show u=Value.type n from r);rfl
section
variable {P:Program} {w:World} {H H':Hp} {h h':Heap} {a C dx:Addr} {fs fs':List (Str×V)}
theorem yl (hok:fP P w H h) (e:H a=some (.ins C dx fs)):∃ mA,Cf h a dx C mA/\(∀ f,ft (fs.lookup f) (mA f))/\PySem.Within mA (fs.map (·.1))/\fs.length≤1000/\H dx=some (.own a):=by
 obtain⟨d,z,ne,ob,mA,n,r,q⟩:=(show ObjOk P w H h a (.ins C dx fs) from hok a _ e)
 exact⟨mA,⟨ob,n,ne⟩,r,q,z,d⟩
end
structure Ci (K:PySem.W.Frag) (C:Addr):Prop where
 pg:PySem.W.plainGet K C Str.empty=true
 hd:PySem.W.hasDictIn K C=true
 po:PySem.W.plainOver K C=true
 sa:PySem.W.findIn K (.ref C) "__setattr__" = some (some (.builtin "object.__setattr__"))
theorem Ci.get {K:PySem.W.Frag} {C:Addr} (c:Ci K C) (f:Str):PySem.W.plainGet K C f=true:=c.pg
def eN (K:PySem.W.Frag) (C:Addr) (f:Str):Prop:=PySem.W.findIn K (.ref C) f=some none
structure Iw (K:PySem.W.Frag) (C:Addr) (f:Str) (v:V) (u:Value):Prop where
 at_:PySem.W.findIn K (.ref C) f=some (some u)
 rel:aY v u
 get:PySem.W.specialIn K u "__get__" = some none
 cp:PySem.W.copiedNames.contains f=false
structure Ij (K:PySem.W.Frag) (C:Addr) (m:Str) (f:Addr):Prop where
 at_:PySem.W.findIn K (.ref C) m=some (some (.ref f))
 fn:PySem.W.isFn K (.ref f)=true
 kp:PySem.W.keepIn K (.ref f)=true
section
variable {X:Cx} {pins:List (Addr×Obj)} {σ:St} {H:Hp} {s:Shared} {a C dx:Addr} {fs:List (Str×V)} {f:Str} {v:V} {A:Around} {E:Value->Shared->Prop}
theorem yH {prog:Program} {w:World} {env:Env} {e:Expr} {f:Str} {pos:Pos} {s:Shared} {Q:Value->Shared->Prop} (hb:attributeBase e f env (eval e env)=eval e env)
  (h:wpAny (model prog w) A (eval e env) (fun o s₁=>wpAny (model prog w) A (getAttr o f true) Q E s₁) E s):wpAny (model prog w) A (eval (.Attribute e f pos) env) Q E s:=
 Attribute_any_ h (by rw [arm_eval_Attribute,hb])
end
def GY (K:PySem.W.Frag) (ta:TE) (f:Str):TE:=fun σ H Q=>ta σ H fun x H1=>∃ a C dx fs v,x=.ref a/\H1 a=some (.ins C dx fs)/\Ci K C/\eN K C f/\fs.lookup f=some v/\Q v H1
def Hb (K:PySem.W.Frag) (ta:TE) (f:Str):TE:=fun σ H Q=>ta σ H fun x H1=>∃ a C dx fs v u,x=.ref a/\H1 a=some (.ins C dx fs)/\Ci K C/\Iw K C f v u/\fs.lookup f=none/\Q v H1
def Hf (K:PySem.W.Frag) (ta tv:TE) (f:Str):TS:=fun D σ H=>tv σ H fun y H1=>ta σ H1 fun x H2=>∃ a C dx fs,x=.ref a/\H2 a=some (.ins C dx fs)/\Ci K C/\eN K C f/\fs.length < 1000∧
 D.nx σ (upd H2 a (.ins C dx (AQ f y fs)))
def Io (X:Cx) (op:Operator) (rd:V->V->Hp->VK->Prop):Prop:=
 ∀ (pins:List (Addr×Obj)) (s:Shared) (σ:St) (H:Hp) (x y:V) (u v:Value) (Q:VK),Inv X pins σ H s->aY x u->aY y v->rd x y H Q->wpAny (model X.prog X.w) X.A (inplaceOp op u v) (EP X pins σ Q) X.xe s
def Ek (K:PySem.W.Frag) (ta tv:TE) (rd:V->V->Hp->VK->Prop) (f:Str):TS:=fun D σ H=>ta σ H fun x H1=>∃ a C dx fs v,x=.ref a/\H1 a=some (.ins C dx fs)/\Ci K C/\eN K C f/\fs.lookup f=some v∧
 tv σ H1 fun y H2=>rd v y H2 fun z H3=>∃ dx' fs',H3 a=some (.ins C dx' fs')/\fs'.length < 1000/\D.nx σ (upd H3 a (.ins C dx' (AQ f z fs')))
section
variable {X:Cx} {o e value:Expr} {f:Str} {pos pos' tpos:Pos} {ta tv:TE}
def Ht:V->V->Hp->VK->Prop:=fun x y H Q=>∃ i j,x=.int i/\y=.int j/\Q (.int (i+j)) H
def Hh:V->V->Hp->VK->Prop:=fun x y H Q=>∃ i j,x=.int i/\y=.int j/\Q (.int (i - j)) H
end
section
variable {X:Cx} {pins:List (Addr×Obj)} {σ:St} {H:Hp} {s:Shared} {A:Around} {E:Value->Shared->Prop} {Q:Value->Shared->Prop} {c:Value} {b:Bool}
inductive iz (K:PySem.W.Frag) (H:Hp):V->Value->Prop where
 | non:iz K H .non (.type "NoneType")
 | bl (x:Bool):iz K H (.bl x) (.type "bool")
 | int (i:Int):iz K H (.int i) (.type "int")
 | str (x:Str):iz K H (.str x) (.type "str")
 | flt (x:UInt64):iz K H (.flt x) (.type "float")
 | lst {a:Addr} {xs:List V} (e:H a=some (.lst xs)):iz K H (.ref a) (.type "list")
 | frz {a:Addr} {o:Obj} {xs:List V} (e:H a=some (.frz o (.lst xs))):iz K H (.ref a) (.type "list")
 | tup {a:Addr} {xs:List V} (e:H a=some (.tup xs)):iz K H (.ref a) (.type "tuple")
 | dK {a:Addr} {kvs:List (cJ×V)} (e:H a=some (.dK kvs)):iz K H (.ref a) (.type "dict")
 | dT {a:Addr} {kvs:List (List cJ×V)} (e:H a=some (.dT kvs)):iz K H (.ref a) (.type "dict")
 | ins {a C dx:Addr} {fs:List (Str×V)} (e:H a=some (.ins C dx fs)) (cl:Ci K C) (ha:PySem.W.findIn K (.ref C) "__class__" = some (some (.builtin "object.__class__")))
   (hn:PySem.W.specialIn K (.builtin "object.__class__") "__get__" = some (some (.builtin "getset_descriptor.__get__"))) (htk:PySem.W.takesIn K (.builtin "object.__class__")=some true)
   (hm:PySem.W.mroIn K C (.type "object")=some true):iz K H (.ref a) (.ref C)
theorem rB {x:V} {u t:Value} (I:Inv X pins σ H s) (rx:aY x u) (ty:iz X.K H x t) (e:PySem.W.kitOne X.K t c=some b) (h:∀ tk,Q (.bool b) { s with toks:=tk }) :
  wpAny (model X.prog X.w) A (call (.builtin "isinstance") [u,c]) Q E s:=by
 cases ty with
 | non=>cases (show u=Value.none from rx);exact PySem.W.kia_one PySem.W.kitx_none I.kIn True.intro e (fun z=>nomatch z) h
 | bl y=>cases (show u=Value.bool y from rx);exact PySem.W.kia_one PySem.W.kitx_bool I.kIn True.intro e (fun z=>nomatch z) h
 | int i=>obtain⟨t,q⟩:=(show ∃ t,u=Value.int i t from rx);cases q;exact PySem.W.kia_one PySem.W.kitx_int I.kIn True.intro e (fun z=>nomatch z) h
 | str y=>obtain⟨t,q⟩:=(show ∃ t,u=Value.str y t from rx);cases q;exact PySem.W.kia_one PySem.W.kitx_str I.kIn True.intro e (fun z=>nomatch z) h
 | flt y=>obtain⟨t,q⟩:=(show ∃ t,u=Value.float y t from rx);cases q;exact PySem.W.kia_one PySem.W.kitx_float I.kIn True.intro e (fun z=>nomatch z) h
 | @lst a xs ea=>
  cases (show u=Value.ref a from rx)
  obtain⟨_,_,n,_,h1⟩:=(show ObjOk X.prog X.w H s.heap a (.lst xs) from I.hok a _ ea)
  exact PySem.W.kia_one PySem.W.kitx_list I.kIn ⟨_,h1,rfl⟩ e (fun z=>nomatch z) h
 | @frz a ob xs ea=>
  cases (show u=Value.ref a from rx)
  obtain⟨_,_,_,n,_,h1⟩:=(show ObjOk X.prog X.w H s.heap a (.frz ob (.lst xs)) from I.hok a _ ea)
  exact PySem.W.kia_one PySem.W.kitx_list I.kIn ⟨_,h1,rfl⟩ e (fun z=>nomatch z) h
 | @tup a xs ea=>
  cases (show u=Value.ref a from rx)
  obtain⟨_,_,_,p⟩:=(show ObjOk X.prog X.w H s.heap a (.tup xs) from I.hok a _ ea)
  obtain⟨o,h1,h2,_⟩:=p
  exact PySem.W.kia_one PySem.W.kitx_tuple I.kIn ⟨o,h1,h2⟩ e (fun z=>nomatch z) h
 | @dK a kvs ea=>
  cases (show u=Value.ref a from rx)
  obtain⟨_,_,vs,_,p⟩:=(show ObjOk X.prog X.w H s.heap a (.dK kvs) from I.hok a _ ea)
  obtain⟨o,es,ep,h1,h2,_⟩:=p
  exact PySem.W.kia_one PySem.W.kitx_dict I.kIn ⟨o,h1,h2.1⟩ e (fun z=>nomatch z) h
 | @dT a kvs ea=>
  cases (show u=Value.ref a from rx)
  obtain⟨_,_,xs,_,o,es,ep,h1,h2,_⟩:=(show ObjOk X.prog X.w H s.heap a (.dT kvs) from I.hok a _ ea)
  exact PySem.W.kia_one PySem.W.kitx_dict I.kIn ⟨o,h1,h2.1⟩ e (fun z=>nomatch z) h
 | @ins a C dx fs ea cl ha hn htk hm=>
  cases (show u=Value.ref a from rx)
  obtain⟨mA,O,_⟩:=yl I.hok ea
  obtain⟨od,J,_⟩:=O.look
  exact PySem.W.kia_one (PySem.W.kitx_own (cl.get _) cl.hd ha hn htk hm) I.kIn J e (fun z=>nomatch z) h
end
end L2
namespace L2
open PySem PySem.Spec PyProof.Rows
structure cu (k:Nat) (A:Around):Prop where
 hd:A.handled=none
 dp:A.depth+3 * k+5 < recursionLimit
 un:A.units+16 * k+200 < cLine
 gd:A.guards=some []
theorem cu.mono {j k:Nat} {A:Around} (r:cu k A) (h:j≤k):cu j A:=⟨r.hd,by have:=r.dp;omega,by have:=r.un;omega,r.gd⟩
theorem cu.deeper {k:Nat} {A:Around} (r:cu (k+1) A) (env:Env):cu k (A.deeper env):=
 ⟨r.hd,by have:=r.dp;show A.depth+1+3 * k+5 < _;omega,by have:=r.un;show A.units+3+16 * k+200 < _;omega,r.gd⟩
theorem cu.in1 {k:Nat} {A:Around} (r:cu (k+1) A):cu k A.in1:=
 ⟨r.hd,by have:=r.dp;show A.depth+3 * k+5 < _;omega,by have:=r.un;show A.units+1+16 * k+200 < _;omega,r.gd⟩
theorem oJ {A:Around} {C:Addr} {us:List Value} {kw:List (Str×Value)}:(A.under (.builtin "type.__call__" ⟨.ref C :: us,kw⟩)).depth=A.depth+1:=by
 first | rfl | simp [Around.under,Code.weight,Code.isCreation,Code.isGuard,Code.isCaller,Code.frames,Code.isFrame,guardIds]
theorem oI {A:Around} {C:Addr} {us:List Value} {kw:List (Str×Value)}:(A.under (.builtin "type.__call__" ⟨.ref C :: us,kw⟩)).units=A.units+1:=by
 first | rfl | simp [Around.under,Code.cUnits,Code.frames,Code.isFrame]
theorem m4 {A:Around} {C:Addr} {us:List Value} {kw:List (Str×Value)}:(A.under (.builtin "type.__call__" ⟨.ref C :: us,kw⟩)).guards=A.guards:=by
 first | rfl | simp [Around.under,Code.guards,Code.isGuard,guardIds,pushGuards]
theorem cu.make {k:Nat} {A:Around} (r:cu (k+1) A) (C:Addr) (us:List Value) (kw:List (Str×Value)):cu k (A.under (.builtin "type.__call__" ⟨.ref C :: us,kw⟩)):=
 ⟨r.hd,by have:=r.dp;rw [oJ];omega,by have:=r.un;rw [oI];omega,by rw [m4];exact r.gd⟩
theorem cu.depth {k:Nat} {A:Around} (r:cu k A):A.depth < recursionLimit:=by have:=r.dp;omega
theorem cu.units {k:Nat} {A:Around} (r:cu k A):A.units+64 < cLine:=by have:=r.un;omega
def zY:TA:=fun _ H Q=>Q [] H
def sE (ta:TE) (tr:TA):TA:=fun σ H Q=>ta σ H fun x H1=>tr σ H1 fun xs H2=>Q (x :: xs) H2
section
variable {X:Cx} {e:Expr} {es:List Expr} {te:TE} {t:TA} {pos:Pos}
theorem u4:PA X [] zY:=fun _ _ _ _ H Q I h=>Calls.spliced_nil ⟨[],H,I,.nil,h⟩
theorem pO (ha:PE X e te) (hr:PA X es t) (hs:starEach (e :: es) X.env=(false,eval e X.env) :: starEach es X.env:=by rfl):PA X (e :: es) (sE te t):=by
 intro pos pins s σ H Q I h
 rw [hs]
 show wpAny _ _ (spliced ((false,eval e X.env) :: backTo pos (starEach es X.env))) _ _ s
 refine Calls.spliced_cons (bX (ha pins s σ H _ I h) fun u s1 ⟨x,H1,I1,r1,q1⟩=>?_)
 exact bX (hr pos pins s1 σ H1 _ I1 q1) fun us s2 ⟨xs,H2,I2,r2,q2⟩=>⟨x :: xs,H2,I2,.cons r1 r2,q2⟩
def CJ (t:TA):TE:=fun σ H Q=>t σ H fun xs H1=>xs.length≤sizeLine/\∀ p,H1 p=none->Q (.ref p) (upd H1 p (.tup xs))
def CN (t:TA):TE:=fun σ H Q=>t σ H fun xs H1=>xs.length≤sizeLine/\∀ p,H1 p=none->Q (.ref p) (upd H1 p (.lst xs))
theorem A3 {x1} (h:PA X es t):PE X (.Tuple es x1 pos) (CJ t):=by
 intro pins s σ H Q I hq
 refine wpAny_Tuple_spliced (bX (h pos pins s σ H _ I hq) fun us s1 ⟨xs,H1,I1,r,z,q⟩=>⟨by rw [← r.length];exact z,?_⟩)
 have hf:H1 s1.heap.objs.size=none:=I1.hok.fresh (Nat.le_refl _)
 refine⟨.ref s1.heap.objs.size,upd H1 s1.heap.objs.size (.tup xs),I1.laid (t':=s1.toks) (fun b u e=>Heap.get?_push_of_some _ e) (Nat.le_refl _) ?_,rfl,q _ hf⟩
 exact⟨z,us,r,⟨_,Heap.get?_push_size _ rfl,rfl,_,rfl⟩⟩
theorem A8 (h:PA X es t):PE X (.List es pos) (CN t):=by
 intro pins s σ H Q I hq
 refine wpAny_List_spliced (bX (h pos pins s σ H _ I hq) fun us s1 ⟨xs,H1,I1,r,z,q⟩=>⟨by rw [← r.length];exact z,?_⟩)
 have hf:H1 s1.heap.objs.size=none:=I1.hok.fresh (Nat.le_refl _)
 refine⟨.ref s1.heap.objs.size,upd H1 s1.heap.objs.size (.lst xs),I1.laid (t':=s1.toks) (fun b u e=>Heap.get?_push_of_some _ e) (Nat.le_refl _) ?_,rfl,q _ hf⟩
 exact⟨z,us,0,r,Heap.get?_push_size _ rfl⟩
end
abbrev Sp:=List V->Hp->VK->XK->Prop
abbrev l5:=List Env->Hp->Shared->XK->Value->Shared->Prop
structure jW (P:Program) (w:World) (K:PySem.W.Frag) (mg:Str->Option Value) (base:Heap) (A:Around) (outer:List Env) (s:Shared) (H:Hp):Prop where
 frames:A.frames=some outer
 mod:Mod K mg base
 bs:∀ b o,base.get? b=some o->s.heap.get? b=some o/\H b=none
 bsz:base.objs.size≤s.heap.objs.size
 funs:s.heap.FunFrames base outer
 frf:∀ b∈iW outer,H b=none
 hok:fP P w H s.heap
 bare:AllBare s.gens
def CE (outer:List Env) (P:Program) (w:World) (H:Hp) (s:Shared) (Q:VK) (u:Value) (s':Shared):Prop:=
 ∃ v H',s'.os=s.os/\AllBare s'.gens/\Un (iW outer) [] H H' s.heap s'.heap/\fP P w H' s'.heap/\aY v u/\Q v H'
def CR (CX:l5) (outer:List Env) (P:Program) (w:World) (H:Hp) (s:Shared) (Q:VK) (E:XK) (r:Result) (s':Shared):Prop:=
 match r with
 | .ok (.ret u)=>CE outer P w H s Q u s'
 | .ok _=>False
 | .error e=>CX outer H s E e s'
structure bB (P:Program) (w:World) (K:PySem.W.Frag) (mg:Str->Option Value) (base:Heap) (CX:l5) (k:Nat) (f:Addr) (fd:FuncData) (ps:List Str) (sp:Sp):Prop where
 len:∀ vs H Q E,sp vs H Q E->vs.length=ps.length
 run:∀ (A:Around) (outer:List Env) (s:Shared) (H:Hp) (args:Args) (us:List Value) (vs:List V) (Q:VK) (E:XK),cu k A->jW P w K mg base A outer s H->BindsTo s fd args (ps.zip us)->aZ vs us->sp vs H Q E→
  codeAny (model P w) A (.call (.ref f) args) (CR CX outer P w H s Q E) s
theorem jW.make {P:Program} {w:World} {K:PySem.W.Frag} {mg:Str->Option Value} {base:Heap} {A:Around} {outer:List Env} {s:Shared} {H:Hp} (e:jW P w K mg base A outer s H) (C:Addr) (us:List Value) (kw:List (Str×Value)) :
  jW P w K mg base (A.under (.builtin "type.__call__" ⟨.ref C :: us,kw⟩)) outer s H:=⟨by first | exact e.frames | (simpa [Around.under,Code.envs,Code.isFrame,pushEnvs] using e.frames),e.mod,e.bs,e.bsz,e.funs,e.frf,e.hok,e.bare⟩
section
variable {X:Cx} {pins:List (Addr×Obj)} {σ:St} {H:Hp} {s s':Shared}
theorem Inv.env0 (I:Inv X pins σ H s):jW X.prog X.w X.K X.mg X.base X.A X.stack s H:=
 ⟨I.ok.frames,I.ok.mod,I.bs,Nat.le_trans I.ok.bsz I.sz,I.stack,I.stkFree,I.hok,I.bare⟩
theorem Inv.after {Q:VK} {u:Value} (I:Inv X pins σ H s) (h:CE X.stack X.prog X.w H s Q u s'):EP X pins σ Q u s':=by
 obtain⟨v,H',os,bare,un,hok,r,q⟩:=h
 obtain⟨hh,g,d,t,os'⟩:=s'
 obtain rfl:os'=s.os:=os
 exact⟨v,H',I.call (h':=hh) (g':=g) (d':=d) (t':=t) (ch:=[]) un hok bare (fun b z=>absurd z (by simp)),r,q⟩
end
def ml (sp:Sp) (dvs:List V) (E:XK) (t:TA):TE:=fun σ H Q=>t σ H fun vs H1=>sp (vs++dvs) H1 Q E
def FN (C:Addr) (m:Str) (sp:Sp) (dvs:List V) (E:XK) (ta:TE) (t:TA):TE:=fun σ H Q=>ta σ H fun x H1=>∃ a dx fs,x=.ref a/\H1 a=some (.ins C dx fs)/\fs.lookup m=none∧
 t σ H1 fun vs H2=>sp (x :: (vs++dvs)) H2 Q E
def FO (C:Addr) (sp:Sp) (dvs:List V) (E:XK) (t:TA):TE:=fun σ H Q=>t σ H fun vs H1=>∀ x dx,H1 x=none->H1 dx=none->dx≠x→
 sp (.ref x :: (vs++dvs)) (upd (upd H1 dx (.own x)) x (.ins C dx [])) (fun v H2=>v=.non/\Q (.ref x) H2) E
def aP (K:PySem.W.Frag) (fd:FuncData) (ps:List Str) (ds:List Value):Prop:=
 ∀ (s:Shared) (us:List Value),K.In s.heap->(us++ds).length=ps.length->BindsTo s fd ⟨us,[]⟩ (ps.zip (us++ds))
theorem aP.all {K:PySem.W.Frag} {fd:FuncData} {ps:List Str} (h:∀ us:List Value,us.length=ps.length->bindArgs fd ⟨us,[]⟩=pure (ps.zip us)):aP K fd ps []:=fun s us _ hl=>by
 rw [List.append_nil] at hl ⊢
 exact .of_eq (h us hl)
def eM (CX:l5) (X:Cx) (E:XK):Prop:=∀ (pins:List (Addr×Obj)) (σ:St) (H:Hp) (s:Shared) (e:Value) (s':Shared),Inv X pins σ H s->CX X.stack H s E e s'->X.xe e s'
section
variable {X:Cx} {CX:l5} {k:Nat} {f C:Addr} {fd:FuncData} {ps:List Str} {sp:Sp} {dvs:List V} {ds:List Value} {E:XK} {x m:Str} {p pos apos:Pos} {e o:Expr} {es:List Expr} {ta:TE} {t:TA}
theorem AD {pins:List (Addr×Obj)} {σ:St} {H:Hp} {s:Shared} {Q:VK} {us:List Value} {vs:List V} (F:bB X.prog X.w X.K X.mg X.base CX k f fd ps sp) (hr:cu k X.A) (hb:aP X.K fd ps ds) (hd:aZ dvs ds) (hx:eM CX X E)
  (I:Inv X pins σ H s) (r:aZ vs us) (h:sp (vs++dvs) H Q E):wpAny (model X.prog X.w) X.A (call (.ref f) us) (EP X pins σ Q) X.xe s:=by
 have r2:aZ (vs++dvs) (us++ds):=r.append hd
 have hl:(us++ds).length=ps.length:=by rw [← r2.length];exact F.len _ _ _ _ h
 refine wpAny_call (codeAny_mono (F.run X.A X.stack s H ⟨us,[]⟩ (us++ds) (vs++dvs) Q E hr I.env0 (hb s us I.kIn hl) r2 h) fun r s' hq=>?_)
 cases r with
 | error e=>exact hx pins σ H s e s' I hq
 | ok fl=>
  cases fl with
  | ret u=>exact I.after hq
  | next=>exact False.elim hq
  | brk=>exact False.elim hq
  | cont=>exact False.elim hq
theorem xP (F:bB X.prog X.w X.K X.mg X.base CX k f fd ps sp) (hr:cu k X.A) (hg:Gl X x) (hm:X.mg x=some (.ref f)) (hk:PySem.W.keepIn X.K (.ref f)=true) (hb:aP X.K fd ps ds) (hd:aZ dvs ds) (hx:eM CX X E)
  (ha:PA X (e :: es) t) (hdb:(x == ("__debug__" : Str))=false:=by decide) (he:starEach (e :: es) X.env=(false,eval e X.env) :: starEach es X.env:=by rfl) (hpl:(backTo pos (starEach es X.env)).any (·.1)=false:=by rfl) :
  PE X (.Call (.Name x p) (e :: es) [] pos) (ml sp dvs E t):=by
 intro pins s σ H Q I h
 refine wpAny_Call_Name_kw (gT I hg hm ?_ hdb)
 refine PySem.W.callWith_K (h₀:=X.base) I.ok.mod.kin hk (bX (ha pos pins s σ H _ I h) fun us s1 ⟨vs,H1,I1,r,q⟩=>⟨I1.kIn,?_⟩) he hpl
 exact AD F hr hb hd hx I1 r q
structure Mk (K:PySem.W.Frag) (C f:Addr):Prop where
 makes:PySem.W.makesIn K C=true
 init:PySem.W.findIn K (.ref C) "__init__" = some (some (.ref f))
 fn:PySem.W.isFn K (.ref f)=true
 kp:PySem.W.keepIn K (.ref C)=true
end
def PK (X:Cx) (kws:List Keyword) (t:TA):Prop:=
 ∀ (pos:Pos) (pins:List (Addr×Obj)) (s:Shared) (σ:St) (H:Hp) (Q:List V->Hp->Prop),Inv X pins σ H s->t σ H Q->wpAny (model X.prog X.w) X.A (evalAll ((backToKw pos (keywordEach kws X.env)).map (·.2))) (AP X pins σ Q) X.xe s
section
variable {X:Cx} {CX:l5} {k:Nat} {f C:Addr} {fd:FuncData} {ps ks:List Str} {sp:Sp} {E:XK} {x m:Str} {p pos apos kpos:Pos} {e o:Expr} {es:List Expr} {kws:List Keyword} {te ta:TE} {t tk:TA} {nm:Option Str}
structure Fq (K:PySem.W.Frag) (fd:FuncData) (ps ks:List Str) (g:List Value->List Value->List Value) (gV:List V->List V->List V):Prop where
 to:∀ (s:Shared) (us ws:List Value),K.In s.heap->(g us ws).length=ps.length->BindsTo s fd ⟨us,ks.zip ws⟩ (ps.zip (g us ws))
 rel:∀ {vs:List V} {us:List Value} {zs:List V} {ws:List Value},aZ vs us->aZ zs ws->aZ (gV vs zs) (g us ws)
def ER (sp:Sp) (gV:List V->List V->List V) (E:XK) (t tk:TA):TE:=fun σ H Q=>t σ H fun vs H1=>tk σ H1 fun zs H2=>sp (gV vs zs) H2 Q E
variable {g:List Value->List Value->List Value} {gV:List V->List V->List V}
end
structure aH (N P:List Str) (sc:Scope):Prop where
 kind:sc.kind=.function
 co:sc.isCoroutine=false
 gen:sc.isGenerator=false
 nd:N.Nodup
 pre:N.take P.length=P
 par:∀ x∈P,sc.names.lookup x=some .local∨sc.names.lookup x=some .cell
 nofree:∀ y∈sc.names,y.2≠.free
theorem kJ {kindOf:Str->Option NameKind} {x:Str}:∀ {binds:List (Str×Value)} {m:Str->Option Value},(∀ v,(x,v)∉binds)->bindL kindOf binds m x=m x
 | [],_,_=>rfl
 | (n,v) :: r,m,h=>by
  unfold bindL
  rw [kJ fun w hw=>h w (List.mem_cons_of_mem _ hw)]
  split
  ·have:x≠n:=by rintro rfl;exact h v List.mem_cons_self
   simp [this]
  ·rfl
theorem kL {kindOf:Str->Option NameKind} {x:Str}:∀ {binds:List (Str×Value)} {m:Str->Option Value},(∀ v,(x,v)∉binds)->bindC kindOf binds m x=m x
 | [],_,_=>rfl
 | (n,v) :: r,m,h=>by
  unfold bindC
  rw [kL fun w hw=>h w (List.mem_cons_of_mem _ hw)]
  split
  ·rfl
  ·have:x≠n:=by rintro rfl;exact h v List.mem_cons_self
   simp [this]
theorem kK {kindOf:Str->Option NameKind} {x:Str} {v:Value}:∀ {P:List Str} {vs:List Value} {i:Nat} {m:Str->Option Value},P.Nodup->P[i]?=some x->vs[i]?=some v->kindOf x=some .local→
  bindL kindOf (P.zip vs) m x=some v
 | [],_,_,_,_,h,_,_=>by simp at h
 | _ :: _,[],_,_,_,_,h,_=>by simp at h
 | p :: P,w :: vs,0,m,nd,h1,h2,hk=>by
  simp at h1 h2;subst h1;subst h2
  show bindL kindOf ((p,w) :: P.zip vs) m p=_
  unfold bindL
  rw [kJ fun v hv=>(List.nodup_cons.mp nd).1 (List.of_mem_zip hv).1,if_pos hk]
  simp
 | p :: P,w :: vs,i+1,m,nd,h1,h2,hk=>by
  show bindL kindOf ((p,w) :: P.zip vs) m x=_
  unfold bindL
  exact kK (i:=i) (List.nodup_cons.mp nd).2 (by simpa using h1) (by simpa using h2) hk
theorem kM {kindOf:Str->Option NameKind} {x:Str} {v:Value}:∀ {P:List Str} {vs:List Value} {i:Nat} {m:Str->Option Value},P.Nodup->P[i]?=some x->vs[i]?=some v->kindOf x≠some .local→
  bindC kindOf (P.zip vs) m x=some v
 | [],_,_,_,_,h,_,_=>by simp at h
 | _ :: _,[],_,_,_,_,h,_=>by simp at h
 | p :: P,w :: vs,0,m,nd,h1,h2,hk=>by
  simp at h1 h2;subst h1;subst h2
  show bindC kindOf ((p,w) :: P.zip vs) m p=_
  unfold bindC
  rw [kL fun v hv=>(List.nodup_cons.mp nd).1 (List.of_mem_zip hv).1,if_neg hk]
  simp
 | p :: P,w :: vs,i+1,m,nd,h1,h2,hk=>by
  show bindC kindOf ((p,w) :: P.zip vs) m x=_
  unfold bindC
  exact kM (i:=i) (List.nodup_cons.mp nd).2 (by simpa using h1) (by simpa using h2) hk
def d6 (N:List Str) (vs:List V):St:=vs.map some++List.replicate (N.length - vs.length) none
def bw (CX:l5) (P:Program) (w:World) (K:PySem.W.Frag) (mg:Str->Option Value) (base:Heap) (N:List Str) (qual:Str) (scope:Scope) (f:Addr) (cd:Value) (A:Around) (outer:List Env) (s:Shared) (H:Hp) (E:XK):Cx where
 prog:=P
 w:=w
 K:=K
 mg:=mg
 base:=base
 A:=A.deeper (envOfC qual scope s.heap.objs.size f cd)
 N:=N
 s₀:=s
 H₀:=H
 env:=envOfC qual scope s.heap.objs.size f cd
 outer:=outer
 stack:=envOfC qual scope s.heap.objs.size f cd :: outer
 ex:=[]
 calm:=true
 fn:=fun _=>true
 pn:=[]
 xe:=fun e s'=>wpAny (model P w) (A.deeper (envOfC qual scope s.heap.objs.size f cd)) (leaving (envOfC qual scope s.heap.objs.size f cd) e) (fun _ s''=>CX outer H s E e s'') (fun e' s''=>CX outer H s E e' s'') s'
theorem nE {sc:Scope} {n:Nat} {x:Str} (h:sc.names.lookup x=some .cell):∃ c,(cellsFrom n sc.names []).lookup x=some c:=by
 have q:=PySem.W.cellsFrom_some sc.names n [] (.inl h)
 exact Option.isSome_iff_exists.mp q
theorem kC {CX:l5} {P:Program} {w:World} {K:PySem.W.Frag} {mg:Str->Option Value} {base:Heap} {N ps:List Str} {qual:Str} {scope:Scope} {f:Addr} {cd:Value} {A:Around} {outer:List Env} {s s1:Shared} {H:Hp} {E:XK} {us:List Value} {vs:List V}
  (S:aH N ps scope) (hd:A.handled=none) (e0:jW P w K mg base A outer s H) (hl:vs.length=ps.length) (r:aZ vs us)
  (x:InCallC s s.heap.objs.size (bindL (envOfC qual scope s.heap.objs.size f cd).kindOf (ps.zip us) fun _=>none) (cellsFrom (s.heap.objs.size+1) scope.names []) (bindC (envOfC qual scope s.heap.objs.size f cd).kindOf (ps.zip us) fun _=>none) s1) :
  Inv (bw CX P w K mg base N qual scope f cd A outer s H E) [] (d6 N vs) H s1:=by
 have hpl:ps.length≤N.length:=by have:=congrArg List.length S.pre;rw [List.length_take] at this;omega
 obtain⟨h1,tk,rfl,hk⟩:=x.done
 have noA:∀ b:Addr,b∉(bw CX P w K mg base N qual scope f cd A outer s H E).ex:=fun b z=>absurd (show b∈([]:List Addr) from z) (by simp)
 refine⟨⟨e0.mod,S.kind,rfl,rfl,Nat.le_refl _,fun y z c h1 h2=>?_,fun y hy=>?_,fun y c _ h=>?_,fun _=>hd,Around.frames_deeper e0.frames,.inr ⟨rfl,rfl⟩,fun b z=>absurd z (noA b),e0.bs,e0.bsz,fun b _ _=>noA b,fun b z=>absurd z (noA b),e0.funs,e0.frf⟩,
  rfl,e0.bare,Un.kept hk,⟨_,x.toInCall.ns,fun i y v h1 h2 h3=>?_⟩,fun y c h=>⟨_,x.cell y c h⟩,e0.hok.fresh (Nat.le_refl _),fun y c h=>?_,fun p hp=>absurd (show p∈([]:List (Addr×Obj)) from hp) (by simp),e0.hok.kept hk,?_⟩
 ·exact name_of_addr x.apart (PySem.mem_of_lookup h1) (PySem.mem_of_lookup h2)
 ·have hy:scope.names.lookup y=some .cell∨scope.names.lookup y=some .free:=hy
  rcases hy with hy | hy
  ·exact nE hy
  ·exact absurd rfl (S.nofree _ (PySem.mem_of_lookup hy))
 ·exact Nat.le_of_lt (x.above y c (PySem.mem_of_lookup h))
 ·have hi:i < vs.length:=by
   unfold d6 at h2
   by_cases hi:i < vs.length
   ·exact hi
   ·rw [List.getElem?_append_right (by simpa using hi)] at h2
    rw [List.getElem?_replicate] at h2
    split at h2 <;> cases h2
  have ha:vs[i]?=some v:=by
   unfold d6 at h2
   rw [List.getElem?_append_left (by simpa using hi),List.getElem?_map] at h2
   cases e:vs[i]? with
   | none=>rw [e] at h2;cases h2
   | some a=>rw [e] at h2;cases h2;rfl
  obtain⟨u,hu,rv⟩:=r.get ha
  have hp:ps[i]?=some y:=by
   rw [← S.pre,List.getElem?_take_of_lt (by omega)];exact h1
  have ndP:ps.Nodup:=by rw [← S.pre];exact S.nd.sublist (List.take_sublist _ _)
  refine⟨u,rv,?_⟩
  rcases S.par y (List.mem_of_getElem? hp) with k | k
  ·exact .inl ⟨k,kK ndP hp hu k⟩
  ·obtain⟨c,e⟩:=nE (n:=s.heap.objs.size+1) k
   refine .inr ⟨.inl k,c,e,?_⟩
   have q:=x.cell y c e
   rw [kM ndP hp hu (by show scope.names.lookup y≠_;rw [k];decide)] at q
   exact q
 ·exact e0.hok.fresh (Nat.le_of_lt (x.above y c (PySem.mem_of_lookup h)))
 ·unfold d6
  show _=N.length
  rw [List.length_append,List.length_map,List.length_replicate]
  omega
theorem vV {CX:l5} {P:Program} {w:World} {K:PySem.W.Frag} {mg:Str->Option Value} {base:Heap} {k:Nat} {f:Addr} {name qual:Str} {params:Arguments} {body:List Stmt} {scope:Scope} {dV kV doc pm cdv ct oc:Value} {an od:Option Addr}
  {osl:Array (Option Value)} {N ps:List Str} {sp:Sp} (lk:K.lookup f=some ⟨oc,od,.func (PySem.W.fnOf name qual params body scope dV kV doc pm an cdv ct),osl⟩) (hcd:PySem.W.codeIn K cdv qual=true) (S:aH N ps scope)
  (len:∀ vs H Q E,sp vs H Q E->vs.length=ps.length)
  (hbody:∀ (A:Around) (outer:List Env) (s:Shared) (H:Hp) (vs:List V) (Q:VK) (E:XK),cu k (A.deeper (envOfC qual scope s.heap.objs.size f cdv))->sp vs H Q E→
   ∃ t,jV (bw CX P w K mg base N qual scope f cdv A outer s H E) body t/\t { nx:=fun _ H'=>Q .non H',rt:=Q } (d6 N vs) H) :
  bB P w K mg base CX (k+1) f (PySem.W.fnOf name qual params body scope dV kV doc pm an cdv ct) ps sp:=by
 refine⟨len,fun A outer s H args us vs Q E hr e0 hb r hsp=>?_⟩
 have hl:=len _ _ _ _ hsp
 have KX:K.In s.heap:=e0.mod.kin.keeps fun b o e=>(e0.bs b o e).1
 have lim:s.heap.NoLimit:=e0.mod.nolimit.keeps fun b o e=>(e0.bs b o e).1
 have hkind:∀ y∈ps.zip us,scope.names.lookup y.1=some .local∨(scope.names.lookup y.1=some .cell/\((cellsFrom (s.heap.objs.size+1) scope.names []).lookup y.1).isSome=true):=fun⟨n,v⟩ hy=>by
  rcases S.par n (List.of_mem_zip hy).1 with q | q
  ·exact .inl q
  ·exact .inr ⟨q,PySem.W.cellsFrom_some _ _ _ (.inl q)⟩
 refine codeAny_call_function hr.depth (KX _ _ lk) rfl S.co S.gen rfl (PySem.W.codeRec_of KX hcd) (hb _ _ _ _ ?_)
 refine wpAny_newFunctionEnv_cells S.kind hkind fun env he s1 x=>?_
 subst he
 refine⟨lim.keeps x.toInCall.keep,codeAny_func ?_⟩
 obtain⟨t,ht,hq⟩:=hbody A outer s H vs Q E (hr.deeper _) hsp
 have I:Inv (bw CX P w K mg base N qual scope f cdv A outer s H E) [] (d6 N vs) H s1:=kC S hr.hd e0 hl r x
 refine wpAny_mono (ht [] s1 (d6 N vs) H _ I hq) (fun fl s' hs=>?_) fun e s' hs=>hs
 have fin:∀ {σ':St} {H':Hp} {v:V} {u:Value},Inv (bw CX P w K mg base N qual scope f cdv A outer s H E) [] σ' H' s'->aY v u->Q v H'->CE outer P w H s Q u s':=
  fun {σ' H' v u} J rv q=>⟨v,H',J.os,J.bare,J.base,J.hok,rv,q⟩
 cases fl with
 | ret u=>
  obtain⟨v,σ',H',J,rv,q⟩:=hs
  exact fin J rv q
 | next=>
  obtain⟨σ',H',J,q⟩:=hs
  exact fin (v:=V.non) (u:=Value.none) J rfl q
 | brk=>
  obtain⟨_,_,_,q⟩:=hs
  exact False.elim q
 | cont=>
  obtain⟨_,_,_,q⟩:=hs
  exact False.elim q
end L2
namespace L2
open PySem PySem.Spec PyProof.Rows
section
variable {X:Cx} {x:Str} {p pos:Pos} {e:Expr} {es:List Expr} {t:TA} {id T:String} {r:List V->Hp->VK->Prop}
def Ee (r:List V->Hp->VK->Prop) (t:TA):TE:=fun σ H Q=>t σ H fun vs H1=>r vs H1 Q
theorem uZ (hc:dj X (.builtin id) r) (hg:Gl X x) (hm:X.mg x=none) (hv:bootBuiltins x=some (.builtin id)) (ha:PA X (e :: es) t) (hn:x ≠ "__name__" := by decide) (hdb:(x == ("__debug__" : Str))=false:=by decide)
  (he:starEach (e :: es) X.env=(false,eval e X.env) :: starEach es X.env:=by rfl) (hpl:(backTo pos (starEach es X.env)).any (·.1)=false:=by rfl):PE X (.Call (.Name x p) (e :: es) [] pos) (Ee r t):=by
 intro pins s σ H Q I h
 refine wpAny_Call_Name_kw (fF I hg hm hv ?_ hn hdb)
 exact PyProof.Rows.callWith_builtin1 (bX (ha pos pins s σ H _ I h) fun us s1 ⟨vs,H1,I1,r1,q1⟩=>hc pins s1 σ H1 vs us Q I1 r1 q1) he hpl
theorem qW (hc:dj X (.type T) r) (hg:Gl X x) (hm:X.mg x=none) (hv:bootBuiltins x=some (.type T)) (ha:PA X (e :: es) t) (hn:x ≠ "__name__" := by decide) (hdb:(x == ("__debug__" : Str))=false:=by decide)
  (he:starEach (e :: es) X.env=(false,eval e X.env) :: starEach es X.env:=by rfl) (hpl:(backTo pos (starEach es X.env)).any (·.1)=false:=by rfl):PE X (.Call (.Name x p) (e :: es) [] pos) (Ee r t):=by
 intro pins s σ H Q I h
 refine wpAny_Call_Name_kw (fF I hg hm hv ?_ hn hdb)
 exact PyProof.Rows.callWith_type1 (bX (ha pos pins s σ H _ I h) fun us s1 ⟨vs,H1,I1,r1,q1⟩=>hc pins s1 σ H1 vs us Q I1 r1 q1) he hpl
end
end L2
namespace HT
open PySem PyProof.Rows
def lexLt:List Int->List Int->Bool
 | [],[]=>false
 | [],_ :: _=>true
 | _ :: _,[]=>false
 | x :: xs,y :: ys=>if x=y then lexLt xs ys else decide (x < y)
section
open PySem.SeqAt
open PySem.AutoSeq1 (wpAny_loadPart')
open PySem.MeetsSeq PySem.MeetsSeq2 PySem.MeetsSeq3
end
section
variable {prog:Program} {w:World} {A:Around} {E:Value->Shared->Prop} {s:Shared}
def sIx (n d:Nat):Option Int->Nat
 | none=>d
 | some v=>if v < 0 then (v+(n:Int)).toNat else min v.toNat n
theorem sIx_none (n d:Nat):sIx n d none=d:=rfl
theorem sIx_nat (n d k:Nat):sIx n d (some (k:Int))=min k n:=by
 show (if (k:Int) < 0 then ((k:Int)+(n:Int)).toNat else min (k:Int).toNat n)=min k n
 rw [if_neg (by omega),Int.toNat_natCast]
theorem AC (n d:Nat) (hd:d≤n) (o:Option Int):sIx n d o≤n:=by
 cases o with
 | none=>exact hd
 | some v=>
  show (if v < 0 then (v+(n:Int)).toNat else min v.toNat n)≤n
  by_cases hv:v < 0
  ·rw [if_pos hv];omega
  ·rw [if_neg hv];exact Nat.min_le_right _ _
theorem ql (v:Int) (n d:Nat):(if v < 0 then max (v+(n:Int)) 0 else min v (n:Int))=((sIx n d (some v):Nat):Int):=by
 show (if v < 0 then max (v+(n:Int)) 0 else min v (n:Int))=(((if v < 0 then (v+(n:Int)).toNat else min v.toNat n):Nat):Int)
 by_cases hv:v < 0
 ·simp only [if_pos hv];omega
 ·simp only [if_neg hv];omega
theorem o1 (lo hi:Option Int) (n:Nat):Builtin.Slice.sliceAdjust lo hi 1 (n:Int)=(((sIx n 0 lo:Nat):Int),((sIx n n hi:Nat):Int)):=by
 have h1:¬ ((1:Int) < 0):=by omega
 unfold Builtin.Slice.sliceAdjust
 simp only [h1,if_false]
 refine Prod.ext ?_ ?_
 ·cases lo with
  | none=>rfl
  | some v=>exact ql v n 0
 ·cases hi with
  | none=>rfl
  | some v=>exact ql v n n
theorem oy (i j:Nat):Builtin.Slice.slicePlaces (i:Int) (j:Int) 1=j - i:=by
 unfold Builtin.Slice.slicePlaces
 have h1:(1:Int) > 0:=by omega
 simp only [h1,if_true,Int.ediv_one]
 split <;> omega
theorem ji {v:Value} {o:Option Int} {Q:Option Int->Shared->Prop} (p:IsPart v o) (h:Q o s):wpAny (model prog w) A (Builtin.Slice.slicePartIndex v) Q E s:=by
 cases p with
 | none=>exact slicePart_none h
 | int i t=>exact slicePart_int h
theorem eP {sl:Addr} {vl vu:Value} {lo hi:Option Int} {n:Nat} {Q:Int×Int×Nat->Shared->Prop} (hs:s.heap.IsSliceOf sl vl vu .none) (pl:IsPart vl lo) (pu:IsPart vu hi)
  (h:Q (((sIx n 0 lo:Nat):Int),1,sIx n n hi - sIx n 0 lo) s):wpAny (model prog w) A (Builtin.Slice.sliceApplied (.ref sl) (pure (n:Int))) Q E s:=by
 obtain⟨os,hos,hcs,hds⟩:=id hs
 unfold Builtin.Slice.sliceApplied Builtin.Slice.sliceFields
 refine wpAny_bind (wpAny_bind (wpAny_field hos hds (x:=vl) rfl (wpAny_bind (wpAny_field hos hds (x:=vu) rfl (wpAny_bind (wpAny_field hos hds (x:=.none) rfl (wpAny_pure ?_)))))))
 refine wpAny_bind (slicePart_none ?_)
 show wpAny _ _ (if ((1:Int) == 0)=true then _ else _) _ _ s
 rw [if_neg (by decide)]
 refine wpAny_bind (ji pl (wpAny_bind (ji pu (wpAny_bind (wpAny_pure ?_)))))
 show wpAny _ _ (match Builtin.Slice.sliceAdjust lo hi 1 (n:Int) with | (lo,hi)=>pure (lo,(1:Int),Builtin.Slice.slicePlaces lo hi 1)) _ _ s
 rw [o1 lo hi n]
 show wpAny _ _ (pure (((sIx n 0 lo:Nat):Int),(1:Int),Builtin.Slice.slicePlaces ((sIx n 0 lo:Nat):Int) ((sIx n n hi:Nat):Int) 1)) _ _ s
 rw [oy]
 exact wpAny_pure h
theorem uN (xs:Array Value) (i k:Nat):((List.range k).filterMap fun (m:Nat)=>xs[((i:Int)+(m:Int) * 1).toNat]?).toArray=((xs.toList.drop i).take k).toArray:=by
 have e:(fun (m:Nat)=>xs[((i:Int)+(m:Int) * 1).toNat]?)=fun m=>xs[i+m]?:=by
  funext m
  have:((i:Int)+(m:Int) * 1).toNat=i+m:=by omega
  rw [this]
 rw [e]
 have:=pick_run xs i k
 rw [List.filterMap_map] at this
 have e2:((fun x=>xs[x]?) ∘ fun x=>i+x)=fun m=>xs[i+m]?:=rfl
 rw [e2] at this
 rw [this]
theorem getItem_tuple_cut {t sl:Addr} {items:Array Value} {vl vu:Value} {lo hi:Option Int} {Q:Value->Shared->Prop} (ht:IsTup s.heap t items) (hs:s.heap.IsSliceOf sl vl vu .none) (pl:IsPart vl lo) (pu:IsPart vu hi)
  (hw:¬ (sIx items.size 0 lo=0/\sIx items.size items.size hi=items.size))
  (h:Q (.ref s.heap.objs.size) { s with heap:=s.heap.push { cls:=.type "tuple", data:=.seq ((items.toList.drop (sIx items.size 0 lo)).take (sIx items.size items.size hi - sIx items.size 0 lo)).toArray } })
  (hsz:items.size≤sizeLine):wpAny (model prog w) A (getItem (.ref t) (.ref sl)) Q E s:=by
 have htake:sizeOk (.seq ((items.toList.drop (sIx items.size 0 lo)).take (sIx items.size items.size hi - sIx items.size 0 lo)).toArray):=by
  show ((items.toList.drop (sIx items.size 0 lo)).take (sIx items.size items.size hi - sIx items.size 0 lo)).toArray.size≤sizeLine
  rw [List.size_toArray,List.length_take,List.length_drop,Array.length_toList]
  omega
 have hj:sIx items.size items.size hi≤items.size:=AC _ _ (Nat.le_refl _) hi
 obtain⟨os,hos,hcs,hds⟩:=id hs
 have hTs:s.TypeIs (.ref sl) "slice" := ⟨os,hos,hcs⟩
 unfold getItem
 try with_reducible refine wpAny_holding ?_
 first | refine wpAny_bind (wpAny_pure ?_) | skip
 refine wpAny_bind (wpAny_sequenceKey ht.typeIs (by decide) ?_)
 refine wpAny_bind (wpAny_callSpecial?_slot (name:=Str.ofString "__getitem__") ht.typeIs PyProof.Rows.slot_tuple_getitem
  (wpAny_call_entry PyProof.Rows.slot_tuple_getitem ht.typeIs entry_tuple_getitem ?_ (args_tuple_getitem _ _)))
 show wpAny _ _ (Builtin.Tuple.tupleItemsOf (.ref t) >>= _) _ _ s
 refine wpAny_bind (tupleItemsOf_ ht ?_)
 refine wpAny_bind (wpAny_typeOf hTs ?_)
 rw [if_pos (by decide)]
 refine wpAny_bind (eP hs pl pu ?_)
 have hno:¬ ((((sIx items.size 0 lo:Nat):Int) == 0 && (1:Int) == 1 && (sIx items.size items.size hi - sIx items.size 0 lo) == items.size)=true):=by
  intro q
  rw [Bool.and_eq_true,Bool.and_eq_true] at q
  have q1:((sIx items.size 0 lo:Nat):Int)=0:=eq_of_beq q.1.1
  have q2:sIx items.size items.size hi - sIx items.size 0 lo=items.size:=eq_of_beq q.2
  exact hw ⟨by omega,by omega⟩
 show wpAny _ _ (if (((sIx items.size 0 lo:Nat):Int) == 0 && (1:Int) == 1 && (sIx items.size items.size hi - sIx items.size 0 lo) == items.size)=true then _ else _) _ _ s
 rw [if_neg hno,uN]
 first
  | exact wpAny_bind (m:=Builtin.Tuple.tupleExact _) (wpAny_newObj_type (wpAny_pure ⟨_,rfl,wpAny_pure h⟩) htake)
  | exact wpAny_bind (m:=Builtin.Tuple.tupleExact _) (wpAny_newObj_type (wpAny_bind (wpAny_pure (wpAny_pure ⟨_,rfl,wpAny_pure h⟩))) htake)
  | exact wpAny_bind (wpAny_bind (m:=Builtin.Tuple.tupleExact _) (wpAny_newObj_type (wpAny_pure (wpAny_pure ⟨_,rfl,wpAny_pure h⟩)) htake))
  | exact wpAny_bind (wpAny_bind (m:=Builtin.Tuple.tupleExact _) (wpAny_newObj_type (wpAny_pure ⟨_,rfl,wpAny_pure h⟩) htake))
end
end HT
namespace L2
open PySem PySem.Spec PyProof.Rows
abbrev TO:=St->Hp->(Option Int->Hp->Prop)->Prop
def PO (X:Cx) (e:Option Expr) (t:TO):Prop:=
 ∀ (pins:List (Addr×Obj)) (s:Shared) (σ:St) (H:Hp) (Q:Option Int->Hp->Prop),Inv X pins σ H s->t σ H Q→
  wpAny (model X.prog X.w) X.A (evalPart e X.env) (fun u s'=>∃ o H',Inv X pins σ H' s'/\IsPart u o/\Q o H') X.xe s
def pC:TO:=fun _ H Q=>Q none H
def yX (t:TE):TO:=fun σ H Q=>t σ H fun x H1=>∃ i,x=.int i/\Q (some i) H1
section
variable {X:Cx} {e:Expr} {te:TE} {lo hi:Option Expr} {tl th:TO} {pos p2:Pos}
theorem xE:PO X none pC:=by
 intro pins s σ H Q I h
 rw [evalPart_none]
 exact wpAny_pure ⟨none,H,I,.none,h⟩
theorem xD (h:PE X e te):PO X (some e) (yX te):=by
 intro pins s σ H Q I hw
 rw [evalPart_some]
 refine bX (h pins s σ H _ I hw) fun u s1 ⟨x,H1,I1,r1,q1⟩=>?_
 obtain⟨i,rfl,q⟩:=q1
 obtain⟨t,rfl⟩:=r1
 exact⟨some i,H1,I1,.int i t,q⟩
def rZ (X:Cx) (r:V->Option Int->Option Int->Hp->VK->Prop):Prop:=
 ∀ (pins:List (Addr×Obj)) (s:Shared) (σ:St) (H:Hp) (x:V) (v vl vu:Value) (lo hi:Option Int) (sl:Addr) (Q:VK),Inv X pins σ H s->aY x v->s.heap.IsSliceOf sl vl vu .none->IsPart vl lo->IsPart vu hi->r x lo hi H Q→
  ∃ T id,typeLookup (.type T) "__getitem__" = pure (some (.builtin id))/\s.TypeIs v T/\wpAny (model X.prog X.w) X.A (getItem v (.ref sl)) (EP X pins σ Q) X.xe s
theorem rZ.or {r r':V->Option Int->Option Int->Hp->VK->Prop} (h:rZ X r) (h':rZ X r'):rZ X (fun x lo hi H Q=>r x lo hi H Q∨r' x lo hi H Q):=by
 intro pins s σ H x v vl vu lo hi sl Q I rx hs pl pu q
 rcases q with q | q
 ·exact h pins s σ H x v vl vu lo hi sl Q I rx hs pl pu q
 ·exact h' pins s σ H x v vl vu lo hi sl Q I rx hs pl pu q
def FI (r:V->Option Int->Option Int->Hp->VK->Prop) (te:TE) (tl th:TO):TE:=fun σ H Q=>te σ H fun x H1=>tl σ H1 fun l H2=>th σ H2 fun u H3=>r x l u H3 Q
theorem uS {r:V->Option Int->Option Int->Hp->VK->Prop} (hr:rZ X r) (he:PE X e te) (hl:PO X lo tl) (hu:PO X hi th):PE X (.Subscript e (.Slice lo hi none p2) pos) (FI r te tl th):=by
 intro pins s σ H Q I h
 refine Subscript_ (bX (he pins s σ H _ I h) fun v s1 ⟨x,H1,I1,r1,q1⟩=>?_)
 refine wpAny_Slice (bX (hl pins s1 σ H1 _ I1 q1) fun vl s2 ⟨l,H2,I2,pl,q2⟩=>bX (hu pins s2 σ H2 _ I2 q2) fun vu s3 ⟨u,H3,I3,pu,q3⟩=>?_)
 rw [evalPart_none]
 refine wpAny_pure ?_
 have I4:Inv X pins σ H3 { s3 with heap:=s3.heap.push { cls:=.type "slice", data:=.fields #[vl,vu,.none] } }:=I3.kept (t':=s3.toks) fun b ob q=>Heap.get?_push_of_some _ q
 obtain⟨T,id,hT,ht,hg⟩:=hr pins { s3 with heap:=s3.heap.push { cls:=.type "slice", data:=.fields #[vl,vu,.none] } } σ H3 x v vl vu l u s3.heap.objs.size Q I4 r1 (Heap.IsSliceOf.new ..) pl pu q3
 show wpAny (model X.prog X.w) X.A (subscriptTail e (.Slice lo hi none p2) v (.ref s3.heap.objs.size)) (EP X pins σ Q) X.xe { s3 with heap:=s3.heap.push { cls:=.type "slice", data:=.fields #[vl,vu,.none] } }
 exact tail_any (ops:=[.ref s3.heap.objs.size,v]) ht hT hg (by with_unfolding_all rfl)
def fy (xs:List V) (lo hi:Option Int):List V:=(xs.drop (HT.sIx xs.length 0 lo)).take (HT.sIx xs.length xs.length hi - HT.sIx xs.length 0 lo)
theorem iH (xs:List V) (lo hi:Option Int):(fy xs lo hi).length≤xs.length:=by
 unfold fy
 rw [List.length_take,List.length_drop]
 omega
def C4 (K:PySem.W.Frag):V->Option Int->Option Int->Hp->VK->Prop:=fun x lo hi H Q=>∃ a xs,x=.ref a/\bo K H a xs∧
 ¬ (HT.sIx xs.length 0 lo=0/\HT.sIx xs.length xs.length hi=xs.length)/\∀ p,H p=none->Q (.ref p) (upd H p (.tup (fy xs lo hi)))
theorem z7:rZ X (C4 X.K):=by
 intro pins s σ H x v vl vu lo hi sl Q I rx hs pl pu h
 obtain⟨a,xs,rfl,hx,hw,q⟩:=h
 cases rx
 obtain⟨its,r,ht,hz⟩:=I.tuple hx
 have hlen:its.toArray.size=xs.length:=by rw [List.size_toArray];exact r.length.symm
 refine⟨"tuple", _,PyProof.Rows.slot_tuple_getitem.lookup,ht.typeIs,?_⟩
 refine HT.getItem_tuple_cut ht hs pl pu (by rw [hlen];exact hw) ?_ (by rw [hlen];exact hz)
 rw [hlen]
 refine⟨.ref s.heap.objs.size,_,I.laid (t':=s.toks) (o:=.tup (fy xs lo hi)) (fun b ob q=>Heap.get?_push_of_some _ q) (Nat.le_refl _) ?_,rfl,q _ (I.hok.fresh (Nat.le_refl _))⟩
 exact⟨Nat.le_trans (iH xs lo hi) hz,_,(r.drop (HT.sIx xs.length 0 lo)).take (HT.sIx xs.length xs.length hi - HT.sIx xs.length 0 lo),IsTup.new _ _⟩
def Hl (K:PySem.W.Frag):R2:=fun x y H Q=>∃ a b ns ms,x=.ref a/\y=.ref b/\bo K H a (ns.map V.int)/\bo K H b (ms.map V.int)/\Q (.bl (HT.lexLt ns ms)) H
def Gc (K:PySem.W.Frag):R2:=fun x y H Q=>∃ a b xs ys,x=.ref a/\y=.ref b/\bo K H a xs/\bo K H b ys/\xs≠[]/\xs.length+ys.length≤sizeLine∧
 (ys=[]->Q (.ref a) H)/\(ys≠[]->∀ p,H p=none->Q (.ref p) (upd H p (.tup (xs++ys))))
end
end L2
namespace L2
open PySem PySem.Spec PyProof.Rows
def yi (n:Nat) (i:Int):Option Nat:=if 0≤i then (if i < n then some i.toNat else none) else if -(n:Int)≤i then some (i+n).toNat else none
def jN {α:Type} (xs:List α) (i:Int):Option α:=(yi xs.length i).bind fun j=>xs[j]?
theorem pW {n:Nat} {i:Int} {j:Nat} (h:yi n i=some j):seqIndex? i n=some j/\j < n/\-(n:Int)≤i/\i < n:=by
 unfold yi at h
 by_cases h0:0≤i
 ·rw [if_pos h0] at h
  by_cases h1:i < n
  ·rw [if_pos h1] at h
   have e:i.toNat=j:=Option.some.inj h
   exact⟨by rw [seqIndex_of h0 h1,e],by omega,by omega,h1⟩
  ·rw [if_neg h1] at h;cases h
 ·rw [if_neg h0] at h
  by_cases h1:-(n:Int)≤i
  ·rw [if_pos h1] at h
   have e:(i+n).toNat=j:=Option.some.inj h
   exact⟨by rw [seqIndex_neg (by omega) h1,e],by omega,h1,by omega⟩
  ·rw [if_neg h1] at h;cases h
theorem qo {α:Type} {xs:List α} {i:Int} {v:α} (h:jN xs i=some v):∃ j,seqIndex? i xs.length=some j/\xs[j]?=some v/\j < xs.length/\-(xs.length:Int)≤i/\i < xs.length:=by
 unfold jN at h
 cases e:yi xs.length i with
 | none=>rw [e] at h;cases h
 | some j=>
  rw [e] at h
  obtain⟨h1,h2,h3,h4⟩:=pW e
  exact⟨j,h1,h,h2,h3,h4⟩
theorem bM {α:Type} {xs:List α} {j:Nat} {v:α} (h:xs[j]?=some v):jN xs (j:Int)=some v:=by
 have hj:j < xs.length:=(List.getElem?_eq_some_iff.mp h).1
 have e:yi xs.length (j:Int)=some j:=by
  unfold yi
  rw [if_pos (by omega),if_pos (by omega)];simp
 unfold jN;rw [e];exact h
theorem wk {α:Type} (xs:List α) (v:α):jN (xs++[v]) (-1)=some v:=by
 have hl:(xs++[v]).length=xs.length+1:=by simp
 have e:yi (xs++[v]).length (-1)=some xs.length:=by
  unfold yi
  rw [hl,if_neg (by decide),if_pos (by omega)]
  congr 1
  omega
 unfold jN
 rw [e]
 show (xs++[v])[xs.length]?=some v
 simp
def lZ (b:Expr):Prop:=∀ o i,subscripted b false o i=operate [o,i] (getItem o i)
def Cg (X:Cx) (r:R2):Prop:=
 ∀ (value slice:Expr) (pins:List (Addr×Obj)) (s:Shared) (σ:St) (H:Hp) (x y:V) (v u:Value) (Q:VK),Inv X pins σ H s->aY x v->aY y u->r x y H Q→
  subscripted slice false v u=operate [v,u] (getItem v u)->wpAny (model X.prog X.w) X.A (subscriptTail value slice v u) (EP X pins σ Q) X.xe s
def GF (X:Cx) (id:String) (r:V->List V->Hp->VK->Prop):Prop:=
 ∀ (pins:List (Addr×Obj)) (s:Shared) (σ:St) (H:Hp) (x:V) (xs:List V) (v:Value) (us:List Value) (Q:VK),Inv X pins σ H s->aY x v->aZ xs us->r x xs H Q→
  wpAny (model X.prog X.w) X.A (call (.builtin id) (v :: us)) (EP X pins σ Q) X.xe s
section
variable {X:Cx} {a b:Expr} {ta tb:TE} {pos:Pos}
theorem Dj {r:R2} (hr:Cg X r) (ha:PE X a ta) (hb:PE X b tb) (hs:lZ b):PE X (.Subscript a b pos) (wN r ta tb):=by
 intro pins s σ H Q I h
 exact Subscript_ (B4 ha hb I h fun v u s2 x y H2 I2 rx ry q=>hr a b pins s2 σ H2 x y v u Q I2 rx ry q (hs _ _))
def AI (K:PySem.W.Frag):R2:=fun x y H Q=>∃ p xs i v,x=.ref p/\y=.int i/\aR K H p xs/\jN xs i=some v/\Q v H
def AH (K:PySem.W.Frag):R2:=fun x y H Q=>∃ p xs i v,x=.ref p/\y=.int i/\bo K H p xs/\jN xs i=some v/\Q v H
def EY:R2:=fun x y H Q=>∃ z i c,x=.str z/\y=.int i/\z.length≤sizeLine/\jN z.cps.toList i=some c/\Q (.str ⟨#[c]⟩) H
theorem bj:Cg X (AI X.K):=by
 intro value slice pins s σ H x y v u Q I rx ry h hs
 obtain⟨p,xs,i,z,rfl,rfl,hq,he,q⟩:=h
 cases rx
 obtain⟨t,rfl⟩:=ry
 obtain⟨its,r,pl,hz⟩:=I.list hq
 obtain⟨j,h1,h2,h3,h4,h5⟩:=qo he
 obtain⟨w,ew,rw'⟩:=r.get h2
 have hl:=r.length
 have hn:=lJ
 have fin:EP X pins σ Q w s:=⟨z,H,I,rw',q⟩
 by_cases h0:0≤i
 ·have hj:i.toNat=j:=by
   rw [seqIndex_of h0 h5] at h1
   exact Option.some.inj h1
  exact item_listR pl.isList h0 (by omega) (by rw [hj];simpa using ew) fin hs
 ·have hj:(i+(its.toArray.size:Int)).toNat=j:=by
   rw [seqIndex_neg (by omega) h4] at h1
   rw [List.size_toArray,← hl]
   exact Option.some.inj h1
  exact subscriptTail_builtinR (x:=w) pl.isList.typeIs slot_list_getitem.lookup
   (wpAny_getItem_list_neg (Q:=fun r s'=>r=w/\EP X pins σ Q r s') pl.isList (by omega) (by rw [List.size_toArray] <;> omega) (by omega) (by rw [hj];simpa using ew) ⟨rfl,fin⟩) hs
theorem ar:Cg X (AH X.K):=by
 intro value slice pins s σ H x y v u Q I rx ry h hs
 obtain⟨p,xs,i,z,rfl,rfl,hq,he,q⟩:=h
 cases rx
 obtain⟨t,rfl⟩:=ry
 obtain⟨its,r,pl,hz⟩:=I.tuple hq
 obtain⟨j,h1,h2,h3,h4,h5⟩:=qo he
 obtain⟨w,ew,rw'⟩:=r.get h2
 have hl:=r.length
 have hn:=lJ
 have fin:EP X pins σ Q w s:=⟨z,H,I,rw',q⟩
 exact subscriptTail_builtinR (x:=w) pl.typeIs slot_tuple_getitem.lookup
  (getItem_tuple (j:=j) (Q:=fun r s'=>r=w/\EP X pins σ Q r s') pl (by omega) (by omega) (by rw [List.size_toArray,← hl];exact h1) (by simpa using ew) ⟨rfl,fin⟩) hs
def IG (K:PySem.W.Frag):R2:=fun x y H Q=>AI K x y H Q∨AH K x y H Q∨EY x y H Q
theorem oH (its:List Value) (n j:Nat) (u:Value):Obj.mapSeq (·.setIfInBounds j u) { cls:=.type "list", data:=.seq its.toArray n }={ cls:=.type "list", data:=.seq (its.set j u).toArray n }:=by
 simp [Obj.mapSeq]
theorem Inv.lst {pins:List (Addr×Obj)} {σ:St} {H:Hp} {s:Shared} {p:Addr} {xs:List V} (I:Inv X pins σ H s) (h:H p=some (.lst xs)) :
  ∃ (its:List Value) (n:Nat),aZ xs its/\s.heap.get? p=some { cls:=.type "list", data:=.seq its.toArray n }/\xs.length≤sizeLine:=by
 obtain⟨z,its,n,r,e⟩:=I.hok p _ h
 exact⟨its,n,r,e,z⟩
theorem Inv.lstUpd {pins:List (Addr×Obj)} {σ:St} {H:Hp} {s:Shared} {p:Addr} {xs ys:List V} {its its':List Value} {n n':Nat} {f:Obj->Obj} (I:Inv X pins σ H s) (h:H p=some (.lst xs))
  (ho:s.heap.get? p=some { cls:=.type "list", data:=.seq its.toArray n }) (hf:f { cls:=.type "list", data:=.seq its.toArray n }={ cls:=.type "list", data:=.seq its'.toArray n' }) (r:aZ ys its') (hz:ys.length≤sizeLine) (t:Nat) :
  Inv X pins σ (upd H p (.lst ys)) { s with heap:=s.heap.update p f,toks:=t }:=by
 have e:(s.heap.update p f).get? p=some { cls:=.type "list", data:=.seq its'.toArray n' }:=by
  rw [Heap.get?_update_self f ho (by rw [hf] <;> rfl),hf]
 refine I.write (x:=p) (e:=p) (by rw [h];trivial) (.inl rfl) (fun b u hb q=>(Heap.get?_update_other _ _ (Ne.symm hb)).trans q) ⟨_,e⟩ ?_
 exact⟨hz,its',n',r,e⟩
def C5:V->V->V->Hp->(Hp->Prop)->Prop:=fun o i v H Q=>∃ p xs k j,o=.ref p/\i=.int k/\H p=some (.lst xs)/\yi xs.length k=some j/\Q (upd H p (.lst (xs.set j v)))
theorem jj:Ce X C5:=by
 intro pins s σ H o i v ov iv u Q I ro ri rv h
 obtain⟨p,xs,k,j,rfl,rfl,hp,hj,q⟩:=h
 cases ro
 obtain⟨t,rfl⟩:=ri
 obtain⟨its,n,r,ho,hz⟩:=I.lst hp
 obtain⟨h1,h2,h3,h4⟩:=pW hj
 have hl:=r.length
 have hn:=lJ
 have I':Inv X pins σ (upd H p (.lst (xs.set j v))) { s with heap:=s.heap.update p (Obj.mapSeq (·.setIfInBounds j u)) }:=
  I.lstUpd hp ho (oH its n j u) (r.set rv j) (by rw [List.length_set];exact hz) s.toks
 by_cases h0:0≤k
 ·have hk:k.toNat=j:=by
   rw [seqIndex_of h0 h4] at h1
   exact Option.some.inj h1
  exact PySem.W.ki_setAt ho h0 (by omega) (by rw [List.size_toArray,← hl];exact h4) (by rw [hk];exact⟨_,I',q⟩)
 ·have hk:(k+(its.toArray.size:Int)).toNat=j:=by
   rw [seqIndex_neg (by omega) h3] at h1
   rw [List.size_toArray,← hl]
   exact Option.some.inj h1
  exact PySem.W.ki_setBack ho (by omega) (by rw [List.size_toArray,← hl];exact h3) (by omega) (by rw [hk];exact⟨_,I',q⟩)
theorem lg (lo hi:Option Int) (n:Nat):(sliceBounds lo hi none n).1=((HT.sIx n 0 lo:Nat):Int)/\(sliceBounds lo hi none n).2.1=((HT.sIx n n hi:Nat):Int)/\(sliceBounds lo hi none n).2.2=1:=by
 refine⟨?_,?_,rfl⟩
 ·cases lo with
  | none=>simp [sliceBounds,HT.sIx]
  | some i=>
   simp only [sliceBounds,HT.sIx,Option.getD_none,show (1:Int) > 0 by decide,if_true]
   by_cases h:i < 0
   ·simp only [h,if_true] <;> omega
   ·simp only [h,if_false] <;> omega
 ·cases hi with
  | none=>simp [sliceBounds,HT.sIx]
  | some i=>
   simp only [sliceBounds,HT.sIx,Option.getD_none,show (1:Int) > 0 by decide,if_true]
   by_cases h:i < 0
   ·simp only [h,if_true] <;> omega
   ·simp only [h,if_false] <;> omega
theorem jS (its:List Value) (lo hi:Option Int):slicePick its.toArray lo hi none=((its.drop (HT.sIx its.length 0 lo)).take (HT.sIx its.length its.length hi - HT.sIx its.length 0 lo)).toArray:=by
 obtain⟨h1,h2,h3⟩:=lg lo hi its.toArray.size
 unfold slicePick
 rw [h1,h2,h3]
 simp only [sliceRange_one,pick_run,List.size_toArray] <;> rfl
def EV (K:PySem.W.Frag):V->Option Int->Option Int->Hp->VK->Prop:=fun x lo hi H Q=>∃ a xs,x=.ref a/\aR K H a xs/\∀ p,H p=none->Q (.ref p) (upd H p (.lst (fy xs lo hi)))
theorem iP:rZ X (EV X.K):=by
 intro pins s σ H x v vl vu lo hi sl Q I rx hs pl pu h
 obtain⟨a,xs,rfl,hx,q⟩:=h
 cases rx
 obtain⟨its,r,ht,hz⟩:=I.list hx
 have hlen:=r.length
 refine⟨"list", _,slot_list_getitem.lookup,ht.isList.typeIs,?_⟩
 refine wpAny_getItem_list_slice ht.isList hs pl pu .none (by simp) ?_ (by rw [List.size_toArray] <;> omega)
 rw [jS,← hlen]
 refine⟨.ref s.heap.objs.size,_,I.laid (t':=s.toks) (o:=.lst (fy xs lo hi)) (fun b ob q=>Heap.get?_push_of_some _ q) (Nat.le_refl _) ?_,rfl,q _ (I.hok.fresh (Nat.le_refl _))⟩
 exact⟨Nat.le_trans (iH xs lo hi) hz,_,0,(r.drop (HT.sIx xs.length 0 lo)).take (HT.sIx xs.length xs.length hi - HT.sIx xs.length 0 lo),Heap.get?_push_size _ rfl⟩
def zu:V->Bool
 | .non=>true
 | .bl _=>true
 | .int _=>true
 | .str _=>true
 | _=>false
def DP:V->V->Bool
 | .non,.non=>true
 | .bl a,.bl b=>a == b
 | .bl a,.int b=>(if a then 1 else 0) == b
 | .int a,.bl b=>a == (if b then 1 else 0)
 | .int a,.int b=>a == b
 | .str a,.str b=>a == b
 | _,_=>false
def IP (x:V) (u:Value):Bool:=match u with
 | .none=>DP .non x
 | .bool b=>DP (.bl b) x
 | .int i _=>DP (.int i) x
 | .str z _=>DP (.str z) x
 | _=>false
def Gm (x:V) (xs:List V):Bool:=xs.any fun y=>DP y x
def IH (K:PySem.W.Frag) (neg:Bool):R2:=fun x y H Q=>∃ p xs,y=.ref p/\(aR K H p xs∨bo K H p xs)/\zu x=true/\xs.all zu=true/\Q (.bl (if neg then !Gm x xs else Gm x xs)) H
theorem bc:dj X (.builtin "len") (fun xs H Q=>∃ p ys,xs=[.ref p]/\(aR X.K H p ys∨bo X.K H p ys)/\Q (.int ys.length) H):=by
 intro pins s σ H xs us Q I r h
 obtain⟨p,ys,rfl,hq,q⟩:=h
 obtain⟨u,rfl,rx⟩:=fz r
 cases rx
 have hn:=lJ
 rcases hq with hq | hq
 ·obtain⟨its,r',pl,hz⟩:=I.list hq
  have hlen:=r'.length
  exact Calls.call_len_list pl.isList (by simp only [List.size_toArray] <;> omega) ⟨.int ys.length,H,I.tok _,⟨s.toks+1,by rw [List.size_toArray,hlen]⟩,q⟩
 ·obtain⟨its,r',pl,hz⟩:=I.tuple hq
  have hlen:=r'.length
  exact len_tuple pl (by simp only [List.size_toArray] <;> omega) ⟨.int ys.length,H,I.tok _,⟨s.toks+1,by rw [List.size_toArray,hlen]⟩,q⟩
theorem gZ:dj X (.type "list") (fun xs H Q=>∃ p ys,xs=[.ref p]/\(aR X.K H p ys∨bo X.K H p ys)/\∀ l,H l=none->Q (.ref l) (upd H l (.lst ys))):=by
 intro pins s σ H xs us Q I r h
 obtain⟨p,ys,rfl,hq,q⟩:=h
 obtain⟨u,rfl,rx⟩:=fz r
 cases rx
 have fin:∀ (its:List Value),aZ ys its->ys.length≤sizeLine->∀ (h':Heap) (c':Nat),(∀ b o',s.heap.get? b=some o'->h'.get? b=some o')→
   h'.get? s.heap.objs.size=some { cls:=.type "list", dict:=none,data:=.seq its.toArray c',slots:=#[] }->EP X pins σ Q (.ref s.heap.objs.size) { s with heap:=h' }:=fun its r' hz h' c' kp e=>
  ⟨.ref s.heap.objs.size,_,I.laid (t':=s.toks) kp (Nat.le_refl _) (show ObjOk X.prog X.w _ h' _ (.lst ys) from ⟨hz,its,c',r',e⟩),rfl,q _ (I.hok.fresh (Nat.le_refl _))⟩
 rcases hq with hq | hq
 ·obtain⟨its,r',pl,hz⟩:=I.list hq
  have hlen:=r'.length
  obtain⟨o,ho,hc,n,hd⟩:=pl.isList
  exact call_list_seq p (.inl rfl) ho hc hd (fun h' c' kp e=>fin its r' hz h' c' kp e) (by simp only [List.size_toArray] <;> omega)
 ·obtain⟨its,r',pl,hz⟩:=I.tuple hq
  have hlen:=r'.length
  obtain⟨o,ho,hc,n,hd⟩:=pl
  exact call_list_seq p (.inr rfl) ho hc hd (fun h' c' kp e=>fin its r' hz h' c' kp e) (by simp only [List.size_toArray] <;> omega)
theorem cy:dj X (.type "tuple") (fun xs H Q=>∃ p ys,xs=[.ref p]/\((aR X.K H p ys/\∀ l,H l=none->Q (.ref l) (upd H l (.tup ys)))∨(bo X.K H p ys/\Q (.ref p) H))):=by
 intro pins s σ H xs us Q I r h
 obtain⟨p,ys,rfl,h⟩:=h
 obtain⟨u,rfl,rx⟩:=fz r
 cases rx
 rcases h with ⟨hq,q⟩ | ⟨hq,q⟩
 ·obtain⟨its,r',pl,hz⟩:=I.list hq
  have hlen:=r'.length
  refine call_tuple_list pl.isList (fun h' kp=>?_) (by simp only [List.size_toArray] <;> omega)
  have I1:Inv X pins σ H { s with heap:=h' }:=I.kept (t':=s.toks) kp
  have I2:Inv X pins σ (upd H h'.objs.size (.tup ys)) { s with heap:=h'.push { cls:=.type "tuple", data:=.seq its.toArray } }:=
   I1.laid (t':=s.toks) (fun b o e=>Heap.get?_push_of_some _ e) (Nat.le_refl _) (show ObjOk X.prog X.w _ _ _ (.tup ys) from ⟨hz,its,r',IsTup.new _ _⟩)
  exact⟨.ref h'.objs.size,_,I2,rfl,q _ (I1.hok.fresh (Nat.le_refl _))⟩
 ·obtain⟨its,r',pl,hz⟩:=I.tuple hq
  exact call_tuple_same pl ⟨.ref p,H,I,rfl,q⟩
def EJ (K:PySem.W.Frag) (T:String) (x:V) (H:Hp):Prop:=match x with
 | .str _=>T = "str"
 | .int _=>T = "int"
 | .ref p=>(T = "list" /\ ∃ xs,aR K H p xs)∨(T = "tuple" /\ ∃ o,K.lookup p=some o/\o.cls=.type "tuple" /\ o.dict=none)∨
   (T = "dict" /\ ((∃ kvs,H p=some (.dK kvs))∨∃ kvs,H p=some (.dT kvs)))∨(T = "set" /\ ∃ S n,H p=some (.set S n))
 | _=>False
theorem zQ {pins:List (Addr×Obj)} {σ:St} {H:Hp} {s:Shared} {T:String} {x:V} {v:Value} (I:Inv X pins σ H s) (r:aY x v) (ty:EJ X.K T x H) :
  s.TypeIs v T/\∀ a,v=.ref a->∃ ob,s.heap.get? a=some ob/\ob.dict=none:=by
 cases x with
 | str z=>
  obtain⟨t,rfl⟩:=r
  cases (show T = "str" from ty)
  exact⟨typeIs_str s z t,fun _ e=>nomatch e⟩
 | int i=>
  obtain⟨t,rfl⟩:=r
  cases (show T = "int" from ty)
  exact⟨typeIs_int s i t,fun _ e=>nomatch e⟩
 | ref p=>
  cases r
  rcases ty with ⟨rfl,xs,hq⟩ | ⟨rfl,o,hk,hc,hd⟩ | ⟨rfl,hk⟩ | ⟨rfl,S,n,hk⟩
  ·obtain⟨its,_,pl,_⟩:=I.list hq
   refine⟨pl.isList.typeIs,fun a e=>?_⟩
   cases e
   obtain⟨o,n,e,c,hd,_⟩:=pl
   exact⟨o,e,hd⟩
  ·refine⟨⟨o,I.kIn p o hk,hc⟩,fun a e=>?_⟩
   cases e
   exact⟨o,I.kIn _ o hk,hd⟩
  ·have z:∃ o,s.heap.get? p=some o/\o.ExactDict:=by
    rcases hk with ⟨kvs,hk⟩ | ⟨kvs,hk⟩
    ·obtain⟨_,_,_,_,o,_,_,e,ex,_⟩:=I.hok p _ hk
     exact⟨o,e,ex⟩
    ·obtain⟨_,_,_,_,o,_,_,e,ex,_⟩:=I.hok p _ hk
     exact⟨o,e,ex⟩
   obtain⟨o,e,ex⟩:=z
   refine⟨⟨o,e,ex.1⟩,fun a e2=>?_⟩
   cases e2
   exact⟨o,e,ex.2.1⟩
  ·obtain⟨o,_,_,_,e,ex,_⟩:=I.hok p _ hk
   refine⟨⟨o,e,ex.1⟩,fun a e2=>?_⟩
   cases e2
   exact⟨o,e,ex.2.1⟩
 | _=>exact False.elim ty
def Hc (K:PySem.W.Frag) (T:String) (r:V->List V->Hp->VK->Prop) (to:TE):TE:=fun σ H Q=>to σ H fun x H1=>EJ K T x H1/\r x [] H1 Q
def FV (K:PySem.W.Frag) (T:String) (r:V->List V->Hp->VK->Prop) (to:TE) (t:TA):TE:=fun σ H Q=>to σ H fun x H1=>EJ K T x H1/\t σ H1 fun xs H2=>r x xs H2 Q
variable {o e:Expr} {es:List Expr} {to:TE} {t:TA} {name:Str} {apos cpos:Pos} {T id:String} {r:V->List V->Hp->VK->Prop}
theorem Dk (pa:PlainAttrs T) (slot:Slot T name id) (hty:typeOf (.builtin id)=pure (.type "method_descriptor")) (hm:GF X id r) (ho:PE X o to) (ha:PA X (e :: es) t)
  (hbase:attributeBase o name X.env (eval o X.env)=eval o X.env:=by rfl)
  (hfew:((backTo cpos (starEach (e :: es) X.env)).all (fun x=>!x.1) && (backToKw cpos (keywordEach [] X.env)).all (fun x=>x.1.isSome)
   && decide ((e :: es).length+([]:List Keyword).length+(if ([]:List Keyword).isEmpty then 0 else 1) < 30))=true:=by rfl)
  (hline:(apos.endLine == cpos.line)=true:=by rfl) (hs:starEach (e :: es) X.env=(false,eval e X.env) :: starEach es X.env:=by rfl) (hplain:(backTo cpos (starEach es X.env)).any (·.1)=false:=by rfl) :
  PE X (.Call (.Attribute o name apos) (e :: es) [] cpos) (FV X.K T r to t):=by
 intro pins s σ H Q I h
 refine wpAny_Call_method_late hbase hfew hline rfl (bX (ho pins s σ H _ I h) fun v s1 ⟨x,H1,I1,r1,ty,q1⟩=>?_)
 obtain⟨h1,h2⟩:=zQ I1 r1 ty
 refine⟨T,id,pa,slot,hty,h1,h2,?_⟩
 have hA:=ha cpos pins s1 σ H1 _ I1 q1
 rw [hs] at hA ⊢
 refine Calls.callWith_builtin (by show (false || (backTo cpos (starEach es X.env)).any (·.1))=false;rw [hplain] <;> rfl) (Calls.evalArgs_plain ?_)
 exact bX hA fun us s2 ⟨vs,H2,I2,r2,q2⟩=>hm pins s2 σ H2 x vs v us Q I2 r1 r2 q2
end
end L2
namespace L2
open PySem PySem.Spec PyProof.Rows
def GG (X:Cx) (id:String) (r:V->List V->Hp->VK->Prop):Prop:=
 ∀ (pins:List (Addr×Obj)) (s:Shared) (σ:St) (H:Hp) (x:V) (xs:List V) (v:Value) (us:List Value) (Q:VK),Inv X pins σ H s->aY x v->aZ xs us->r x xs H Q→
  wpAny (model X.prog X.w) X.A (call (.builtin id) (v :: us)) (EP X pins σ Q) X.xe s
theorem aZ.one:∀ {x:V} {us:List Value},aZ [x] us->∃ u,us=[u]/\aY x u
 | _,_,.cons r .nil=>⟨_,rfl,r⟩
section
variable {X:Cx} {pins:List (Addr×Obj)} {σ:St} {H:Hp} {s:Shared} {l b:Addr} {xs ys zs:List V}
theorem Inv.lset {its its':List Value} {n:Nat} {f:Array Value->Array Value} {t':Nat} (I:Inv X pins σ H s) (hH:H l=some (.lst xs))
  (e:s.heap.get? l=some { cls:=.type "list", data:=.seq its.toArray n }) (hf:f its.toArray=its'.toArray) (hv:aZ ys its') (hz:ys.length≤sizeLine) :
  Inv X pins σ (upd H l (.lst ys)) { s with heap:=s.heap.update l (Obj.mapSeq f),toks:=t' }:=by
 have q:=PySem.IsL.update e f
 rw [hf] at q
 refine I.write (x:=l) (e:=l) (by rw [hH];exact trivial) (.inl rfl) (fun b' u hb hu=>(Heap.get?_update_other s.heap (Obj.mapSeq f) (Ne.symm hb)).trans hu) ⟨_,q⟩ ?_
 exact⟨hz,its',_,hv,q⟩
theorem Inv.lnew {its:List Value} {t':Nat} (I:Inv X pins σ H s) (hv:aZ ys its) (hz:ys.length≤sizeLine) :
  Inv X pins σ (upd H s.heap.objs.size (.lst ys)) { s with heap:=s.heap.push { cls:=.type "list", data:=.seq its.toArray },toks:=t' }:=
 I.laid (fun _ _ q=>Heap.get?_push_of_some _ q) (Nat.le_refl _) ⟨hz,its,0,hv,Heap.get?_push_size _ rfl⟩
theorem Inv.fresh (I:Inv X pins σ H s):H s.heap.objs.size=none:=I.hok.fresh (Nat.le_refl _)
theorem Inv.lstM (I:Inv X pins σ H s) (hH:H l=some (.lst xs)):xs.length≤sizeLine/\∃ (its:List Value) (n:Nat),aZ xs its/\xs.length=its.length/\s.heap.get? l=some { cls:=.type "list", data:=.seq its.toArray n }:=by
 obtain⟨z,its,n,r,e⟩:=I.hok l _ hH
 exact⟨z,its,n,r,r.length,e⟩
end
section
variable {X:Cx}
def w6:V->List V->Hp->VK->Prop:=fun x vs H Q=>∃ l xs y,x=.ref l/\vs=[y]/\H l=some (.lst xs)/\xs.length < sizeLine/\Q .non (upd H l (.lst (xs++[y])))
theorem dz:GG X "list.append" w6:=by
 intro pins s σ H x vs v us Q I rx rv h
 obtain⟨l,xs,y,rfl,rfl,hH,hz,q⟩:=h
 cases rx
 obtain⟨u,rfl,ru⟩:=rv.one
 obtain⟨z,its,n,r,hl,e⟩:=I.lstM hH
 refine call_meets F.slot_list_append ⟨_,e,rfl⟩ F.entry_list_append (F.args_list_append_2 _ _) (PySem.list_append l its.toArray n u (by rw [List.size_toArray];omega)) ⟨e,?_⟩
 refine⟨.non,_,I.lset (its':=its++[u]) hH e (by simp) (r.append (.cons ru .nil)) ?_,rfl,q⟩
 rw [List.length_append,List.length_singleton]
 omega
def Ep:V->List V->Hp->VK->Prop:=fun x vs H Q=>∃ l b xs zs,x=.ref l/\vs=[.ref b]/\H l=some (.lst xs)/\H b=some (.lst zs)/\xs.length+zs.length≤sizeLine/\Q .non (upd H l (.lst (xs++zs)))
def Hj:V->List V->Hp->VK->Prop:=fun x vs H Q=>∃ l xs y,x=.ref l/\vs=[]/\H l=some (.lst xs)/\xs[xs.length - 1]?=some y/\Q y (upd H l (.lst xs.dropLast))
def EW:V->List V->Hp->VK->Prop:=fun x vs H Q=>∃ l xs i k y,x=.ref l/\vs=[.int i]/\H l=some (.lst xs)/\-(2 ^ 63)≤i/\i < 2 ^ 63/\seqIndex? i xs.length=some k/\xs[k]?=some y/\Q y (upd H l (.lst (xs.eraseIdx k)))
def C6:V->List V->Hp->VK->Prop:=fun x vs H Q=>∃ l xs,x=.ref l/\vs=[]/\H l=some (.lst xs)/\Q .non (upd H l (.lst xs.reverse))
def E4:V->List V->Hp->VK->Prop:=fun x vs H Q=>∃ l xs,x=.ref l/\vs=[]/\H l=some (.lst xs)/\Q .non (upd H l (.lst []))
def E5:R2:=fun x y H Q=>∃ l b xs zs,x=.ref l/\y=.ref b/\H l=some (.lst xs)/\H b=some (.lst zs)/\xs.length+zs.length≤sizeLine/\∀ p,H p=none->Q (.ref p) (upd H p (.lst (xs++zs)))
theorem ju:gB X (binaryOp .Add) E5:=by
 intro pins s σ H x y v u Q I rx ry h
 obtain⟨l,b,xs,zs,rfl,rfl,hH,hB,hz,q⟩:=h
 cases rx
 cases ry
 obtain⟨z,its,n,r,hl,e⟩:=I.lstM hH
 obtain⟨z2,its2,n2,r2,hl2,e2⟩:=I.lstM hB
 refine PySem.P.add_list e e2 ?_ (by rw [List.size_toArray,List.size_toArray];omega)
 have ea:its.toArray++its2.toArray=(its++its2).toArray:=by simp
 rw [ea]
 exact⟨.ref _,_,I.lnew (t':=s.toks) (r.append r2) (by rw [List.length_append];omega),rfl,q _ I.fresh⟩
def Hi:R2:=fun x y H Q=>∃ l k xs,x=.ref l/\y=.int k/\H l=some (.lst xs)/\-(2 ^ 63)≤k/\k < 2 ^ 63/\xs.length * k.toNat≤sizeLine∧
 ∀ p,H p=none->Q (.ref p) (upd H p (.lst (List.replicate k.toNat xs).flatten))
end
section
variable {prog:Program} {w:World} {A:Around} {E:Value->Shared->Prop} {s:Shared}
end
section
variable {X:Cx}
end
end L2
namespace Att
open PySem PySem.W PySem.Calls PyProof.Rows
theorem iK {P:Params} {h:Heap}:∀ (ns:List Int) (vs:List Value),WellAll P h vs (ns.map WData.int)->IntsAre vs ns:=by
 intro ns
 induction ns with
 | nil=>
  intro vs w
  rw [List.map_nil] at w
  cases w
  exact .nil
 | cons n ns ih=>
  intro vs w
  rw [List.map_cons] at w
  cases w with
  | cons a b=>
   cases a
   exact .cons _ _ (ih _ b)
theorem qM {l:OpenLaw} {n:Nat} (hn:l.most=some n) {P:Params} {h:Heap} {args:List WData} {vals:List Value}
  (hpre:l.row.toRowW.claim.pre args=true) (hwl:WellAll P h vals args) :
  ∃ a vs ns,vals=[Value.ref a]/\args=[WData.list (ns.map WData.int)]/\h.get? a=some { cls:=.type "list", data:=.seq vs.toArray }/\IntsAre vs ns/\ns.length≤n:=by
 have hsh:WShape.hasAll [] args [.list .int]=true:=(pre_splitW hpre).1
 have hc:l.pre.holds [] { args:=args }=true:=(pre_splitW hpre).2
 obtain⟨d,r,rfl,h1,h2⟩:=hasAllW_cons hsh
 obtain rfl:=hasAllW_nil h2
 obtain⟨xs,rfl,h3⟩:=hasW_list h1
 obtain⟨ns,rfl⟩:=items_int h3
 have hlen:ns.length≤n:=by
  unfold OpenLaw.pre at hc
  have h4:(WTm.not (.lt (.lit (.int (n:Int))) (.len (.arg 0)))).holds [] { args:=[.list (ns.map .int)] }=true:=by
   have h4:=(holds_andW hc).1
   rw [hn] at h4
   exact h4
  have h5:=condW_of h4 (w_not (w_lt w_lit (w_len_list (w_arg rfl))))
  rw [List.length_map] at h5
  refine Nat.le_of_not_lt fun q=>?_
  have q':(n:Int) < ((ns.length:Nat):Int):=by omega
  first
   | (rw [decide_eq_true q'] at h5;exact absurd h5 (by decide))
   | (simp at h5;omega)
 cases hwl with
 | cons w1 w2=>
  cases w2
  cases w1 with
  | list ho hall=>exact⟨_,_,ns,rfl,rfl,ho,iK ns _ hall,hlen⟩
theorem qT (l:OpenLaw) (args:List WData):l.row.toRowW.claim.post args (.bool true) args=true:=
 postW_of (r:=l.row.toRowW) (X:=(true == true))
  (show WShape.has [] (.bool true) .bool=true by first | rfl | decide | simp [WShape.has,WShape.arms,WShape.armsAll])
  (show (WTm.eq .res (.lit (.bool true))).value [] { args:=args,res:=some (.bool true),after:=args }=some (.bool (true == true)) from w_eq_bool (w_res rfl) w_lit) rfl
theorem attach_call {l:OpenLaw} {n:Nat} {q:Program} {loose:List Str} {XP:(Str->Option Value)->Heap->Prop} {YP:World->Heap->Prop} {d:DefRec}
  (hn:l.most=some n) (hdf:d.params.defaults=[])
  (call:∀ (w:World) (s₀ s₁:Shared) (mg mb:Str->Option Value) (fa:Addr) (o:Obj) (pm cd doc:Value) (a:Addr) (vs:List Value) (ns:List Int),
   Ground q loose [] XP w s₀ mg mb s₁.heap->YP w s₁.heap→
   s₁.heap.get? fa=some o->o.data=.func (docDef d.name d.params d.body d.scope pm cd doc)->s₁.heap.CodeRec cd d.name->mg d.name=some (.ref fa)→
   s₁.heap.get? a=some { cls:=.type "list", data:=.seq vs.toArray }->IntsAre vs ns->ns.length≤n->s₁.gens=#[]→
   codeAny (model l.prog w) callerA (.call (.ref fa) ⟨[.ref a],[]⟩) (fun r s'=>r=.ok (.ret (.bool true))/\OldK s₁.heap s'.heap/\s'.os=s₁.os/\AllBare s'.gens) s₁) :
  WalkO q loose XP YP l.row.toRowW d [] (fun f vs=>PySem.call f vs):=by
 intro w s₀ s₁ mg mb G Y fa o pm cd doc dV kV ho hd hcd hD hmg hg args vals as hpre hlay hrd hwl hlo
 obtain rfl:dV=.none:=Dflts.none hD hdf
 obtain rfl:kV=.none:=Dflts.noKw hD
 obtain⟨a,vs,ns,rfl,rfl,hobj,hints,hlen⟩:=qM hn hpre hwl
 refine enter_call (codeAny_mono (call w s₀ s₁ mg mb fa o pm cd doc a vs ns G Y ho (fd_plain hd) hcd hmg hobj hints hlen hg) fun r s' hq=>?_)
 obtain⟨rfl,h2,h3,h4⟩:=hq
 exact⟨.inl ⟨.bool true,.bool true,[],rfl,fun _=>rfl,.bool true,qT l _,fun _=>⟨List.Pairwise.nil,fun _ hm=>(nomatch hm)⟩⟩,h2,h3,h4⟩
section
variable {prog:Program} {w:World} {A:Around} {E:Value->Shared->Prop} {s:Shared} {K:Frag}
def noObjs (h:Heap):Heap:={ h with objs:=#[] }
theorem noObjs_get (h:Heap) (b:Addr):(noObjs h).get? b=none:=by
 cases e:(noObjs h).get? b with
 | none=>rfl
 | some o=>exact absurd (Heap.lt_size e) (Nat.not_lt_zero _)
def E7 (h:Heap) (L d:Addr):List (Addr×Obj):=(List.range h.objs.size).filterMap fun a=>if a=L∨a=d then none else (h.get? a).map fun o=>(a,o)
theorem fr_all {h:Heap} {L:Addr} {m:Str->Option Value} (n:h.Ns L m):Fr (noObjs h) L h m:=
 ⟨n,fun b o e=>(by rw [noObjs_get] at e;cases e),Nat.zero_le _⟩
end
end Att
namespace L2
open PySem PySem.Spec PyProof.Rows
theorem j6:∀ {vs:List Value} {ns:List Int},IntsAre vs ns->aZ (ns.map V.int) vs
 | _,_,.nil=>.nil
 | _,_,.cons n t h=>.cons ⟨t,rfl⟩ (j6 h)
def Ih (H:Hp):Prop:=∀ b,H b=none∨∃ o xs,H b=some (.frz o (.lst xs))
end L2
namespace L2
open PySem PySem.Spec PyProof.Rows
abbrev IV {K:PySem.W.Frag} {h:Heap} (_:K.In h):PySem.W.Frag:=K
end L2
namespace L2
open PySem PySem.Spec PyProof.Rows
def ym (s:Stmt) (j:Nat):Stmt:=match s with
 | .ClassDef _ _ _ body _ _ _ _ _ _ _=>body.getD j (.Pass ⟨0,0,0,0⟩)
 | _=>.Pass ⟨0,0,0,0⟩
def dS (s:Stmt):Arguments:=match s with
 | .FunctionDef _ a _ _ _ _ _ _ _ _=>a
 | _=>{ posonlyargs:=[],args:=[],vararg:=none,kwonlyargs:=[],kw_defaults:=[],kwarg:=none,defaults:=[] }
def cI (s:Stmt):List Stmt:=match s with
 | .FunctionDef _ _ b _ _ _ _ _ _ _=>b
 | _=>[]
def au (s:Stmt):Scope:=match s with
 | .FunctionDef _ _ _ _ _ _ sc _ _ _=>sc
 | _=>{ kind:=.function,names:=[],isGenerator:=false,isCoroutine:=false }
abbrev dk:l5:=fun _ _ _ _ _ _=>False
abbrev E0:XK:=fun _ _ _=>False
theorem ef {X:Cx}:eM dk X E0:=fun _ _ _ _ _ _ _ h=>h.elim
structure Fun (K:PySem.W.Frag) (x qual:Str) (st:Stmt) (f:Addr) (fd:FuncData):Prop where
 ex:∃ (oc:Value) (od:Option Addr) (kV doc pm:Value) (an:Option Addr) (cdv ct:Value) (osl:Array (Option Value)),
  fd=PySem.W.fnOf x qual (dS st) (cI st) (au st) .none kV doc pm an cdv ct/\K.lookup f=some ⟨oc,od,.func fd,osl⟩/\PySem.W.codeIn K cdv qual=true
 kp:PySem.W.keepIn K (.ref f)=true
section
variable {P:Program} {w:World} {K:PySem.W.Frag} {mg:Str->Option Value} {base:Heap}
theorem Fun.ok {x qual:Str} {st:Stmt} {f:Addr} {fd:FuncData} {N ps:List Str} {k:Nat} {sp:Sp} (F:Fun K x qual st f fd) (S:aH N ps (au st)) (len:∀ vs H Q E,sp vs H Q E->vs.length=ps.length)
  (hbody:∀ (cdv:Value) (A:Around) (outer:List Env) (s:Shared) (H:Hp) (vs:List V) (Q:VK) (E:XK),cu k (A.deeper (envOfC qual (au st) s.heap.objs.size f cdv))->sp vs H Q E→
   ∃ t,jV (bw dk P w K mg base N qual (au st) f cdv A outer s H E).nox (cI st) t/\t { nx:=fun _ H'=>Q .non H',rt:=Q } (d6 N vs) H):bB P w K mg base dk (k+1) f fd ps sp:=by
 obtain⟨oc,od,kV,doc,pm,an,cdv,ct,osl,rfl,lk,hcd⟩:=F.ex
 refine vV lk hcd S len fun A outer s H vs Q E hr hsp=>?_
 obtain⟨t,h,q⟩:=hbody cdv A outer s H vs Q E hr hsp
 exact⟨t,h.nox,q⟩
theorem Fun.binds {x qual:Str} {st:Stmt} {f:Addr} {fd:FuncData} {ps:List Str} (F:Fun K x qual st f fd)
  (h:∀ (kV doc pm:Value) (an:Option Addr) (cdv ct:Value) (us:List Value),us.length=ps.length->bindArgs (PySem.W.fnOf x qual (dS st) (cI st) (au st) .none kV doc pm an cdv ct) ⟨us,[]⟩=pure (ps.zip us)):aP K fd ps []:=by
 obtain⟨oc,od,kV,doc,pm,an,cdv,ct,osl,rfl,lk,hcd⟩:=F.ex
 exact .all (h kV doc pm an cdv ct)
theorem vU {x qual:Str} {st:Stmt} {f:Addr} {oc:Value} {od an:Option Addr} {osl:Array (Option Value)} {kV doc pm cdv ct:Value} (l:K.lookup f=some ⟨oc,od,.func (PySem.W.fnOf x qual (dS st) (cI st) (au st) .none kV doc pm an cdv ct),osl⟩)
  (c:PySem.W.codeIn K cdv qual=true) (k:PySem.W.keepIn K (.ref f)=true):Fun K x qual st f (PySem.W.fnOf x qual (dS st) (cI st) (au st) .none kV doc pm an cdv ct):=⟨⟨oc,od,kV,doc,pm,an,cdv,ct,osl,rfl,l,c⟩,k⟩
end
theorem zp {A:Around} {k:Nat} (hr:cu k A):A.units+1 < cLine:=Nat.lt_of_le_of_lt (Nat.add_le_add_left (by decide:1≤64) _) hr.units
theorem aV {n:Nat} (h:n≤1000):n < sizeLine:=Nat.lt_of_le_of_lt h (by decide)
section
variable {X:Cx}
theorem pv (i:Nat) {x:Str} {pos:Pos} (hN:X.N[i]?=some x:=by rfl) (hv:DV X.env.scope x:=by first | exact Or.inl rfl | exact Or.inr (Or.inl rfl) | exact Or.inr (Or.inr rfl)) (hd:(x == ("__debug__" : Str))=false:=by decide)
  (hcd:(x == ("__classdict__" : Str))=false:=by decide):PE X (.Name x pos) (zV i):=A2 hN hv hd hcd
end
theorem cU {A B:Prop} (h:B):if false=true then A else B:=by
 rw [if_neg Bool.false_ne_true]
 exact h
theorem fj {A B:Prop} (h:A):if true=true then A else B:=by
 rw [if_pos rfl]
 exact h
theorem rA {c A B:Prop} [Decidable c] (h1:c->A) (h2:¬ c->B):if c then A else B:=by
 by_cases h:c
 ·rw [if_pos h]
  exact h1 h
 ·rw [if_neg h]
  exact h2 h
theorem iG {c A B:Prop} [Decidable c] (hc:c) (h:B):if (!decide c)=true then A else B:=by
 rw [decide_eq_true hc]
 exact cU h
def aS (H H':Hp):Prop:=∀ b o,H b=some o->H' b=some o
theorem aS.refl (H:Hp):aS H H:=fun _ _ h=>h
theorem aS.trans {H H1 H2:Hp} (a:aS H H1) (b:aS H1 H2):aS H H2:=fun c o h=>b c o (a c o h)
theorem aS.seq {K:PySem.W.Frag} {H H':Hp} {a:Addr} {xs:List V} (e:aS H H') (h:aR K H a xs):aR K H' a xs:=by
 rcases h with (h | ⟨o,h⟩) | h
 ·exact .inl (.inl (e _ _ h))
 ·exact .inl (.inr ⟨o,e _ _ h⟩)
 ·exact .inr h
end L2
set_option maxHeartbeats 4000000
namespace B
open PySem L2 PyProof.Rows
theorem pX {c A B:Prop} [Decidable c] (hc:¬ c) (h:A):if (!decide c)=true then A else B:=by
 have e:(!decide c)=true:=by rw [decide_eq_false hc];rfl
 rw [if_pos e];exact h
theorem cW {c A B:Prop} [Decidable c] (hc:c) (h:A):if decide c=true then A else B:=by
 rw [if_pos (decide_eq_true hc)];exact h
theorem bP {c A B:Prop} [Decidable c] (hc:¬ c) (h:B):if decide c=true then A else B:=by
 have e:¬ decide c=true:=by rw [decide_eq_false hc];intro z;cases z
 rw [if_neg e];exact h
theorem DC {b:Bool} {A B:Prop} (hb:b=true) (h:A):if b=true then A else B:=by rw [if_pos hb];exact h
theorem vH {b:Bool} {A B:Prop} (hb:b=false) (h:B):if b=true then A else B:=by
 rw [if_neg (by rw [hb];intro z;cases z)];exact h
def fG (A B:String):Option Bool:=if (Value.type A == Value.type B)=true then some true else if PySem.W.kitMeta B=true then (fastBuiltinMro A).map (·.contains (.type B)) else none
theorem oO {K:PySem.W.Frag} {A B:String} {b:Bool} (h:fG A B=some b):PySem.W.kitOne K (.type A) (.type B)=some b:=h
inductive Ty (H:Hp):V->String->Prop where
 | non:Ty H .non "NoneType"
 | bl (b:Bool):Ty H (.bl b) "bool"
 | int (i:Int):Ty H (.int i) "int"
 | str (x:Str):Ty H (.str x) "str"
 | lst {a:Addr} {xs:List V} (e:H a=some (.lst xs)):Ty H (.ref a) "list"
 | tup {a:Addr} {xs:List V} (e:H a=some (.tup xs)):Ty H (.ref a) "tuple"
theorem Ty.of {H:Hp} {v:V} {n:String} (K:PySem.W.Frag) (h:Ty H v n):iz K H v (.type n):=by
 cases h with
 | non=>exact .non
 | bl b=>exact .bl b
 | int i=>exact .int i
 | str x=>exact .str x
 | lst e=>exact .lst e
 | tup e=>exact .tup e
def EZ:List V->Hp->VK->Prop:=fun xs H Q=>∃ x n m b,xs=[x,.ty n]/\Ty H x m/\fG m n=some b/\Q (.bl b) H
theorem eW {X:Cx}:dj X (.builtin "isinstance") EZ:=by
 intro pins s σ H xs us Q I r h
 obtain⟨x,n,m,b,rfl,ty,e,q⟩:=h
 obtain⟨u,u2,rfl,rx,ry⟩:=j7 r
 obtain rfl:u2=Value.type n:=ry
 exact rB I rx (ty.of X.K) (oO e) fun tk=>⟨.bl b,H,I.tok tk,rfl,q⟩
def EF:V->Bool
 | .int _=>true
 | _=>false
def GP (n:String):Bool:=n == "tuple"
structure aX (t:Addr) (H H':Hp):Prop where
 keep:∀ b o,b≠t->H b=some o->H' b=some o
 tp:∃ xs,H t=some (.lst xs)
 tp':∃ xs,H' t=some (.lst xs)
theorem aX.trans {t:Addr} {H H1 H2:Hp} (a:aX t H H1) (b:aX t H1 H2):aX t H H2:=⟨fun c o n e=>b.keep c o n (a.keep c o n e),a.tp,b.tp'⟩
theorem aX.up {t:Addr} {H:Hp} {xs ys:List V} (h:H t=some (.lst xs)):aX t H (upd H t (.lst ys)):=⟨fun c o n e=>by rw [av n];exact e,⟨_,h⟩,⟨_,ag⟩⟩
theorem ai {H:Hp} {p:Addr} (h:H p=none) (o:HO):aS H (upd H p o):=fun b u q=>by rw [av (aA q h)];exact q
theorem aX.same {t:Addr} {H H':Hp} (s:aS H H') (h:∃ xs,H t=some (.lst xs)):aX t H H':=⟨fun c o _ e=>s c o e,h,let ⟨xs,e⟩:=h;⟨xs,s _ _ e⟩⟩
theorem aX.new {t p:Addr} {H:Hp} (h:∃ xs,H t=some (.lst xs)) (n:H p=none) (o:HO):aX t H (upd H p o):=aX.same (ai n o) h
def Th (H:Hp) (v:V):Prop:=∃ n,Ty H v n/\∀ a xs,v=.ref a->H a=some (.tup xs)->∀ x∈xs,∃ m,Ty H x m
theorem E6 {xs:List V} {r:Int} (h0:0≤r) (h1:r < (xs.length:Int)):∃ v,jN xs r=some v/\v∈xs:=by
 have hk:r.toNat < xs.length:=by omega
 have ek:r=((r.toNat:Nat):Int):=by omega
 have q:jN xs ((r.toNat:Nat):Int)=some xs[r.toNat]:=bM (List.getElem?_eq_getElem hk)
 rw [← ek] at q
 exact⟨_,q,List.getElem_mem hk⟩
theorem Dg {ns:List Int} {r:Int} (h0:0≤r) (h1:r < (ns.length:Int)):∃ z:Int,jN (ns.map V.int) r=some (.int z):=by
 obtain⟨v,h,hv⟩:=E6 (xs:=ns.map V.int) h0 (by rw [List.length_map];exact h1)
 obtain⟨z,_,rfl⟩:=List.mem_map.mp hv
 exact⟨z,h⟩
structure Cb (H:Hp) (t s:Addr):Prop where
 ex:∃ (ns:List Int) (p q r:Int),H t=some (.lst [.ref s,.int p,.int q,.int r])/\H s=some (.lst (ns.map V.int))/\s≠t/\ns.length≤63/\0≤p/\0≤q/\0≤r
def Eg (K:PySem.W.Frag):Sp:=fun vs H Q _=>∃ (a:Addr) (ns:List Int),vs=[.ref a]/\aR K H a (ns.map V.int)/\∀ (t s:Addr) (H':Hp),aS H H'->H t=none->H s=none->Cb H' t s->Q (.ref t) H'
def Ei:Sp:=fun vs H Q _=>∃ (t s:Addr) (m:Int),vs=[.ref t,.int m]/\Cb H t s/\0 < m/\m < 1073741824/\∀ (r:Int) (xs:List V),0≤r->r < m->Cb (upd H t (.lst xs)) t s->Q (.int r) (upd H t (.lst xs))
def Eh (K:PySem.W.Frag):Sp:=fun vs H Q _=>∃ (a:Addr) (ns:List Int),vs=[.ref a]/\aR K H a (ns.map V.int)/\ns.length≤63/\∀ H',Q (.bl true) H'
theorem ng {a b:Int} (ha:0≤a) (hb:0 < b):Int.gcd b (a % b)=Int.gcd a b:=by
 obtain⟨n,rfl⟩:=Int.eq_ofNat_of_zero_le ha
 obtain⟨m,rfl⟩:=Int.eq_ofNat_of_zero_le (Int.le_of_lt hb)
 rw [← Int.natCast_emod]
 show Nat.gcd m (n % m)=Nat.gcd n m
 rw [Nat.gcd_comm m,← Nat.gcd_rec,Nat.gcd_comm]
theorem o2 (i:Int):(if i < 0 then -i else i)=(i.natAbs:Int):=by split <;> omega
end B
namespace B
open PySem PySem.Spec L2 PyProof.Rows
mutual
inductive bW (K:PySem.W.Frag) (H:Hp):V->PyData->Prop where
 | non:bW K H .non .none
 | bl (b:Bool):bW K H (.bl b) (.bool b)
 | int (i:Int):bW K H (.int i) (.int i)
 | str (x:Str):bW K H (.str x) (.str x)
 | lst {a:Addr} {xs:List V} {ds:List PyData} (e:aR K H a xs) (h:bu K H xs ds):bW K H (.ref a) (.list ds)
 | tup {a:Addr} {xs:List V} {ds:List PyData} (e:bo K H a xs) (h:bu K H xs ds):bW K H (.ref a) (.tuple ds)
inductive bu (K:PySem.W.Frag) (H:Hp):List V->List PyData->Prop where
 | nil:bu K H [] []
 | cons {x:V} {d:PyData} {xs:List V} {ds:List PyData} (h:bW K H x d) (t:bu K H xs ds):bu K H (x :: xs) (d :: ds)
end
mutual
theorem bW.reads {X:Cx} {pins:List (Addr×Obj)} {σ:L2.St} {H:Hp} {s:Shared} (I:Inv X pins σ H s):∀ {v:V} {d:PyData} {u:Value},bW X.K H v d->aY v u->∃ as,Reads s.heap u d as
 | _,_,u,.non,r=>by cases (show u=Value.none from r);exact⟨_,.none⟩
 | _,_,u,.bl b,r=>by cases (show u=Value.bool b from r);exact⟨_,.bool b⟩
 | _,_,u,.int i,r=>by obtain⟨t,q⟩:=(show ∃ t,u=Value.int i t from r);cases q;exact⟨_,.int i t⟩
 | _,_,u,.str x,r=>by obtain⟨t,q⟩:=(show ∃ t,u=Value.str x t from r);cases q;exact⟨_,.str x t⟩
 | _,_,u,.lst (a:=a) e h,r=>by
  cases (show u=Value.ref a from r)
  obtain⟨its,rv,⟨o,n,ho,hc,_,hd⟩,_⟩:=I.list e
  obtain⟨as,q⟩:=bu.reads I h rv
  exact⟨_,.list ho hc hd (by simpa using q)⟩
 | _,_,u,.tup (a:=a) e h,r=>by
  cases (show u=Value.ref a from r)
  obtain⟨its,rv,⟨o,ho,hc,n,hd⟩,_⟩:=I.tuple e
  obtain⟨as,q⟩:=bu.reads I h rv
  exact⟨_,.tuple ho hc hd (by simpa using q)⟩
theorem bu.reads {X:Cx} {pins:List (Addr×Obj)} {σ:L2.St} {H:Hp} {s:Shared} (I:Inv X pins σ H s):∀ {vs:List V} {ds:List PyData} {us:List Value},bu X.K H vs ds->aZ vs us->∃ as,ReadsAll s.heap us ds as
 | _,_,_,.nil,.nil=>⟨_,.nil⟩
 | _,_,_,.cons h t,.cons r q=>
  let ⟨_,a⟩:=bW.reads I h r
  let ⟨_,b⟩:=bu.reads I t q
  ⟨_,.cons a b⟩
end
structure qw (d:PyData):Prop where
 sh:d.showable=true
 nd:d.hasDict=false
 sz:d.shown.length≤sizeLine
 dp:d.depth≤16
def C7 (K:PySem.W.Frag):List V->Hp->VK->Prop:=fun xs H Q=>∃ v d,xs=[v]/\bW K H v d/\qw d/\Q (.str d.shown) H
theorem kI {X:Cx} {k:Nat} (hr:cu k X.A):dj X (.builtin "repr") (C7 X.K):=by
 intro pins s σ H xs us Q I r h
 obtain⟨v,d,rfl,dp,sh,q⟩:=h
 obtain⟨u,rfl,ru⟩:=fz r
 cases dp with
 | non=>cases (show u=Value.none from ru);exact PySem.P.repr_of_none ⟨.str "None", H,I.tok _,⟨_,rfl⟩,q⟩
 | bl b=>cases (show u=Value.bool b from ru);exact PySem.P.repr_of_bool ⟨.str _,H,I.tok _,⟨_,rfl⟩,q⟩
 | int i=>
  obtain⟨t,e⟩:=(show ∃ t,u=Value.int i t from ru)
  cases e
  exact PySem.P.repr_of_int (of_decide_eq_true sh.sh) ⟨.str _,H,I.tok _,⟨_,rfl⟩,q⟩
 | str x=>
  obtain⟨t,e⟩:=(show ∃ t,u=Value.str x t from ru)
  cases e
  exact PySem.P.repr_of_str ⟨.str _,H,I.tok _,⟨_,rfl⟩,q⟩ sh.sz
 | @lst a ys ds e h=>
  cases (show u=Value.ref a from ru)
  obtain⟨as,rd⟩:=bW.reads I (.lst e h) (show aY (.ref a) (.ref a) from rfl)
  exact repr_of_reads' rd sh.sh (fun z=>by rw [sh.nd] at z;cases z) hr.gd (by have:=hr.units;have:=sh.dp;omega) (fun _ _ z=>z) (fun h' u tk hk=>⟨.str _,H,I.kept hk,⟨_,rfl⟩,q⟩) sh.sz
 | @tup a ys ds e h=>
  cases (show u=Value.ref a from ru)
  obtain⟨as,rd⟩:=bW.reads I (.tup e h) (show aY (.ref a) (.ref a) from rfl)
  exact repr_of_reads' rd sh.sh (fun z=>by rw [sh.nd] at z;cases z) hr.gd (by have:=hr.units;have:=sh.dp;omega) (fun _ _ z=>z) (fun h' u tk hk=>⟨.str _,H,I.kept hk,⟨_,rfl⟩,q⟩) sh.sz
end B
namespace B
open PySem PySem.Spec L2 PyProof.Rows
def fq (X:Cx) (N':List Str) (scope:Scope) (cl:List (Str×Addr)) (C:Addr) (fp:List Addr) (pins:List (Addr×Obj)) (s:Shared) (H:Hp):Cx:=
 { X with N:=N',s₀:=s,H₀:=H,env:=compEnvC scope cl C X.env,outer:=X.stack,stack:=X.stack,ex:=fp,fn:=fun _=>false,pn:=X.pn++pins,xe:=fun _ _=>False }
def cq (X:Cx) (scope:Scope) (cl:List (Str×Addr)):List Str->List (Option Nat)->Prop
 | [],[]=>True
 | _ :: N,none :: r=>cq X scope cl N r
 | x :: N,some j :: r=>X.N[j]?=some x/\X.env.kindOf x=some .cell/\(compEnvC scope cl 0 X.env).kindOf x=some .cell/\cl.lookup x=X.env.cells.lookup x/\cq X scope cl N r
 | _,_=>False
def bQ (src:List (Option Nat)) (σ:L2.St):L2.St:=src.map fun o=>o.bind fun j=>(σ[j]?).getD none
theorem cq.len {X:Cx} {scope:Scope} {cl:List (Str×Addr)}:∀ {N:List Str} {src:List (Option Nat)},cq X scope cl N src->N.length=src.length
 | [],[],_=>rfl
 | _ :: _,none :: _,h=>congrArg (·+1) (cq.len (X:=X) (scope:=scope) (cl:=cl) h)
 | _ :: _,some _ :: _,h=>congrArg (·+1) (cq.len (X:=X) (scope:=scope) (cl:=cl) h.2.2.2.2)
theorem cq.at {X:Cx} {scope:Scope} {cl:List (Str×Addr)} {σ:L2.St}:∀ {N:List Str} {src:List (Option Nat)} {i:Nat} {x:Str} {v:V},cq X scope cl N src->N[i]?=some x->(bQ src σ)[i]?=some (some v)→
  ∃ j:Nat,X.N[j]?=some x/\σ[j]?=some (some v)/\X.env.kindOf x=some .cell/\(compEnvC scope cl 0 X.env).kindOf x=some .cell/\cl.lookup x=X.env.cells.lookup x
 | y :: N,none :: r,0,x,v,h,e,q=>by cases q
 | y :: N,none :: r,i+1,x,v,h,e,q=>cq.at (N:=N) (src:=r) (i:=i) h e q
 | y :: N,some j :: r,0,x,v,h,e,q=>by
  cases e
  refine⟨j,h.1,?_,h.2.1,h.2.2.1,h.2.2.2.1⟩
  have q':some ((σ[j]?).getD none)=some (some v):=q
  injection q' with q'
  cases z:σ[j]? with
  | none=>rw [z] at q';cases q'
  | some o=>rw [z] at q';exact congrArg some q'
 | y :: N,some j :: r,i+1,x,v,h,e,q=>cq.at (N:=N) (src:=r) (i:=i) h.2.2.2.2 e q
def di (X:Cx) (scope:Scope) (cl:List (Str×Addr)):Prop:=
 (∀ x,((compEnvC scope cl 0 X.env).kindOf x=some .cell∨(compEnvC scope cl 0 X.env).kindOf x=some .free)->∃ c,cl.lookup x=some c)/\∀ x c,cl.lookup x=some c->X.env.cells.lookup x=some c
def hW (X:Cx):List (Str×Addr)->Prop
 | []=>True
 | y :: r=>X.env.cells.lookup y.1=some y.2/\hW X r
theorem hW.mem {X:Cx}:∀ {cl:List (Str×Addr)},hW X cl->∀ y∈cl,X.env.cells.lookup y.1=some y.2
 | [],_,y,h=>by cases h
 | z :: r,k,y,h=>by
  rcases List.mem_cons.mp h with e | h
  ·rw [e];exact k.1
  ·exact hW.mem k.2 y h
theorem mem_of_lookup {α:Type} {x:Str} {v:α}:∀ {l:List (Str×α)},l.lookup x=some v->(x,v)∈l
 | [],h=>by cases h
 | (y,w) :: r,h=>by
  rw [List.lookup_cons] at h
  cases e:x == y with
  | true=>
   rw [e] at h
   have e':x=y:=eq_of_beq e
   cases h
   rw [e'];exact List.mem_cons_self
  | false=>
   rw [e] at h
   exact List.mem_cons_of_mem _ (mem_of_lookup h)
theorem bT {X:Cx} {scope:Scope} {cl:List (Str×Addr)} (h1:((relabel scope X.env).names.all fun y=>!(y.2 == .cell || y.2 == .free) || (cl.lookup y.1).isSome)=true) (h2:hW X cl):di X scope cl:=by
 refine⟨fun x h=>?_,fun x c e=>h2.mem _ (mem_of_lookup e)⟩
 have h3:=List.all_eq_true.mp h1
 have key:∀ k:NameKind,(k=.cell∨k=.free)->(relabel scope X.env).names.lookup x=some k->∃ c,cl.lookup x=some c:=fun k hk e=>by
  have q:=h3 _ (mem_of_lookup e)
  have z:(k == NameKind.cell || k == NameKind.free)=true:=by rcases hk with rfl | rfl <;> rfl
  simp only [z,Bool.not_true,Bool.false_or] at q
  exact Option.isSome_iff_exists.mp q
 rcases h with h | h
 ·exact key _ (.inl rfl) h
 ·exact key _ (.inr rfl) h
def hZ (σ σ':L2.St):Prop:=σ'.length=σ.length/\∀ (i:Nat) (v:V),σ[i]?=some (some v)->σ'[i]?=some (some v)
theorem hZ.set {σ:L2.St} {i:Nat} {v:V} (h:σ[i]?=some none):hZ σ (σ.set i (some v)):=by
 refine⟨List.length_set,fun j u e=>?_⟩
 have ne:i≠j:=fun z=>by subst z;rw [h] at e;cases e
 rw [List.getElem?_set_ne ne];exact e
section
variable {X:Cx} {N':List Str} {scope:Scope} {cl:List (Str×Addr)} {src:List (Option Nat)} {pins:List (Addr×Obj)} {σ:L2.St} {H:Hp} {s:Shared} {fp:List Addr}
theorem Cx.comp_ok {C:Addr} (I:Inv X pins σ H s) (hC:s.heap.objs.size≤C) (hk:scope.kind=.function) (hf:∀ b∈fp,eG X pins H b) (hfs:∀ b∈fp,b < s.heap.objs.size) (hc:di X scope cl) :
  (fq X N' scope cl C fp pins s H).Ok where
 mod:=I.ok.mod
 kind:=hk
 glob:=I.ok.glob
 blt:=I.ok.blt
 above:=hC
 inj:=fun x y c e1 e2=>I.ok.inj x y c (hc.2 x c e1) (hc.2 y c e2)
 has:=fun x h=>hc.1 x h
 cab:=fun x c z=>nomatch z
 hd:=I.ok.hd
 frames:=I.ok.frames
 stk:=.inl rfl
 exf:=fun b hb=>⟨fun z=>by have:=hfs b hb;rw [show b=C from z] at this;exact absurd (Nat.lt_of_lt_of_le this hC) (Nat.lt_irrefl _),fun x c e=>(hf b hb).2.2.2.2.1 x c (hc.2 x c e)⟩
 bs:=I.bs
 bsz:=Nat.le_trans I.ok.bsz I.sz
 noex:=fun b o e hb=>by
  rcases (hf b hb).2.2.2.1 with z | z
  ·exact I.ok.noex b o e z
  ·rw [(I.ok.bs b o e).1] at z;cases z
 exfs:=fun b hb z=>by
  rcases List.mem_cons.mp (I.stkSub b z) with q | q
  ·exact (hf b hb).2.1 q
  ·exact (hf b hb).2.2.1 q
 funs:=I.stack
 frf:=I.stkFree
theorem Inv.comp {C:Addr} {h₁:Heap} {m:Str->Option Value} {tk:Nat} (I:Inv X pins σ H s) (hC:C=s.heap.objs.size) (hns:h₁.Ns C m) (keep:∀ b o,s.heap.get? b=some o->h₁.get? b=some o)
  (hk:scope.kind=.function) (hf:∀ b∈fp,eG X pins H b) (hfs:∀ b∈fp,b < s.heap.objs.size) (hc:di X scope cl) (hfree:cq X scope cl N' src) :
  Inv (fq X N' scope cl C fp pins s H) [] (bQ src σ) H { s with heap:=h₁,toks:=tk } where
 ok:=Cx.comp_ok I (Nat.le_of_eq hC.symm) hk hf hfs hc
 os:=rfl
 bare:=I.bare
 base:=Un.kept keep
 loc:=⟨m,hns,fun i x v e1 e2 _=>by
  obtain⟨j,hj,hσ,kc,kc',hl⟩:=hfree.at e1 e2
  obtain⟨m0,hn0,hl0⟩:=I.loc
  obtain⟨u,r,l⟩:=hl0 j x v hj hσ (Or.inr (Or.inl kc))
  rcases l with ⟨k,_⟩ | ⟨k,c,e,o,ho,hd⟩
  ·rw [kc] at k;cases k
  ·exact⟨u,r,.inr ⟨.inl kc',c,hl.trans e,o,keep c o ho,hd⟩⟩⟩
 cell:=fun x c e=>let ⟨v,o,ho,hd⟩:=I.cell x c (hc.2 x c e);⟨v,o,keep _ _ ho,hd⟩
 free:=I.hok.fresh (Nat.le_of_eq hC.symm)
 freeC:=fun x c e=>I.freeC x c (hc.2 x c e)
 pin:=fun p hp=>by
  have hp':p∈X.pn++pins:=by
   have z:p∈(X.pn++pins)++[]:=hp
   rw [List.append_nil] at z;exact z
  obtain⟨e,n,ne,nf,d⟩:=I.pin p hp'
  refine⟨keep _ _ e,n,fun z=>?_,fun z=>?_,d⟩
  ·have:=Heap.lt_size e;rw [show p.1=C from z,hC] at this;exact Nat.lt_irrefl _ this
  ·rcases List.mem_cons.mp (I.stkSub _ z) with q | q
   ·exact ne q
   ·exact nf q
 hok:=I.hok.kept keep
 len:=by show (bQ src σ).length=N'.length;unfold bQ;rw [List.length_map,hfree.len]
end
def zH (X:Cx) (ifs:List Expr) (t:TT):Prop:=
 ∀ (pins:List (Addr×Obj)) (s:Shared) (σ:L2.St) (H:Hp) (Q:Bool->Hp->Prop),Inv X pins σ H s->t σ H Q→
  wpAny (model X.prog X.w) X.A (forIn ifs true fun c r=>if r=true then do let ok ← isTrue c X.env (eval c X.env);pure (ForInStep.yield ok) else pure (ForInStep.yield r)) (TP X pins σ Q) X.xe s
def CI:TT:=fun _ H Q=>Q true H
theorem xj {X:Cx}:zH X [] CI:=fun _ _ _ H _ I h=>wpAny_tests_nil ⟨H,I,h⟩
theorem xi {X:Cx} {c:Expr} {t:TT} (h:PT X c t):zH X [c] t:=fun pins s σ H Q I q=>wpAny_tests_one (h pins s σ H Q I q)
section
variable {prog:Program} {w:World} {A:Around} {R:Result->Shared->Prop} {s:Shared}
theorem rN {elt target iter:Expr} {ifs:List Expr} {scope:Scope} {pos:Pos} {it acc:Value} {env:Env} (I:Nat->Shared->Prop)
  (turn:∀ n s,I n s->wpAny (model prog w) A (pyNext it) (fun r s₁=>match r with
   | none=>R (.ok .next) s₁
   | some v=>wpAny (model prog w) A (letOwnedTupleGo target it v) (fun _ s₁'=>wpAny (model prog w) A (assign target env v) (fun _ s₂=>
     wpAny (model prog w) A (forIn ifs true fun c r=>if r=true then do let ok ← isTrue c env (eval c env);pure (ForInStep.yield ok) else pure (ForInStep.yield r)) (fun ok s₃=>
      if ok=true then wpAny (model prog w) A (eval elt env) (fun x s₄=>
       wpAny (model prog w) A (call (.builtin "list.append") [acc,x]) (fun _ s₅=>∃ m,m < n/\I m s₅) (fun _ _=>False) s₄) (fun _ _=>False) s₃
      else ∃ m,m < n/\I m s₃) (fun _ _=>False) s₂) (fun _ _=>False) s₁') (fun _ _=>False) s₁) (fun _ _=>False) s)
  (n:Nat) (h:I n s):codeAny (model prog w) A (.compLoop (.ListComp elt [⟨target,iter,ifs,0⟩] scope pos) 0 it acc env) R s:=by
 refine codeAny_loop rfl I (fun n s hI=>?_) n h
 show wpAny _ A ((compTurn (.ListComp elt [⟨target,iter,ifs,0⟩] scope pos) 0 it acc env).onRaise (fun x=>do noteFrame x env;theTreesLotGoes x)) _ _ s
 refine wpAny_noted ?_
 rw [compTurn_list]
 refine wpAny_bind (wpAny_standAt (wpAny_bind (wpAny_mono (turn n s hI) (fun r s₁ h₁=>?_) fun _ _ h'=>h'.elim)))
 cases r with
 | none=>exact wpAny_pure h₁
 | some v=>
  refine wpAny_bind (wpAny_mono h₁ (fun _ s₁' h₁'=>?_) fun _ _ h'=>h'.elim)
  refine wpAny_bind (wpAny_mono h₁' (fun _ s₂ h₂=>wpAny_bind (wpAny_mono h₂ (fun ok s₃ h₃=>?_) fun _ _ h'=>h'.elim)) fun _ _ h'=>h'.elim)
  cases ok with
  | false=>exact wpAny_pure ⟨rfl,h₃⟩
  | true=>
   exact wpAny_bind (wpAny_bind (wpAny_mono h₃ (fun x s₄ h₄=>wpAny_bind (wpAny_mono h₄ (fun _ s₅ h₅=>wpAny_pure (wpAny_pure ⟨rfl,h₅⟩)) fun _ _ h'=>h'.elim)) fun _ _ h'=>h'.elim))
end
structure nK (X:Cx) (pins:List (Addr×Obj)) (H:Hp) (C:Addr):Prop where
 no:H C=none
 lo:C≠X.env.locals
 fs:C∉X.fs
 old:X.s₀.heap.get? C=none
 ce:∀ x c,X.env.cells.lookup x=some c->c≠C
 pn:∀ p∈X.pn++pins,p.1≠C
theorem nK.turned {X:Cx} {pins:List (Addr×Obj)} {σ:L2.St} {H:Hp} {C:Addr} {s:Shared} (o:nK X pins H C) (I:Inv X pins σ H s) {h':Heap} (sb:Heap.SameBut C s.heap h'):Inv X pins σ H { s with heap:=h' }:=
 I.turned (it:=C) (t':=s.toks) (fun b u hb e=>sb.extBut b u hb e) o.no o.lo (.inr o.old) o.ce o.pn
def iC (wi:TI) (src:List (Option Nat)) (g:TG) (tt:TT) (te:TE):TE:=fun σ H Q=>wi σ H fun J H1=>∀ D,H1 D=none->∃ W:Nat->Nat->List V->Hp->Prop,
 (∃ m,W 0 m [] (upd H1 D (.lst [])))/\∀ i m ys H,W i m ys H->(J.stop i H/\Q (.ref D) H)∨(J.go i H/\∀ x H',J.yld i H x H'->g x (bQ src σ) H' fun σ2 H2=>hZ (bQ src σ) σ2/\tt σ2 H2 fun ok H3=>
  if ok=true then te σ2 H3 fun y H4=>H4 D=some (.lst ys)/\ys.length < sizeLine/\∃ m',m' < m/\W (i+1) m' (ys++[y]) (upd H4 D (.lst (ys++[y]))) else ∃ m',m' < m/\W (i+1) m' ys H3)
section
variable {X:Cx} {N':List Str} {scope:Scope} {cl:List (Str×Addr)} {src:List (Option Nat)} {tg iter elt:Expr} {ifs:List Expr} {wi:TI} {g:TG} {tt:TT} {te:TE} {pos:Pos}
theorem nA (hc:X.calm=true) (hi:PI X tg iter wi) (hg:∀ C fp pins s H,PG (fq X N' scope cl C fp pins s H) tg g) (ht:∀ C fp pins s H,zH (fq X N' scope cl C fp pins s H) ifs tt)
  (he:∀ C fp pins s H,PE (fq X N' scope cl C fp pins s H) elt te) (hfree:cq X scope cl N' src) (hcell:∀ x∈scope.names,x.2≠.cell) (hkind:scope.kind=.function) (hcl:di X scope cl)
  {RR:Value->Addr->Result->Shared->Prop} {pins:List (Addr×Obj)} {s:Shared} {σ:L2.St} {H:Hp} {Q:VK} (I:Inv X pins σ H s) (h:iC wi src g tt te σ H Q)
  (hRR:∀ D C H' s',Q (.ref D) H'->(∃ m,s'.heap.Ns C m)->Inv X pins σ H' s'->nK X pins H' C->RR (.ref D) C (.ok .next) s') :
  wpAny (model X.prog X.w) X.A (eval iter X.env) (fun x s₁=>wpAny (model X.prog X.w) X.A (pyIter x) (fun itv s₂=>wpAny (model X.prog X.w) X.A (newList []) (fun acc s₃=>
   wpAny (model X.prog X.w) X.A (newFunctionEnv scope X.env.globals cl [] X.env.qual none .none (some X.env)) (fun cenv s₄=>
    codeAny (model X.prog X.w) X.A (.compStart (.ListComp elt [⟨tg,iter,ifs,0⟩] scope pos) 0 itv acc { cenv with scope:=relabel scope X.env }) (RR acc cenv.locals) s₄) X.xe s₃) X.xe s₂) X.xe s₁) X.xe s:=by
 refine bX (hi pins s σ H _ I h) fun v s1 h1=>bX h1 fun itv s2 h2=>?_
 obtain⟨it,fp,tn,J,H2,e,I2,T,st2,f2,h2⟩:=h2
 subst e
 refine wpAny_newObj_type ?_ (by show 0≤sizeLine;exact Nat.zero_le _)
 have hD:H2 s2.heap.objs.size=none:=I2.fresh
 have I3:Inv X pins σ (upd H2 s2.heap.objs.size (.lst [])) { s2 with heap:=s2.heap.push { cls:=.type "list", data:=.seq ([]:List Value).toArray } }:=I2.lnew (t':=s2.toks) (its:=[]) .nil (Nat.zero_le _)
 obtain⟨W,⟨m0,w0⟩,turn⟩:=h2 s2.heap.objs.size hD
 generalize hDe:s2.heap.objs.size=D at I3 turn w0 hD ⊢
 have st3:tn 0 (s2.heap.push { cls:=.type "list", data:=.seq ([]:List Value).toArray }):=T.keep _ _ _ st2 fun b _ o e=>Heap.get?_push_of_some _ e
 have f3:∀ b∈fp,eG X pins (upd H2 D (.lst [])) b/\b < (s2.heap.push { cls:=.type "list", data:=.seq ([]:List Value).toArray }).objs.size:=fun b hb=>by
  obtain⟨o,e,_⟩:=T.obj _ _ st2 b hb
  have l:=Heap.lt_size e
  rw [hDe] at l
  refine⟨⟨?_,(f2 b hb).2⟩,by rw [Heap.size_push,hDe];exact Nat.lt_succ_of_lt l⟩
  rw [av (Nat.ne_of_lt l)];exact (f2 b hb).1
 generalize (s2.heap.push { cls:=.type "list", data:=.seq ([]:List Value).toArray })=h3 at I3 st3 f3 ⊢
 refine wpAny_newFunctionEnv hcell (by intro y hy;simp at hy) (fun h₄ hns₄ hsb₄=>?_) hkind
 have keep:∀ b o,h3.get? b=some o->h₄.get? b=some o:=fun b o e=>hsb₄.extBut b o (Nat.ne_of_lt (Heap.lt_size e)) (Heap.get?_push_of_some _ e)
 have I4:=Inv.comp (C:=h3.objs.size) (fp:=fp) (tk:=s2.toks+([]:List (Str×Value)).length) I3 rfl hns₄ keep hkind (fun b hb=>(f3 b hb).1) (fun b hb=>(f3 b hb).2) hcl hfree
 have st4:tn 0 h₄:=T.keep _ _ _ st3 fun b _ o e=>keep b o e
 have fpn:∀ b∈fp,(upd H2 D (.lst [])) b=none:=fun b hb=>(f3 b hb).1.1
 have hn3:∀ b∈fp,b≠h3.objs.size:=fun b hb=>Nat.ne_of_lt (f3 b hb).2
 have stat:∀ {H':Hp},(∀ b∈fp,H' b=none)->∀ b∈fp,eG (fq X N' scope cl h3.objs.size fp pins { s2 with heap:=h3 } (upd H2 D (.lst []))) [] H' b:=fun hn b hb=>
  ⟨hn b hb,hn3 b hb,I4.ok.exfs b hb,.inl hb,fun x c e=>(f3 b hb).1.2.2.2.2.1 x c (hcl.2 x c e),fun p hp=>(f3 b hb).1.2.2.2.2.2 p (by
   have z:p∈(X.pn++pins)++[]:=hp
   rw [List.append_nil] at z;exact z)⟩
 have back:∀ {H':Hp} {s':Shared},Inv (fq X N' scope cl h3.objs.size fp pins { s2 with heap:=h3 } (upd H2 D (.lst []))) [] (bQ src σ) H' s'->(∃ m,s'.heap.Ns h3.objs.size m)/\Inv X pins σ H' s'/\nK X pins H' h3.objs.size:=fun {H' s'} I'=>by
  have Ib:Inv X pins σ H' s':=I3.call' I'.os I'.base I'.hok I'.bare fun b hb=>⟨(f3 b hb).1.2.2.2.1,(f3 b hb).1.2.1,(f3 b hb).1.2.2.2.2.1,(f3 b hb).1.2.2.2.2.2⟩
  refine⟨let ⟨m,hm,_⟩:=I'.loc;⟨m,hm⟩,Ib,⟨I'.free,fun z=>?_,I3.nofs (Nat.le_refl _),Heap.get?_none_of_le I3.sz,fun x c e z=>?_,fun p hp z=>?_⟩⟩
  ·have:=I3.lt;rw [← z] at this;exact Nat.lt_irrefl _ this
  ·obtain⟨v,o,ho,_⟩:=I3.cell x c e
   have:=Heap.lt_size ho;rw [z] at this;exact Nat.lt_irrefl _ this
  ·obtain⟨e,_⟩:=I3.pin p hp
   have:=Heap.lt_size e;rw [z] at this;exact Nat.lt_irrefl _ this
 have loop:codeAny (model X.prog X.w) X.A (.compLoop (.ListComp elt [⟨tg,iter,ifs,0⟩] scope pos) 0 (.ref it) (.ref D) (compEnvC scope cl h3.objs.size X.env)) (RR (.ref D) h3.objs.size) { s2 with heap:=h₄,toks:=s2.toks+([]:List (Str×Value)).length }:=by
  refine rN (fun n s'=>∃ i ys H',Inv (fq X N' scope cl h3.objs.size fp pins { s2 with heap:=h3 } (upd H2 D (.lst []))) [] (bQ src σ) H' s'/\tn i s'.heap/\(∀ b∈fp,H' b=none)/\W i n ys H') ?_ m0 ⟨0,[],_,I4,st4,fpn,w0⟩
  rintro n s5 ⟨i,ys,H5,I5,st5,fr5,w5⟩
  rcases turn i n ys H5 w5 with ⟨stop,qn⟩ | ⟨go,step⟩
  ·refine bX (T.done (fq X N' scope cl h3.objs.size fp pins { s2 with heap:=h3 } (upd H2 D (.lst []))) rfl rfl rfl hc i [] s5 _ H5 _ I5 (stat fr5) st5 stop) fun r s6 ⟨hr,I6⟩=>?_
   subst hr
   obtain⟨b1,b2,b3⟩:=back I6
   exact hRR D _ H5 s6 qn b1 b2 b3
  ·refine bX (T.item (fq X N' scope cl h3.objs.size fp pins { s2 with heap:=h3 } (upd H2 D (.lst []))) rfl rfl rfl hc i [] s5 _ H5 _ I5 (stat fr5) st5 go) fun r s6 ⟨u,hr,h6⟩=>?_
   subst hr
   refine bX h6 fun _ s7 ⟨x,H7,I7,r7,y7,st7,fr7⟩=>?_
   have I7':=I7.pinned (stat fr7) (T.obj _ _ st7)
   refine bX (hg _ _ _ _ _ _ s7 _ H7 x u _ I7' r7 (step x H7 y7)) fun _ s8 ⟨σ8,H8,I8,ex8,q8⟩=>?_
   refine bX (ht _ _ _ _ _ _ s8 σ8 H8 _ I8 q8) fun ok s9 ⟨H9,I9,q9⟩=>?_
   have again:∀ {ys':List V} {Ha:Hp} {sa:Shared},Inv (fq X N' scope cl h3.objs.size fp pins { s2 with heap:=h3 } (upd H2 D (.lst []))) ([]++gj fp s7.heap) σ8 Ha sa->(∃ m',m' < n/\W (i+1) m' ys' Ha)→
     ∃ m,m < n/\∃ i ys H',Inv (fq X N' scope cl h3.objs.size fp pins { s2 with heap:=h3 } (upd H2 D (.lst []))) [] (bQ src σ) H' sa/\tn i sa.heap/\(∀ b∈fp,H' b=none)/\W i m ys H':=fun {ys' Ha sa} Ia ⟨m',hm,wa⟩=>by
    refine⟨m',hm,i+1,ys',Ha,(Ia.unpinned).weak ex8.1.symm ex8.2,T.keep _ _ _ st7 fun b hb o e=>(Ia.pin (b,o) (List.mem_append_right _ (List.mem_append_right _ (cS hb e)))).1,fun b hb=>?_,wa⟩
    obtain⟨o,e,_⟩:=T.obj _ _ st7 b hb
    exact (Ia.pin (b,o) (List.mem_append_right _ (List.mem_append_right _ (cS hb e)))).2.1
   cases ok with
   | false=>exact again I9 q9
   | true=>
    refine bX (he _ _ _ _ _ _ s9 σ8 H9 _ I9 q9) fun y s10 ⟨yv,H10,I10,r10,q10,hz,wn⟩=>?_
    refine bX (dz _ s10 σ8 H10 (.ref D) [yv] (.ref D) [y] (fun _ Hz=>∃ m',m' < n/\W (i+1) m' (ys++[yv]) Hz) I10 rfl (.cons r10 .nil) ⟨D,ys,yv,rfl,rfl,q10,hz,wn⟩) fun _ s11 ⟨_,H11,I11,_,q11⟩=>?_
    exact again I11 q11
 exact codeAny_compStart_list loop (T.self _ 0 _ _ _ st4 loop)
theorem uT (hc:X.calm=true) (hi:PI X tg iter wi) (hg:∀ C fp pins s H,PG (fq X N' scope cl C fp pins s H) tg g) (ht:∀ C fp pins s H,zH (fq X N' scope cl C fp pins s H) ifs tt)
  (he:∀ C fp pins s H,PE (fq X N' scope cl C fp pins s H) elt te) (hfree:cq X scope cl N' src) (hclos:closureFor scope X.env=pure cl) (hcell:∀ x∈scope.names,x.2≠.cell) (hkind:scope.kind=.function)
  (hnames:∀ x∈scope.names,x.2=.local->scope.names.lookup x.1=some .local) (hcl:di X scope cl) (hs:∀ x,foldedSetIterable iter X.env x=pure x:=by intro _;rfl) :
  PE X (.ListComp elt [⟨tg,iter,ifs,0⟩] scope pos) (iC wi src g tt te):=by
 intro pins s σ H Q I h
 rw [eval_ListComp]
 refine wpAny_comprehension_free (use:=none) rfl hs hclos hkind hnames (nA hc hi hg ht he hfree hcell hkind hcl (RR:=fun acc C=>compPost (model X.prog X.w) X.A X.xe none (EP X pins σ Q) acc C) I h fun D C H' s' q hm hI hb=>?_)
 obtain⟨m,hm⟩:=hm
 exact⟨m,hm,fun h' sb=>⟨.ref D,H',hb.turned hI sb,rfl,q⟩⟩
theorem xq {i:Nat} {x:Str} {pos' pos2:Pos} (hN:X.N.Nodup) (hi':X.N[i]?=some x) (hx:wB X.env.scope x) (hc:X.calm=true) (hi:PI X tg iter wi) (hg:∀ C fp pins s H,PG (fq X N' scope cl C fp pins s H) tg g) (ht:∀ C fp pins s H,zH (fq X N' scope cl C fp pins s H) ifs tt)
  (he:∀ C fp pins s H,PE (fq X N' scope cl C fp pins s H) elt te) (hfree:cq X scope cl N' src) (hclos:closureFor scope X.env=pure cl) (hcell:∀ x∈scope.names,x.2≠.cell) (hkind:scope.kind=.function)
  (hnames:∀ x∈scope.names,x.2=.local->scope.names.lookup x.1=some .local) (hcl:di X scope cl) (hs:∀ x,foldedSetIterable iter X.env x=pure x:=by intro _;rfl)
  (hsw:swapsWith (.ListComp elt [⟨tg,iter,ifs,0⟩] scope pos) (some (.Name x pos')) pos2.line X.env=pure true:=by rfl) (hf:X.fn x=true∨X.env.scope.names.lookup x=some .local:=by first | exact .inl rfl | exact .inr rfl | assumption) :
  PS X (.Assign [.Name x pos'] (.ListComp elt [⟨tg,iter,ifs,0⟩] scope pos) pos2) (nV (iC wi src g tt te) (jI i)):=by
 intro pins s σ H D I h
 rw [exec_Assign_Name_used _ _ _ _ hsw]
 refine wpAny_bind (wpAny_standAt ?_)
 show wpAny _ _ ((comprehension (.ListComp elt [⟨tg,iter,ifs,0⟩] scope pos) scope X.env _ (newList []) false (eval iter X.env) (some (assign (.Name x pos') X.env)) >>= fun _=>pure ()) >>= fun _=>pure Flow.next) _ _ s
 refine wpAny_bind (wpAny_bind (wpAny_mono (wpAny_comprehension_free (use:=some (assign (.Name x pos') X.env)) (Q:=fun _ s''=>SP X pins D .next s'') rfl hs hclos hkind hnames (nA hc hi hg ht he hfree hcell hkind hcl (RR:=fun acc C=>compPost (model X.prog X.w) X.A X.xe (some (assign (.Name x pos') X.env)) (fun _ s''=>SP X pins D .next s'') acc C) I h fun E C H' s' q hm hI hb=>?_)) (fun _ s'' h''=>wpAny_pure (wpAny_pure h'')) fun _ _ e=>e))
 obtain⟨m,o,es,ep,ho,hd,r1,r2⟩:=hm
 have I':Inv X (pins++[(C,o)]) σ H' s':=hI.pins_of fun p hp=>by
  rcases List.mem_append.mp hp with h | h
  ·exact hI.pin p (List.mem_append_right _ h)
  ·rw [List.mem_singleton] at h
   rw [h]
   exact⟨ho,hb.no,hb.lo,hb.fs,fun v z=>by rw [hd] at z;cases z⟩
 refine wpAny_assign_Name (d5 I' hN hi' hx (show aY (.ref E) (.ref E) from rfl) (fun s'' I''=>?_) hf)
 have hC:=(I''.pin (C,o) (List.mem_append_right _ (List.mem_append_right _ List.mem_cons_self))).1
 have I3:Inv X pins (σ.set i (some (.ref E))) H' s'':=I''.pins_of fun p hp=>I''.pin p (List.mem_append_right _ (List.mem_append_left _ hp))
 exact⟨m,⟨o,es,ep,hC,hd,r1,r2⟩,fun h' sb=>⟨_,H',hb.turned I3 sb,q⟩⟩
end
def EX (K:PySem.W.Frag):R2:=fun x y H Q=>∃ d d',bW K H x d/\bW K H y d'/\d.canLay0=true/\d'.canLay0=true/\d.depth≤32/\Q (.bl (!PyData.eqv d d')) H
theorem u7 {X:Cx} {k:Nat} (hr:cu k X.A):gB X (compareOp .NotEq) (EX X.K):=by
 intro pins s σ H x y v u Q I rx ry h
 obtain⟨d,d',hd,hd',c,c',dp,q⟩:=h
 obtain⟨as,ra⟩:=bW.reads I hd rx
 obtain⟨bs,rb⟩:=bW.reads I hd' ry
 exact SeqAt.compareNe_reads ra rb c c' (by have:=hr.units;omega) ⟨.bl _,H,I,rfl,q⟩
noncomputable def jE (h:Heap) (x:Value) (d:PyData) (y:Value):Bool:=
 open Classical in if y=x then true else if z:∃ d',d'.canLay0=true/\d'.depth≤32/\∃ as,Reads h y d' as then PyData.eqv z.choose d else false
theorem vN {A:Around} {s:Shared} {x y:Value} {d:PyData} {as:List Addr} (rx:Reads s.heap x d as) (cx:d.canLay0=true) (hu:A.units+32 < cLine)
  (hy:∃ d',d'.canLay0=true/\d'.depth≤32/\∃ as,Reads s.heap y d' as):SeqAt.EqAt A s y x (jE s.heap x d y):=by
 unfold jE
 by_cases e:y=x
 ·rw [if_pos e,e];exact SeqAt.EqAt.same x
 ·rw [if_neg e,dif_pos hy]
  obtain⟨c,dp,bs,r⟩:=hy.choose_spec
  exact SeqAt.eqAt_reads _ _ A s _ _ _ _ r rx c cx (by omega)
def qx (K:PySem.W.Frag) (H:Hp) (xs:List V):Prop:=∀ x∈xs,∃ d,bW K H x d/\d.canLay0=true/\d.depth≤32
theorem iF {X:Cx} {pins:List (Addr×Obj)} {σ:L2.St} {H:Hp} {s:Shared} (I:Inv X pins σ H s):∀ {xs:List V} {us:List Value},aZ xs us->qx X.K H xs->∀ u∈us,∃ d',d'.canLay0=true/\d'.depth≤32/\∃ as,Reads s.heap u d' as
 | _,_,.nil,_,u,hu=>by cases hu
 | x :: xs,w :: us,.cons r t,k,u,hu=>by
  rcases List.mem_cons.mp hu with rfl | hu
  ·obtain⟨d,hd,c,dp⟩:=k x List.mem_cons_self
   obtain⟨as,ra⟩:=bW.reads I hd r
   exact⟨d,c,dp,as,ra⟩
  ·exact iF I t (fun y hy=>k y (List.mem_cons_of_mem _ hy)) u hu
def El (K:PySem.W.Frag):R2:=fun x y H Q=>∃ a p xs,x=.ref a/\y=.ref p/\aR K H p xs/\V.ref a∈xs/\qx K H xs/\Q (.bl false) H
def En (K:PySem.W.Frag):V->List V->Hp->VK->Prop:=fun x vs H Q=>∃ p xs a d,x=.ref p/\vs=[.ref a]/\aR K H p xs/\V.ref a∈xs/\qx K H xs/\bW K H (.ref a) d/\d.canLay0=true/\d.depth≤32∧
 ∀ (j:Nat) (v':V),xs[j]?=some v'->(v'=.ref a∨∀ d',bW K H v' d'->d'.canLay0=true->PyData.eqv d' d=true)->Q (.int j) H
end B
namespace B
abbrev R:=Int×Int
def cK (a b:Int):R:=(a / (Int.gcd a b:Int),b / (Int.gcd a b:Int))
structure Wf (n:Nat) (r:R):Prop where
 pos:0 < r.2
 top:r.1.natAbs < 2 ^ n
 bot:r.2.natAbs < 2 ^ n
 cop:Int.gcd r.1 r.2=1
theorem Wf.mono {n m:Nat} {r:R} (h:Wf n r) (l:n≤m):Wf m r:=⟨h.pos,Nat.lt_of_lt_of_le h.top (Nat.pow_le_pow_right (by decide) l),Nat.lt_of_lt_of_le h.bot (Nat.pow_le_pow_right (by decide) l),h.cop⟩
theorem bC {a b:Int} (hb:0 < b):0 < (Int.gcd a b:Int):=by
 have h:Int.gcd a b≠0:=fun z=>by
  have:=(Int.gcd_eq_zero_iff.mp z).2
  omega
 omega
theorem eL (a:Int) {g:Int} (hg:0 < g):(a / g).natAbs≤a.natAbs:=by
 have h1:=Int.ediv_mul_le a (show g≠0 by omega)
 have h2:=Int.lt_ediv_add_one_mul_self a hg
 rcases Int.le_total 0 a with h | h
 ·have h3:=Int.ediv_nonneg h (show 0≤g by omega)
  have h4:a / g≤a / g * g:=by
   have:a / g * 1≤a / g * g:=Int.mul_le_mul_of_nonneg_left (by omega) h3
   omega
  omega
 ·have h3:a / g≤0:=by
   have:=Int.ediv_le_ediv hg h
   rw [Int.zero_ediv] at this;exact this
  have h5:a≤a / g:=by
   have:a / 1≤a / g:=by
    have q:(a / g+1) * g≤(a / g+1) * 1∨0 < a / g+1:=by
     rcases Int.le_total (a / g+1) 0 with z | z
     ·left
      have:=Int.mul_le_mul_of_nonneg_left (a:=1) (b:=g) (c:=-(a / g+1)) (by omega) (by omega)
      have e1:-(a / g+1) * 1=-((a / g+1) * 1):=Int.neg_mul _ _
      have e2:-(a / g+1) * g=-((a / g+1) * g):=Int.neg_mul _ _
      omega
     ·rcases Int.lt_or_eq_of_le z with z | z
      ·right;exact z
      ·left;rw [← z];simp
    rw [Int.ediv_one]
    rcases q with q | q
    ·omega
    ·omega
   rw [Int.ediv_one] at this;exact this
  omega
theorem gu {n:Nat} {a b:Int} (hb:0 < b) (h1:a.natAbs < 2 ^ n) (h2:b.natAbs < 2 ^ n):Wf n (cK a b):=
 ⟨Int.ediv_pos_of_pos_of_dvd hb (Int.le_of_lt (bC hb)) (Int.gcd_dvd_right a b),Nat.lt_of_le_of_lt (eL _ (bC hb)) h1,Nat.lt_of_le_of_lt (eL _ (bC hb)) h2,Int.gcd_ediv_gcd_ediv_gcd (by have:=bC (a:=a) hb;omega)⟩
def aQ (r q:R):R:=cK (r.1 * q.2+q.1 * r.2) (r.2 * q.2)
def aC (r q:R):R:=cK (r.1 * q.1) (r.2 * q.2)
def aD (r q:R):Bool:=decide (r.1 * q.2 < q.1 * r.2)
theorem dJ {x y:Int} {n m:Nat} (h1:x.natAbs < 2 ^ n) (h2:y.natAbs < 2 ^ m):(x * y).natAbs < 2 ^ (n+m):=by
 rw [Int.natAbs_mul,Nat.pow_add]
 exact Nat.mul_lt_mul'' h1 h2
theorem uL {n m:Nat} {r q:R} (h:Wf n r) (k:Wf m q):(r.1 * q.2+q.1 * r.2).natAbs < 2 ^ (n+m+1):=by
 have a:=dJ h.top k.bot
 have b:=dJ k.top h.bot
 rw [Nat.add_comm m n] at b
 have e:2 ^ (n+m+1)=2 * 2 ^ (n+m):=by rw [Nat.pow_succ,Nat.mul_comm]
 have:=Int.natAbs_add_le (r.1 * q.2) (q.1 * r.2)
 omega
theorem xF {n m:Nat} {r q:R} (h:Wf n r) (k:Wf m q):Wf (n+m+1) (aQ r q):=
 gu (Int.mul_pos h.pos k.pos) (uL h k) (Nat.lt_of_lt_of_le (dJ h.bot k.bot) (Nat.pow_le_pow_right (by decide) (Nat.le_succ _)))
theorem fB {n m:Nat} {r q:R} (h:Wf n r) (k:Wf m q):Wf (n+m) (aC r q):=
 gu (Int.mul_pos h.pos k.pos) (dJ h.top k.top) (dJ h.bot k.bot)
end B
namespace B
open PySem L2 PyProof.Rows
def FE (i j:Int):Prop:=i.natAbs < 2 ^ 4000/\j.natAbs < 2 ^ 4000
def FA (_ j:Int):Prop:=0 < j/\j.natAbs < 2 ^ 4000
theorem qm {i:Int} (h:i.natAbs < 2 ^ 4000):Builtin.Int.intBits i≤2 ^ 20:=by
 unfold Builtin.Int.intBits
 split
 ·exact Nat.zero_le _
 ·rename_i z
  have hz : i.natAbs ≠ 0 := fun q => z (by have : i = 0 := by omega
                                           rw [this]; rfl)
  have:=(Nat.log2_lt hz).mpr h
  have e:(2:Nat) ^ 20=1048576:=by decide
  omega
section
variable {X:Cx}
theorem bY:gB X (binaryOp .Mult) (rI FE fun i j=>.int (i * j)):=Bd fun _ _ _ _ _ _ _ hc q=>mul_int q (IntMulOk.of_bits (qm hc.1) (qm hc.2))
theorem eh:gB X (binaryOp .FloorDiv) (rI FA fun i j=>.int (i / j)):=Bd fun i j _ _ _ _ _ hc q=>by
 have h1:(0:Int) < j:=hc.1
 have h2:j.natAbs < 2 ^ 4000:=hc.2
 refine floordiv_int (by omega) (by rw [Int.fdiv_eq_ediv_of_nonneg i (by omega)];exact q) (.inl (PyProof.noPylong_of_log2 ?_))
 exact Nat.lt_trans ((Nat.log2_lt (show j.natAbs≠0 by omega)).mpr h2) (by decide)
end
def ax (K:PySem.W.Frag) (H H':Hp):Prop:=∀ p xs,bo K H p xs->bo K H' p xs
theorem ax.refl (K:PySem.W.Frag) (H:Hp):ax K H H:=fun _ _ h=>h
theorem ax.trans {K:PySem.W.Frag} {H H1 H2:Hp} (a:ax K H H1) (b:ax K H1 H2):ax K H H2:=fun p xs h=>b p xs (a p xs h)
theorem ax.same {K:PySem.W.Frag} {H H':Hp} (s:aS H H'):ax K H H':=fun p xs h=>by
 rcases h with (h | ⟨o,h⟩) | h
 ·exact .inl (.inl (s _ _ h))
 ·exact .inl (.inr ⟨o,s _ _ h⟩)
 ·exact .inr h
theorem ax.step {K:PySem.W.Frag} {t:Addr} {H H':Hp} (S:aX t H H'):ax K H H':=fun p xs h=>by
 obtain⟨ys,ht⟩:=S.tp
 rcases h with (h | ⟨o,h⟩) | h
 ·exact .inl (.inl (S.keep _ _ (fun z=>by subst z;rw [h] at ht;cases ht) h))
 ·exact .inl (.inr ⟨o,S.keep _ _ (fun z=>by subst z;rw [h] at ht;cases ht) h⟩)
 ·exact .inr h
theorem ax.up {K:PySem.W.Frag} {H:Hp} {l:Addr} {xs:List V} (h:H l=some (.lst xs)) (ys:List V):ax K H (upd H l (.lst ys)):=ax.step (aX.up h)
def RV (K:PySem.W.Frag) (H:Hp) (v:V) (r:R):Prop:=∃ p,v=.ref p/\bo K H p [.int r.1,.int r.2]
theorem RV.mono {K:PySem.W.Frag} {H H':Hp} {v:V} {r:R} (h:RV K H v r) (t:ax K H H'):RV K H' v r:=let ⟨p,e,q⟩:=h;⟨p,e,t _ _ q⟩
theorem RV.of {K:PySem.W.Frag} {H:Hp} {p:Addr} {a b:Int} (h:H p=some (.tup [.int a,.int b])):RV K H (.ref p) (a,b):=⟨p,rfl,bo.of h⟩
def Ey (K:PySem.W.Frag) (H:Hp) (xs:List V) (rs:List R):Prop:=xs.length=rs.length/\∀ (i:Nat) (x:V) (r:R),xs[i]?=some x->rs[i]?=some r->RV K H x r
theorem Ey.at {K:PySem.W.Frag} {H:Hp} {xs:List V} {rs:List R} {i:Nat} {x:V} (h:Ey K H xs rs) (e:xs[i]?=some x):∃ r,rs[i]?=some r/\RV K H x r:=by
 have hi:=(List.getElem?_eq_some_iff.mp e).1
 have hj:i < rs.length:=by rw [← h.1];exact hi
 exact⟨rs[i],List.getElem?_eq_getElem hj,h.2 i x _ e (List.getElem?_eq_getElem hj)⟩
def gO (r:R):Nat->R
 | 0=>(1,1)
 | k+1=>aC (gO r k) r
theorem Bf:Wf 1 (1,1):=⟨by decide,by decide,by decide,by decide⟩
theorem wF:Wf 1 (0,1):=⟨by decide,by decide,by decide,by decide⟩
theorem uK {n:Nat} {r:R} (h:Wf n r):∀ k,Wf (1+k * n) (gO r k)
 | 0=>by rw [Nat.zero_mul];exact Bf
 | k+1=>by
  have:=fB (uK h k) h
  rw [show 1+(k+1) * n=1+k * n+n by rw [Nat.add_mul];omega]
  exact this
def bR (rs:List R):R:=rs.foldl aQ (0,1)
def dR (r:R):PyData:=.tuple [.int r.1,.int r.2]
theorem RV.deep {K:PySem.W.Frag} {H:Hp} {v:V} {r:R} (h:RV K H v r):bW K H v (dR r):=by
 obtain⟨p,rfl,q⟩:=h
 exact .tup q (.cons (.int _) (.cons (.int _) .nil))
theorem iu (r:R):(dR r).canLay0=true:=rfl
theorem nw (r:R):(dR r).depth≤32:=by show max 0 (max 0 0)+1≤32;decide
theorem oK {i:Int} {n:Nat} (h:i.natAbs < 2 ^ n) (hn:n≤1900):i.natAbs.log2 < 1920:=by
 by_cases z:i.natAbs=0
 ·rw [z];decide
 ·have:=(Nat.log2_lt z).mpr (Nat.lt_of_lt_of_le h (Nat.pow_le_pow_right (by decide) hn))
  omega
theorem jA {i:Int} {n:Nat} (h:i.natAbs < 2 ^ n) (hn:n≤1900):(PyData.int i).shown.length≤1921:=by
 have q:=int_text_length_le (a:=i) (k:=1920) (by decide) (oK h hn)
 have e:(PyData.int i).shown.length=(toString i).length:=by
  show (Str.ofString (toString i)).length=_
  exact PySem.ofString_length _
 omega
theorem v8 {r:R} {n:Nat} (h:Wf n r) (hn:n≤1900):qw (dR r) where
 sh:=by
  show (decide (r.1.natAbs.log2 < 1920) && (decide (r.2.natAbs.log2 < 1920) && true))=true
  rw [decide_eq_true (oK h.top hn),decide_eq_true (oK h.bot hn)];rfl
 nd:=rfl
 sz:=by
  have a:=jA h.top hn
  have b:=jA h.bot hn
  have q:=tupleText_len_le [(PyData.int r.1).shown,(PyData.int r.2).shown]
  have e:(dR r).shown=tupleText [(PyData.int r.1).shown,(PyData.int r.2).shown]:=rfl
  rw [e]
  simp only [List.map_cons,List.map_nil,List.sum_cons,List.sum_nil,List.length_cons,List.length_nil] at q
  have:sizeLine=16777216:=by decide
  omega
 dp:=by show max 0 (max 0 0)+1≤16;decide
theorem vY {r q:R} (h:PyData.eqv (dR r) (dR q)=true):r=q:=by
 have z:(r.1 == q.1 && (r.2 == q.2 && true))=true:=h
 simp only [Bool.and_true,Bool.and_eq_true,beq_iff_eq] at z
 exact Prod.ext z.1 z.2
theorem gW (r:R):PyData.eqv (dR r) (dR r)=true:=by
 show (r.1 == r.1 && (r.2 == r.2 && true))=true
 simp
end B
namespace B
open PySem L2 PyProof.Rows
def dL (rs:List R):PyData:=.list (rs.map dR)
def DD (K:PySem.W.Frag) (tl:TE):TI:=fun σ H R=>tl σ H fun x H1=>(∃ a,x=.ref a/\(∃ xs,aR K H1 a xs)/\R (sd K a) H1)∨(∃ a,x=.ref a/\(∃ xs,bo K H1 a xs)/\R (wD K a) H1)
theorem AZ {X:Cx} {tg l:Expr} {tl:TE} (hl:PE X l tl):PI X tg l (DD X.K tl):=by
 intro pins s σ H R I h
 refine bX (hl pins s σ H _ I h) fun v s1 ⟨x,H1,I1,r1,q1⟩=>?_
 rcases q1 with ⟨a,e,⟨xs,hq⟩,q⟩ | ⟨a,e,⟨xs,hq⟩,q⟩
 ·subst e;cases r1
  obtain⟨its,rv,p,hz⟩:=I1.list hq
  refine wpAny_pyIter_list p.isList ?_
  refine⟨s1.heap.objs.size,[s1.heap.objs.size],_,_,H1,rfl,I1.kept (t':=s1.toks) fun b o e=>Heap.get?_push_of_some _ e,j8 a _,⟨_,Heap.get?_push_size _ rfl,rfl,rfl⟩,fun b hb=>?_,q⟩
  have e:b=s1.heap.objs.size:=by simpa using hb
  subst e
  exact I1.fpOk (Nat.le_refl _) (I1.hok.fresh (Nat.le_refl _))
 ·subst e;cases r1
  obtain⟨its,rv,p,hz⟩:=I1.tuple hq
  refine wpAny_pyIter_tuple (show s1.heap.IsTuple a its.toArray from p) ?_
  refine⟨s1.heap.objs.size,[s1.heap.objs.size],_,_,H1,rfl,I1.kept (t':=s1.toks) fun b o e=>Heap.get?_push_of_some _ e,i8 a _,⟨_,Heap.get?_push_size _ rfl,rfl,rfl⟩,fun b hb=>?_,q⟩
  have e:b=s1.heap.objs.size:=by simpa using hb
  subst e
  exact I1.fpOk (Nat.le_refl _) (I1.hok.fresh (Nat.le_refl _))
end B
namespace B
structure cF (r:R):Prop where
 pos:0 < r.2
 cop:Int.gcd r.1 r.2=1
theorem bK {a b:Int} (hb:0 < b):cF (cK a b):=
 ⟨Int.ediv_pos_of_pos_of_dvd hb (Int.le_of_lt (bC hb)) (Int.gcd_dvd_right a b),Int.gcd_ediv_gcd_ediv_gcd (by have:=bC (a:=a) hb;omega)⟩
theorem cG {a b x y:Int} (hb:0 < b) (hy:0 < y) (g:Int.gcd x y=1) (e:x * b=a * y):cK a b=(x,y):=by
 have h1:Int.gcd (a * y) (b * y)=Int.gcd a b * y.natAbs:=Int.gcd_mul_right a y b
 have h2:Int.gcd (x * b) (y * b)=Int.gcd x y * b.natAbs:=Int.gcd_mul_right x b y
 rw [e,Int.mul_comm y b,h1,g,Nat.one_mul] at h2
 have h3:(Int.gcd a b:Int) * y=b:=by
  have z:((Int.gcd a b * y.natAbs:Nat):Int)=(b.natAbs:Int):=congrArg _ h2
  rw [Int.natCast_mul,Int.natAbs_of_nonneg (by omega),Int.natAbs_of_nonneg (by omega)] at z
  exact z
 have gp:=bC (a:=a) hb
 have h4:a=x * (Int.gcd a b:Int):=by
  have z:x * (Int.gcd a b:Int) * y=a * y:=by rw [Int.mul_assoc,h3];exact e
  exact (Int.eq_of_mul_eq_mul_right (by omega) z).symm
 unfold cK
 generalize (Int.gcd a b:Int)=G at h3 h4 gp
 subst h4
 subst h3
 rw [Int.mul_ediv_cancel _ (by omega),Int.mul_ediv_cancel_left _ (by omega)]
theorem fJ {a b c:Int} (h:Int.gcd a b=1) (d:c∣a):Int.gcd c b=1:=
 Int.gcd_eq_one_iff.mpr fun z h1 h2=>Int.gcd_eq_one_iff.mp h z (Int.dvd_trans h1 d) h2
theorem fO {a b c:Int} (h:Int.gcd a b=1) (d:c∣b):Int.gcd a c=1:=by
 rw [Int.gcd_comm]
 exact fJ (by rw [Int.gcd_comm];exact h) d
theorem iZ {a b c:Int} (h:Int.gcd a b=1) (k:Int.gcd a c=1):Int.gcd a (b * c)=1:=by
 rw [Int.gcd_mul_right_right_of_gcd_eq_one h];exact k
theorem gY {a b c:Int} (h:Int.gcd a c=1) (k:Int.gcd b c=1):Int.gcd (a * b) c=1:=by
 rw [Int.gcd_comm]
 exact iZ (by rw [Int.gcd_comm];exact h) (by rw [Int.gcd_comm];exact k)
theorem dY {a b:Int} (hb:0 < b):∃ g x y:Int,(Int.gcd a b:Int)=g/\0 < g/\a=g * x/\b=g * y/\Int.gcd x y=1:=by
 have gp:=bC (a:=a) hb
 obtain⟨x,hx⟩:=Int.gcd_dvd_left a b
 obtain⟨y,hy⟩:=Int.gcd_dvd_right a b
 refine⟨_,x,y,rfl,gp,hx,hy,?_⟩
 have z:=Int.gcd_ediv_gcd_ediv_gcd (i:=a) (j:=b) (by omega)
 have e1:a / (Int.gcd a b:Int)=x:=by
  conv=>lhs;lhs;rw [hx]
  exact Int.mul_ediv_cancel_left _ (by omega)
 have e2:b / (Int.gcd a b:Int)=y:=by
  conv=>lhs;lhs;rw [hy]
  exact Int.mul_ediv_cancel_left _ (by omega)
 rw [e1,e2] at z
 exact z
theorem gh {g y b:Int} (hb:0 < b) (hg:0 < g) (e:b=g * y):0 < y:=by
 rcases Int.lt_or_le 0 y with h | h
 ·exact h
 ·have:=Int.mul_le_mul_of_nonneg_left h (Int.le_of_lt hg)
  rw [Int.mul_zero] at this
  omega
def mQ (r q:R):R:=
 let d:Int:=(Int.gcd r.2 q.2:Nat)
 let t:=r.1 * (q.2 / d)+q.1 * (r.2 / d)
 let e:Int:=(Int.gcd t d:Nat)
 (t / e,r.2 / d * (q.2 / e))
theorem uM {r q:R} (hr:cF r) (hq:cF q):mQ r q=aQ r q:=by
 obtain⟨d,u,v,e0,dp,e1,e2,cuv⟩:=dY (a:=r.2) hq.pos
 have up:=gh hr.pos dp e1
 have vp:=gh hq.pos dp e2
 obtain⟨e,x,w,f0,ep,f1,f2,cxw⟩:=dY (a:=r.1 * v+q.1 * u) dp
 have wp:=gh dp ep f2
 have du:r.2 / d=u:=by rw [e1];exact Int.mul_ediv_cancel_left _ (by omega)
 have dv:q.2 / d=v:=by rw [e2];exact Int.mul_ediv_cancel_left _ (by omega)
 have te:(r.1 * v+q.1 * u) / e=x:=by rw [f1];exact Int.mul_ediv_cancel_left _ (by omega)
 have qe:q.2 / e=w * v:=by rw [e2,f2,Int.mul_assoc];exact Int.mul_ediv_cancel_left _ (by omega)
 have c1:Int.gcd r.1 u=1:=fO hr.cop ⟨d,by rw [e1,Int.mul_comm]⟩
 have c2:Int.gcd q.1 v=1:=fO hq.cop ⟨d,by rw [e2,Int.mul_comm]⟩
 have xd:x∣(r.1 * v+q.1 * u):=⟨e,by rw [f1,Int.mul_comm]⟩
 have t1:Int.gcd (r.1 * v+q.1 * u) u=1:=by
  rw [Int.gcd_comm,Int.gcd_add_mul_right_right,Int.gcd_comm]
  exact gY c1 (by rw [Int.gcd_comm];exact cuv)
 have t2:Int.gcd (r.1 * v+q.1 * u) v=1:=by
  rw [Int.add_comm,Int.gcd_comm,Int.gcd_add_mul_right_right,Int.gcd_comm]
  exact gY c2 cuv
 have cx:Int.gcd x (u * (w * v))=1:=iZ (fJ t1 xd) (iZ cxw (fJ t2 xd))
 have z:mQ r q=(x,u * (w * v)):=by
  unfold mQ
  simp only [e0,du,dv,f0,te,qe]
 rw [z]
 unfold aQ
 refine (cG (Int.mul_pos hr.pos hq.pos) (Int.mul_pos up (Int.mul_pos wp vp)) cx ?_).symm
 have k:r.1 * q.2+q.1 * r.2=d * (e * x):=by
  rw [e1,e2,← f1,Int.mul_add]
  rw [Int.mul_left_comm r.1 d v,Int.mul_left_comm q.1 d u]
 rw [k,e1,e2]
 have k2:d * u * (d * v)=d * u * (e * w * v):=by rw [← f2]
 rw [k2]
 ac_rfl
def jb (r q:R):R:=
 let l:Int:=(Int.gcd r.1 q.2:Nat)
 let m:Int:=(Int.gcd q.1 r.2:Nat)
 (r.1 / l * (q.1 / m),r.2 / m * (q.2 / l))
theorem qF {r q:R} (hr:cF r) (hq:cF q):jb r q=aC r q:=by
 obtain⟨l,a,b,e0,lp,e1,e2,cab⟩:=dY (a:=r.1) hq.pos
 obtain⟨m,c,d,f0,mp,f1,f2,ccd⟩:=dY (a:=q.1) hr.pos
 have bp:=gh hq.pos lp e2
 have dp:=gh hr.pos mp f2
 have z:jb r q=(a * c,d * b):=by
  unfold jb
  simp only [e0,f0]
  rw [show r.1 / l=a by rw [e1];exact Int.mul_ediv_cancel_left _ (by omega),show q.2 / l=b by rw [e2];exact Int.mul_ediv_cancel_left _ (by omega),
   show q.1 / m=c by rw [f1];exact Int.mul_ediv_cancel_left _ (by omega),show r.2 / m=d by rw [f2];exact Int.mul_ediv_cancel_left _ (by omega)]
 have cad:Int.gcd a d=1:=fJ (fO hr.cop ⟨m,by rw [f2,Int.mul_comm]⟩) ⟨l,by rw [e1,Int.mul_comm]⟩
 have ccb:Int.gcd c b=1:=fJ (fO hq.cop ⟨l,by rw [e2,Int.mul_comm]⟩) ⟨m,by rw [f1,Int.mul_comm]⟩
 rw [z]
 unfold aC
 refine (cG (Int.mul_pos hr.pos hq.pos) (Int.mul_pos dp bp) (iZ (gY cad ccd) (gY cab ccb)) ?_).symm
 rw [e1,e2,f1,f2]
 ac_rfl
theorem jt {r q:R} (hr:cF r) (hq:cF q):cF (aQ r q):=bK (Int.mul_pos hr.pos hq.pos)
theorem j9 {r q:R} (hr:cF r) (hq:cF q):cF (aC r q):=bK (Int.mul_pos hr.pos hq.pos)
theorem jr {r:R} (hr:cF r):∀ k:Nat,gO r k=(r.1 ^ k,r.2 ^ k)
 | 0=>by rw [Int.pow_zero,Int.pow_zero];rfl
 | k+1=>by
  show aC (gO r k) r=_
  rw [jr hr k]
  unfold aC
  refine cG (Int.mul_pos (Int.pow_pos hr.pos) hr.pos) (Int.pow_pos hr.pos) (Int.pow_gcd_pow_of_gcd_eq_one hr.cop) ?_
  rw [Int.pow_succ,Int.pow_succ]
end B
namespace B
open PySem L2 PyProof.Rows
def Eb (_ j:Int):Prop:=j≠0/\j.natAbs < 2 ^ 4000
theorem pQ {X:Cx}:gB X (binaryOp .FloorDiv) (rI Eb fun i j=>.int (i.fdiv j)):=Bd fun i j _ _ _ _ _ hc q=>by
 have h1:j≠0:=hc.1
 have h2:j.natAbs < 2 ^ 4000:=hc.2
 refine floordiv_int h1 q (.inl (PyProof.noPylong_of_log2 ?_))
 exact Nat.lt_trans ((Nat.log2_lt (show j.natAbs≠0 by omega)).mpr h2) (by decide)
def iU (a b:Int):R:=if b < 0 then cK (-a) (-b) else cK a b
theorem lH {a b:Int} (h:0 < b):iU a b=cK a b:=by unfold iU;rw [if_neg (by omega)]
theorem jJ {a g:Int} (h:0 < g):a.fdiv g=a / g:=Int.fdiv_eq_ediv_of_nonneg a (by omega)
theorem kF {a g:Int} (h:0 < g):a.fdiv (-g)=-a / g:=by
 have e:a.fdiv (-g)=(-a).fdiv g:=by
  have:=Int.neg_fdiv_neg (-a) g
  rw [Int.neg_neg] at this
  exact this
 rw [e,jJ h]
theorem vT (a b:Int):Int.gcd (-a) (-b)=Int.gcd a b:=by simp [Int.gcd]
theorem nh {a b:Int} (hb:b≠0):0 < (Int.gcd a b:Int):=by
 have h:Int.gcd a b≠0:=fun z=>hb (Int.gcd_eq_zero_iff.mp z).2
 omega
theorem qb {a b:Int} (hb:b≠0) (hz:b.natAbs < 2 ^ 4000):((Int.gcd a b:Nat):Int).natAbs < 2 ^ 4000:=by
 have z:Int.gcd a b≤b.natAbs:=Nat.le_of_dvd (by omega) (by have:=Int.gcd_dvd_right a b;exact Int.natAbs_dvd_natAbs.mpr this)
 have e:((Int.gcd a b:Nat):Int).natAbs=Int.gcd a b:=Int.natAbs_natCast _
 omega
theorem vo {a b:Int} (hb:0 < b):(a.fdiv (Int.gcd a b:Int),b.fdiv (Int.gcd a b:Int))=iU a b:=by
 rw [lH hb,jJ (bC hb),jJ (bC hb)];rfl
theorem vq {a b:Int} (hb:b < 0):(a.fdiv (-(Int.gcd a b:Int)),b.fdiv (-(Int.gcd a b:Int)))=iU a b:=by
 have g:=nh (a:=a) (b:=b) (by omega)
 unfold iU
 rw [if_pos hb,kF g,kF g]
 unfold cK
 rw [vT]
theorem vm {n:Nat} {a b:Int} (hb:b≠0) (h1:a.natAbs < 2 ^ n) (h2:b.natAbs < 2 ^ n):Wf n (iU a b):=by
 unfold iU
 split
 ·exact gu (by omega) (by rw [Int.natAbs_neg];exact h1) (by rw [Int.natAbs_neg];exact h2)
 ·exact gu (by omega) h1 h2
def aj (r q:R):R:=cK (r.1 * q.2 - q.1 * r.2) (r.2 * q.2)
def eI (r q:R):R:=iU (r.1 * q.2) (r.2 * q.1)
theorem mW {n m:Nat} {r q:R} (h:Wf n r) (k:Wf m q):Wf (n+m+1) (aj r q):=by
 refine gu (Int.mul_pos h.pos k.pos) ?_ (Nat.lt_of_lt_of_le (dJ h.bot k.bot) (Nat.pow_le_pow_right (by decide) (Nat.le_succ _)))
 have a:=dJ h.top k.bot
 have b:=dJ k.top h.bot
 rw [Nat.add_comm m n] at b
 have e:2 ^ (n+m+1)=2 * 2 ^ (n+m):=by rw [Nat.pow_succ,Nat.mul_comm]
 have:=Int.natAbs_sub_le (r.1 * q.2) (q.1 * r.2)
 omega
theorem xU {n m:Nat} {r q:R} (h:Wf n r) (k:Wf m q) (z:q.1≠0):Wf (n+m) (eI r q):=
 vm (Int.mul_ne_zero (by have:=h.pos;omega) z) (dJ h.top k.bot) (dJ h.bot k.top)
structure DW (d:PyData):Prop where
 sh:d.showable=true
 nd:d.hasDict=false
 sz:d.shown.length≤5000
 dp:d.depth≤8
theorem mM {r:R} {n:Nat} (h:Wf n r) (hn:n≤1900):DW (dR r) where
 sh:=(v8 h hn).sh
 nd:=rfl
 sz:=by
  have a:=jA h.top hn
  have b:=jA h.bot hn
  have q:=tupleText_len_le [(PyData.int r.1).shown,(PyData.int r.2).shown]
  have e:(dR r).shown=tupleText [(PyData.int r.1).shown,(PyData.int r.2).shown]:=rfl
  rw [e]
  simp only [List.map_cons,List.map_nil,List.sum_cons,List.sum_nil,List.length_cons,List.length_nil] at q
  omega
 dp:=by show max 0 (max 0 0)+1≤8;decide
end B
namespace B
theorem cV {a b:Int} (hb:0 < b):(cK a b).1 * b=a * (cK a b).2:=by
 obtain⟨g,x,y,_,gp,e1,e2,c⟩:=dY (a:=a) hb
 have yp:=gh hb gp e2
 have e:x * b=a * y:=by rw [e1,e2];ac_rfl
 rw [cG hb yp c e]
 exact e
theorem jy {a b:Int} (hb:b≠0):cF (iU a b)/\(iU a b).1 * b=a * (iU a b).2:=by
 unfold iU
 split
 ·rename_i h
  refine⟨bK (by omega),?_⟩
  have z:=cV (a:=-a) (b:=-b) (by omega)
  rw [Int.mul_neg,Int.neg_mul] at z
  exact Int.neg_inj.mp z
 ·exact⟨bK (by omega),cV (by omega)⟩
theorem vn {a b x y:Int} (hb:b≠0) (hy:0 < y) (g:Int.gcd x y=1) (e:x * b=a * y):iU a b=(x,y):=by
 unfold iU
 split
 ·refine cG (by omega) hy g ?_
  rw [Int.mul_neg,Int.neg_mul,e]
 ·exact cG (by omega) hy g e
theorem xV {r q:R} (hr:cF r) (hq:q.1≠0):aC r (iU q.2 q.1)=eI r q:=by
 obtain⟨hs,es⟩:=jy (a:=q.2) hq
 have hp:0 < r.2 * (iU q.2 q.1).2:=Int.mul_pos hr.pos hs.pos
 have ht:=bK (a:=r.1 * (iU q.2 q.1).1) hp
 have et:=cV (a:=r.1 * (iU q.2 q.1).1) hp
 unfold eI aC
 generalize hS:iU q.2 q.1=s at hs es hp ht et ⊢
 generalize cK (r.1 * s.1) (r.2 * s.2)=t at ht et ⊢
 refine (vn (Int.mul_ne_zero (by have:=hr.pos;omega) hq) ht.pos ht.cop ?_).symm
 have k:t.1 * (r.2 * q.1) * s.2=r.1 * q.2 * t.2 * s.2:=by
  have a1:t.1 * (r.2 * q.1) * s.2=q.1 * (t.1 * (r.2 * s.2)):=by ac_rfl
  have a2:r.1 * q.2 * t.2 * s.2=r.1 * t.2 * (q.2 * s.2):=by ac_rfl
  rw [a1,et,a2,← es]
  ac_rfl
 exact Int.eq_of_mul_eq_mul_right (by have:=hs.pos;omega) k
theorem mY (r q:R):aQ r (-q.1,q.2)=aj r q:=by
 unfold aQ aj
 rw [Int.neg_mul,← Int.sub_eq_add_neg]
end B
namespace B
open PySem PySem.Spec L2 PyProof.Rows
section
variable {prog:Program} {w:World} {A:Around} {E:Value->Shared->Prop} {h:Heap} {g:Array GenState} {d:Drawn} {t:Nat} {os:OsState} {K:PySem.W.Frag}
variable {nm q:Str} {C N:Addr} {bs bm bmB:List Value} {hdct:Bool} {sn:List Str} {sub:List Value} {ab:Bool} {col:Option Bool} {dd:Option Addr} {k0 k1 k2 k3 k5:Option Value} {bN newId initId:String}
theorem lO (F:ExcBaseFacts bN newId initId bmB) (T:OwnTail h bmB bm) {cr:List Value} {fI:Addr} {Q:Fin->Shared->Prop} (X:K.In h)
  (hC:h.get? C=some (excClassObj nm q C N bs bm hdct sn sub ab col dd k0 k1 k2 k3 k5 newId)) (hi:PySem.W.findIn K (.ref C) "__init__" = some (some (.ref fI))) (hf:PySem.W.typeIn K (.ref fI)=some (.type "function"))
  (hq:∀ h' e,Heap.MadeExcOf h h' e (.ref C) cr->wpAny (model prog w) A (call (.ref fI) (.ref e :: cr)) (fun r s'=>r=.none/\Q (.done (.ret (.ref e))) s') E ⟨h',g,d,t,os⟩) (hz:cr.length≤sizeLine) :
  wpAny (model prog w) A (Builtin.«type.__call__» ⟨.ref C :: cr,[]⟩) Q E ⟨h,g,d,t,os⟩:=by
 repeat (first
  | with_reducible refine wpAny_loadPart_at hC ?_
  | with_reducible refine wpAny_madeBy_exc hC ?_
  | wp_step)
 refine codeAny_call_builtin_code (Code.quiet_builtin _ F.quiet)
  (wpAny_check_new_subT F T hC ?_)
 refine codeAny_exc_new_subT F T hC ?_ hz
 show wpAny _ _ _ _ _ _
 have up:∀ b o,h.get? b=some o->((h.push { cls:=.type "tuple", data:=.seq cr.toArray }).push
   { cls:=.ref C,data:=.fields #[.ref h.objs.size,.none,.none,.none,.bool false,.none] }).get? b=some o:=fun b o e=>
  Heap.get?_push_of_some _ (Heap.get?_push_of_some _ e)
 have hC₁:=up _ _ hC
 have X₁:=X.keeps up
 have hx:((h.push { cls:=.type "tuple", data:=.seq cr.toArray }).push
   { cls:=.ref C,data:=.fields #[.ref h.objs.size,.none,.none,.none,.bool false,.none] }).get? (h.objs.size+1)=
   some { cls:=.ref C,data:=.fields #[.ref h.objs.size,.none,.none,.none,.bool false,.none] }:=by heap_get
 have hcC:(Value.ref C :: bm).contains (.ref C)=true:=by simp
 unfold isInstance
 repeat (first
  | with_reducible refine wpAny_loadPart_at hx ?_
  | (with_reducible refine wpAny_isSubtype_exc hC₁ ?_
     rw [hcC])
  | wp_step)
 show wpAny _ _ (typeLookup (.ref C) _) _ _ _
 refine (PySem.W.looks_findIn X₁ hi) _ _ _ _ (fun _ _ e=>e) ?_
 refine wpAny_holding (wpAny_bind ?_)
 refine (PySem.W.bind_fn X₁ _ hf) _ _ _ _ (fun _ _ e=>e) ?_
 refine wpAny_bind (wpAny_mono (hq _ (h.objs.size+1)
  ⟨up,Heap.get?_none_of_le (Nat.le_succ _),h.objs.size,hx,Heap.get?_none_of_le (Nat.le_refl _),?_⟩) (fun r s' hr=>?_) fun _ _ y=>y)
 ·exact Heap.get?_push_of_some _ (Heap.get?_push_at rfl rfl)
 ·obtain⟨rfl,hQ⟩:=hr
  wp_walk
  exact hQ
theorem vW (F:ExcBaseFacts bN newId initId bmB) (T:OwnTail h bmB bm) {cr:List Value} {fI:Addr} {Q:Value->Shared->Prop} (X:K.In h)
  (hC:h.get? C=some (excClassObj nm q C N bs bm hdct sn sub ab col dd k0 k1 k2 k3 k5 newId)) (hi:PySem.W.findIn K (.ref C) "__init__" = some (some (.ref fI))) (hf:PySem.W.typeIn K (.ref fI)=some (.type "function"))
  (hq:∀ h' e,Heap.MadeExcOf h h' e (.ref C) cr->wpAny (model prog w) (A.under (.builtin "type.__call__" ⟨.ref C :: cr,[]⟩)) (call (.ref fI) (.ref e :: cr)) (fun r s'=>r=.none/\Q (.ref e) s') E ⟨h',g,d,t,os⟩) (hz:cr.length≤sizeLine) :
  wpAny (model prog w) A (call (.ref C) cr) Q E ⟨h,g,d,t,os⟩:=by
 have f1:=tc_lookup
 have f2:=tc_bind (.ref C)
 have hT:(⟨h,g,d,t,os⟩:Shared).TypeIs (.ref C) "type" := ⟨_,hC,rfl⟩
 refine wpAny_call (codeAny_of_tree ?_)
 show wpAny _ _ (callAny (.ref C) _) _ _ _
 repeat (any_goals (first
  | assumption
  | with_reducible refine wpAny_loadPart_at hC ?_
  | wp_step))
 refine⟨rfl,?_⟩
 refine codeAny_call_builtin_at (Code.quiet_builtin _ (by decide +kernel)) entry_typeCall
  (wpAny_check_type_call_sub hC (lO F T X hC hi hf (fun h' e hm=>?_) hz))
 exact hq h' e hm
end
def i7:List Value:=[.type "ValueError", .type "Exception", .type "BaseException", .type "object"]
structure gA (K:PySem.W.Frag) (C:Addr) (bm:List Value):Prop where
 ob:∃ nm q N bs hdct sn sub ab col dd k0 k1 k2 k3 k5,K.lookup C=some (excClassObj nm q C N bs bm hdct sn sub ab col dd k0 k1 k2 k3 k5 "ValueError.__new__")
 tl:∀ h:Heap,K.In h->OwnTail h i7 bm
 hd:PySem.W.hasDictIn K C=true
 sa:PySem.W.findIn K (.ref C) "__setattr__" = some (some (.builtin "object.__setattr__"))
theorem ye {h:Heap} {tl:List Value} (T:OwnTail h i7 tl) (self:Value):refuseLoop self "__setattr__" tl=pure ():=by
 induction T with
 | base=>exact PySem.F.store_ValueError.passes self
 | own _ _ _ _ ih=>rw [refuseLoop_ref];exact ih
theorem jL {K:PySem.W.Frag} {C:Addr} {bm:List Value} (c:gA K C bm):∃ cd,PySem.W.clsIn K C=some cd/\cd.mro=.ref C :: bm:=by
 obtain⟨nm,q,N,bs,hdct,sn,sub,ab,col,dd,k0,k1,k2,k3,k5,lk⟩:=c.ob
 unfold PySem.W.clsIn
 rw [lk]
 exact⟨_,rfl,rfl⟩
section
variable {prog:Program} {w:World} {A:Around} {s:Shared} {K:PySem.W.Frag} {x C:Addr} {R:Result->Shared->Prop}
theorem kd {ox:Obj} {od:Option Obj} {name:Str} {tk:Tok} {v:Value} {bm:List Value} (X:K.In s.heap) (I:PySem.W.InstAt s.heap x ox C od) (c:gA K C bm) (n:eN K C name)
  (h:∀ b,wpAny (model prog w) A.in1 (Builtin.ObjectAttr.storeInOwnDict (.ref x) (.ref C) (.str name tk) name v b) (fun fin s'=>match fin with
   | .done f=>R (.ok f) s'
   | .again c'=>c'.quiet=true/\codeAny (model prog w) A c' R s') (fun e s'=>R (.error e) s') s) :
  codeAny (model prog w) A (.call (.builtin "object.__setattr__") ⟨[.ref x,.str name tk,v],[]⟩) R s:=by
 have sf:=PySem.F.store_object
 obtain⟨cd,hc,hm⟩:=jL c
 have T:=c.tl _ X
 have hob:(Value.ref C :: bm).contains (.type "object")=true:=by
  rw [List.contains_cons,T.hasType (X := "object") (b:=true) (by decide +kernel),Bool.or_true]
 have isO:PySem.W.Looks (model prog w) s.heap (isInstance (.ref x) (.type "object")) true:=by
  refine I.type.andThen (PySem.W.looks_mroIn X ?_)
  unfold PySem.W.mroIn
  rw [hc]
  show (if cd.mro.isEmpty=true then none else some (cd.mro.contains (.type "object")))=some true
  rw [hm,hob];rfl
 have ms:PySem.W.Looks (model prog w) s.heap (mroOf (.ref C)) (.ref C :: bm):=by
  rw [← hm];exact (PySem.W.looks_clsIn X hc).andThen .now
 refine codeAny_call_builtin sf.slot.plain sf.entry (PySem.W.check_slot (i := "object.__setattr__") (owner := "object") (n := "__setattr__") sf.kind sf.split isO (sf.args _ _ _) ?_)
 rw [PySem.W.osa_eq,refuse_eq]
 refine wpAny_bind (wpAny_bind (I.type.here (wpAny_bind (ms.here ?_))))
 rw [refuseLoop_ref,ye T]
 refine wpAny_pure (wpAny_bind (I.type.here (wpAny_bind ((PySem.W.looks_findIn X n).here (wpAny_bind ?_)))))
 exact PySem.W.Looks.here (r:=none) .now (h _)
end
def D9 (a C:Addr) (dx:Option Addr):Heap->Prop:=fun h=>∃ t:Addr,h.get? a=some { cls:=.ref C,dict:=dx,data:=.fields #[.ref t,.none,.none,.none,.bool false,.none] }
def fV (a C:Addr) (dx:Option Addr):HO:=.ext (D9 a C dx)
theorem vX {P:Program} {w:World} {H:Hp} {h:Heap} {a C:Addr} {dx:Option Addr} (e:D9 a C dx h):ObjOk P w H h a (fV a C dx):=
 ⟨e,let ⟨_,q⟩:=e;⟨_,q⟩,fun _ _ ⟨t,q⟩ k=>⟨t,k _ q⟩⟩
def jU (H:Hp) (a:Addr):Hp:=fun b=>if b=a then none else H b
theorem jK {H:Hp} {a:Addr}:jU H a a=none:=by unfold jU;rw [if_pos rfl]
theorem gw {H:Hp} {a b:Addr} (h:b≠a):jU H a b=H b:=by unfold jU;rw [if_neg h]
section
variable {X:Cx} {pins:List (Addr×Obj)} {σ:L2.St} {H:Hp} {s:Shared} {a C:Addr} {dx:Option Addr}
theorem Inv.forget {φ:Heap->Prop} (I:L2.Inv X pins σ H s) (e:H a=some (.ext φ)) (new:X.s₀.heap.get? a=none):L2.Inv X pins σ (jU H a) s:=by
 have none_of:∀ b,H b=none->jU H a b=none:=fun b h=>by
  by_cases z:b=a
  ·rw [z];exact jK
  ·rw [gw z];exact h
 refine⟨I.ok,I.os,I.bare,⟨I.base.keep,I.base.slot,fun b o q n hx=>none_of b (I.base.free b o q n hx),I.base.there,fun b xs q=>?_,fun b o u q=>?_,fun b ps q=>?_⟩,I.loc,I.cell,none_of _ I.free,fun x c q=>none_of _ (I.freeC x c q),fun p hp=>?_,fun b o q=>?_,I.len⟩
 ·have z:=I.base.tups b xs q
  rw [gw (fun k=>by rw [k,e] at z;cases z)];exact z
 ·have z:=I.base.frzs b o u q
  rw [gw (fun k=>by rw [k,e] at z;cases z)];exact z
 ·obtain⟨m,z⟩:=I.base.tbls b ps q
  exact⟨m,by rw [gw (fun k=>by rw [k,e] at z;cases z)];exact z⟩
 ·obtain⟨p1,p2,p3⟩:=I.pin p hp
  exact⟨p1,none_of _ p2,p3⟩
 ·have nb:b≠a:=fun z=>by rw [z,jK] at q;cases q
  rw [gw nb] at q
  refine (I.hok b o q).stay (fun c u _ z=>z) (fun c z=>?_) (fun c xs z=>?_)
  ·rw [gw (fun k=>by rw [k,e] at z;cases z)];exact z
  ·rw [gw (fun k=>by rw [k,e] at z;cases z)];exact z
end
theorem ObjOk.get {P:Program} {w:World} {H:Hp} {h:Heap} {a:Addr} {o:HO} (x:L2.ObjOk P w H h a o):∃ u,h.get? a=some u:=by
 cases o with
 | lst xs=>obtain⟨_,_,_,_,e⟩:=x;exact⟨_,e⟩
 | tup xs=>obtain⟨_,_,_,o,e,_⟩:=x;exact⟨_,e⟩
 | dK kvs=>obtain⟨_,_,_,_,o,_,_,e,_⟩:=x;exact⟨_,e⟩
 | dT kvs=>obtain⟨_,_,_,_,o,_,_,e,_⟩:=x;exact⟨_,e⟩
 | set S n=>obtain⟨o,_,_,_,e,_⟩:=x;exact⟨_,e⟩
 | ins C dx fs=>obtain⟨_,_,_,e,_⟩:=x;exact⟨_,e⟩
 | own y=>exact x
 | xd fs=>obtain⟨_,⟨_,_,_,e,_⟩,_⟩:=x;exact⟨_,e⟩
 | rng lo hi=>obtain⟨_,_,_,e⟩:=x;exact⟨_,e⟩
 | frz ob u=>obtain⟨e,_⟩:=x;exact⟨_,e⟩
 | tbl ps=>exact⟨_,show h.get? a=some _ from x⟩
 | met f y=>exact⟨_,show h.get? a=some _ from x⟩
 | ext φ=>exact x.2.1
def Gy (h:Heap) (H:Hp) (x C T:Addr) (a0:Value):Prop:=
 ∃ oe vs oT ts,h.get? x=some oe/\oe.cls=.ref C/\vs[0]?=some a0/\oe.data=.fields vs/\vs[1]?=some (.ref T)/\H T=none/\T≠x/\h.get? T=some oT/\oT.data=.fields ts/\ts[3]?=some .none
def IX (P:Program) (w:World):l5:=fun outer H s E e s'=>∃ (x C T:Addr) (a0:Value) (H':Hp),e=.ref x/\s'.os=s.os/\AllBare s'.gens/\Un (iW outer) [] H H' s.heap s'.heap/\fP P w H' s'.heap/\s.heap.get? x=none/\s.heap.get? T=none/\H' x=none∧
 Gy s'.heap H' x C T a0/\E (.ref C) none H'
structure cO (X:Cx) (pins:List (Addr×Obj)) (a:Addr):Prop where
 st:X.s₀.heap.get? a=none
 lo:a≠X.env.locals
 ce:∀ x c,X.env.cells.lookup x=some c->c≠a
 pi:∀ p∈X.pn++pins,p.1≠a
 fr:a∉iW X.stack
section
variable {X:Cx} {pins:List (Addr×Obj)} {σ:L2.St} {H H':Hp} {s:Shared} {a:Addr}
theorem Inv.newAt (I:L2.Inv X pins σ H s) (hex:X.ex=[]) (h:s.heap.get? a=none):cO X pins a where
 st:=by
  cases e:X.s₀.heap.get? a with
  | none=>rfl
  | some o=>
   obtain⟨o',q⟩:=I.base.there a o e (by rw [hex];simp)
   rw [h] at q;cases q
 lo:=fun z=>by
  obtain⟨m,⟨o,_,_,q,_⟩,_⟩:=I.loc
  rw [← z,h] at q;cases q
 ce:=fun x c e z=>by
  obtain⟨v,o,q,_⟩:=I.cell x c e
  rw [z,h] at q;cases q
 pi:=fun p hp z=>by
  obtain⟨q,_⟩:=I.pin p hp
  rw [z,h] at q;cases q
 fr:=fun z=>by
  obtain⟨_,o,q,_⟩:=I.stack.mem z
  rw [h] at q;cases q
end
section
variable {X:Cx} {pins:List (Addr×Obj)} {σ:L2.St} {H:Hp} {s:Shared} {a:Addr} {o:HO}
theorem Inv.adopt (I:L2.Inv X pins σ H s) (na:cO X pins a) (ha:H a=none) (hex:X.ex=[]) (new:L2.ObjOk X.prog X.w (upd H a o) s.heap a o):L2.Inv X pins σ (upd H a o) s:=by
 have keep:∀ b u,H b=some u->upd H a o b=some u:=fun b u q=>by rw [av (aA q ha)];exact q
 have nn:∀ b,b≠a->H b=none->upd H a o b=none:=fun b nb q=>by rw [av nb];exact q
 refine⟨I.ok,I.os,I.bare,⟨I.base.keep,I.base.slot,fun b u q n hx=>nn b (fun z=>by rw [z,na.st] at q;cases q) (I.base.free b u q n hx),I.base.there,fun b xs q=>keep _ _ (I.base.tups b xs q),fun b u v q=>keep _ _ (I.base.frzs b u v q),fun b ps q=>?_⟩,I.loc,I.cell,nn _ na.lo.symm I.free,fun x c q=>nn _ (na.ce x c q) (I.freeC x c q),fun p hp=>?_,fun b u q=>?_,I.len⟩
 ·obtain⟨m,z⟩:=I.base.tbls b ps q
  exact⟨m,keep _ _ z⟩
 ·obtain⟨p1,p2,p3⟩:=I.pin p hp
  exact⟨p1,nn _ (na.pi p hp) p2,p3⟩
 ·by_cases z:b=a
  ·subst z
   rw [ag] at q;cases q
   exact new
  ·rw [av z] at q
   exact (I.hok b u q).stay (fun c v _ w=>w) (fun c w=>keep _ _ w) (fun c xs w=>keep _ _ w)
theorem Inv.none_of (I:L2.Inv X pins σ H s) (h:s.heap.get? a=none):H a=none:=by
 cases q:H a with
 | none=>rfl
 | some o=>obtain⟨u,z⟩:=ObjOk.get (I.hok a o q);rw [h] at z;cases z
end
structure XC (K:PySem.W.Frag) (C f:Addr) (bm:List Value):Prop where
 ob:∃ nm q N bs hdct sn sub ab col dd k0 k1 k2 k3 k5,K.lookup C=some (excClassObj nm q C N bs bm hdct sn sub ab col dd k0 k1 k2 k3 k5 "ValueError.__new__")
 tl:∀ h:Heap,K.In h->OwnTail h i7 bm
 init:PySem.W.findIn K (.ref C) "__init__" = some (some (.ref f))
 fn:PySem.W.typeIn K (.ref f)=some (.type "function")
 kp:PySem.W.keepIn K (.ref C)=true
 cl:gA K C bm
section
variable {X:Cx} {k:Nat} {f C:Addr} {fd:FuncData} {ps:List Str} {sp:Sp} {bm:List Value}
theorem wW {pins:List (Addr×Obj)} {σ:L2.St} {H:Hp} {s:Shared} {Q:Addr->Hp->Prop} {us:List Value} {vs:List V} {E':Value->Shared->Prop} (M:XC X.K C f bm) (hex:X.ex=[]) (F:bB X.prog X.w X.K X.mg X.base dk k f fd ps sp) (hr:cu (k+1) X.A) (hb:aP X.K fd ps [])
  (I:L2.Inv X pins σ H s) (r:aZ vs us) (hz:us.length≤sizeLine) (h:∀ a,H a=none->sp (.ref a :: vs) (upd H a (fV a C none)) (fun v H2=>v=.non/\Q a H2) E0) :
  wpAny (model X.prog X.w) X.A (call (.ref C) us) (fun v s'=>∃ a H',v=.ref a/\cO X pins a/\L2.Inv X pins σ H' s'/\Q a H') E' s:=by
 obtain⟨nm,q,N,bs,hdct,sn,sub,ab,col,dd,k0,k1,k2,k3,k5,lk⟩:=M.ob
 obtain⟨hp,g,d,t,os⟩:=s
 refine vW PySem.F.excBase_ValueError (M.tl hp I.kIn) I.kIn (I.kIn _ _ lk) M.init M.fn (fun h' e hm=>?_) hz
 have na:=B.Inv.newAt I hex hm.new
 have he:=B.Inv.none_of I hm.new
 obtain⟨tt,ho,_⟩:=hm.there
 have I1:L2.Inv X pins σ H ⟨h',g,d,t,os⟩:=I.kept (t':=t) hm.keeps
 have I2:L2.Inv X pins σ (upd H e (fV e C none)) ⟨h',g,d,t,os⟩:=B.Inv.adopt I1 na he hex (vX ⟨tt,ho⟩)
 have hq:=h e he
 have r2:aZ (V.ref e :: vs) (Value.ref e :: us):=.cons rfl r
 have hl:(Value.ref e :: us).length=ps.length:=by
  have z:=r2.length
  rw [F.len _ _ _ _ hq] at z
  exact z.symm
 have hbd:=hb ⟨h',g,d,t,os⟩ (Value.ref e :: us) I2.kIn (by rw [List.append_nil];exact hl)
 rw [List.append_nil] at hbd
 refine wpAny_call (codeAny_mono (F.run _ X.stack _ _ ⟨Value.ref e :: us,[]⟩ (Value.ref e :: us) _ _ E0 (hr.make C us []) (I2.env0.make C us []) hbd r2 hq) fun r s' hq'=>?_)
 cases r with
 | error e=>exact False.elim hq'
 | ok fl=>
  cases fl with
  | ret u=>
   obtain⟨v,H',I3,rv,ev,q3⟩:=I2.after hq'
   subst ev
   exact⟨rv,e,H',rfl,na,I3,q3⟩
  | next=>exact False.elim hq'
  | brk=>exact False.elim hq'
  | cont=>exact False.elim hq'
def Gz (X:Cx) (E:XK):Prop:=∀ (pins:List (Addr×Obj)) (σ:L2.St) (H:Hp) (s:Shared) (a C:Addr) (oe:Obj) (vs:Array Value) (a0:Value),L2.Inv X pins σ H s->H a=none->cO X pins a->s.heap.get? a=some oe->oe.data=.fields vs→
 vs[0]?=some a0->vs[1]?=some .none->oe.cls=.ref C->E (.ref C) none H->X.xe (.ref a) s
theorem qP {M:Model} {A:Around} {E:Value->Shared->Prop} {env:Env} {nm q:Str} {N:Addr} {bs:List Value} {hdct:Bool} {sn:List Str} {sub:List Value} {ab:Bool} {col:Option Bool} {dd:Option Addr} {k0 k1 k2 k3 k5:Option Value} {newId:String}
  {s:Shared} {x:Sem Value} {Q:Flow->Shared->Prop} (hbase:bm.contains (.type "BaseException")=true) (hh:A.handled=none)
  (h:wpAny M A x (fun v s₁=>∃ e t dx,v=.ref e/\s₁.heap.get? C=some (excClassObj nm q C N bs bm hdct sn sub ab col dd k0 k1 k2 k3 k5 newId)∧
   s₁.heap.get? e=some { cls:=.ref C,dict:=dx,data:=.fields #[.ref t,.none,.none,.none,.bool false,.none] }/\E (.ref e) s₁) E s) :
  wpAny M A (raiseStmt env (some x) none) Q E s:=by
 have hcB:(Value.ref C :: bm).contains (.type "BaseException")=true:=by rw [List.contains_cons,hbase,Bool.or_true]
 unfold raiseStmt
 refine wpAny_bind (wpAny_mono h (fun v s₁ h₁=>?_) fun _ _ y=>y)
 obtain⟨e,t,dx,rfl,hC,he,hE⟩:=h₁
 obtain⟨hp,g,d,tk,os⟩:=s₁
 repeat (first
  | with_reducible refine wpAny_loadPart_at he ?_
  | with_reducible refine wpAny_loadPart_at hC ?_
  | (with_reducible refine wpAny_isSubtype_exc hC ?_
     rw [hcB])
  | wp_step)
 exact wpAny_raiseNew_none hh hE
def EL (C:Addr) (sp:Sp) (E:XK) (t:TA):TS:=fun _ σ H=>t σ H fun vs H1=>vs.length≤sizeLine/\∀ a,H1 a=none->sp (.ref a :: vs) (upd H1 a (fV a C none)) (fun v H2=>v=.non/\(∃ dx,H2 a=some (fV a C dx))/\E (.ref C) none (jU H2 a)) E0
end
section
variable {X:Cx} {pins:List (Addr×Obj)} {σ:L2.St} {H:Hp} {s:Shared} {a C T:Addr} {a0:Value}
end
def m9 (N:List Str):L2.St:=List.replicate N.length none
theorem vO {X:Cx} {pins:List (Addr×Obj)} {σ:L2.St} {H:Hp} {s:Shared} (I:L2.Inv X pins σ H s):L2.Inv X pins (m9 X.N) H s:=
 I.weak (by rw [I.len];exact List.length_replicate) fun i v q=>by
  unfold m9 at q
  rw [List.getElem?_replicate] at q
  split at q <;> cases q
def Ip (X:Cx) (pins:List (Addr×Obj)) (R:Addr->Hp->Prop):Value->Shared->Prop:=fun e s=>∃ (x C T:Addr) (a0:Value) (H:Hp),e=.ref x/\L2.Inv X pins (m9 X.N) H s/\H x=none/\cO X pins x/\cO X pins T/\Gy s.heap H x C T a0/\R C H
def Gn (X:Cx) (pins:List (Addr×Obj)) (R:Addr->Hp->Prop):Cx:={ X with pn:=X.pn++pins,xe:=Ip X pins R }
def kD (X:Cx) (e:Addr):Cx:={ X with A:=X.A.mark (some (.ref e)),calm:=false,xe:=fun _ _=>False }
section
variable {X:Cx} {pins pins':List (Addr×Obj)} {σ:L2.St} {H:Hp} {s:Shared} {R:Addr->Hp->Prop} {e:Addr}
theorem yT (I:L2.Inv X pins σ H s):L2.Inv (kD X e) pins σ H s:=
 ⟨⟨I.ok.mod,I.ok.kind,I.ok.glob,I.ok.blt,I.ok.above,I.ok.inj,I.ok.has,I.ok.cab,(fun z=>nomatch z),I.ok.frames,I.ok.stk,I.ok.exf,I.ok.bs,I.ok.bsz,I.ok.noex,I.ok.exfs,I.ok.funs,I.ok.frf⟩,I.os,I.bare,I.base,I.loc,I.cell,I.free,I.freeC,I.pin,I.hok,I.len⟩
theorem pT (ok:X.Ok) (I:L2.Inv (kD X e) pins σ H s):L2.Inv X pins σ H s:=
 ⟨ok,I.os,I.bare,I.base,I.loc,I.cell,I.free,I.freeC,I.pin,I.hok,I.len⟩
end
def GR (N:List Str) (R:Addr->Hp->Prop) (Ok:Addr->Prop) (tb:TS) (th:TS):TS:=fun D σ H=>tb D σ H/\∀ C H',R C H'->Ok C/\th D (m9 N) H'
section
variable {X:Cx} {R:Addr->Hp->Prop} {body:List Stmt} {b₀:Stmt} {suite:List Stmt} {x:Str} {p hpos pos:Pos} {u:Value} {tb th:TS}
end
section
variable {X:Cx} {o value:Expr} {f:Str} {ta tv:TE} {pos' pos:Pos}
def FZ (K:PySem.W.Frag) (ta tv:TE) (f:Str):TS:=fun D σ H=>tv σ H fun _ H1=>ta σ H1 fun x H2=>∃ a C bm,x=.ref a/\H2 a=some (fV a C none)/\gA K C bm/\eN K C f/\∀ d,D.nx σ (upd H2 a (fV a C (some d)))
end
def Iu (R:Addr->Hp->Prop):XK:=fun v _ H=>∃ C,v=.ref C/\R C H
theorem zN (a:Addr):(Value.ref a :: i7).contains (.type "BaseException")=true:=by rw [List.contains_cons,(by decide +kernel:i7.contains (.type "BaseException")=true),Bool.or_true]
def jc (es:Array DictEntry):Bool:=es.toList.all fun e=>match e.key with
 | .str _ _=>true
 | _=>false
theorem nW {es:Array DictEntry} (h:jc es=true):StrKeys es:=fun e he=>by
 have z:=List.all_eq_true.mp h e (Array.mem_toList_iff.mpr he)
 revert z
 cases e.key <;> intro z <;> first | exact⟨_,_,rfl⟩ | (cases z)
theorem CC {K:PySem.W.Frag} {C f B0 NB:Addr} {nm q nmB qB:Str} {N:Addr} {bs bsB:List Value} {hdct hdctB:Bool} {sn snB:List Str} {sub subB:List Value} {ab abB:Bool} {col colB:Option Bool} {dd ddB:Option Addr} {k0 k1 k2 k3 k5 j0 j1 j2 j3 j5:Option Value}
  {oc:Value} {od:Option Addr} {es:Array DictEntry} {n:Nat} {sl:Array (Option Value)}
  (lc:K.lookup C=some (excClassObj nm q C N bs (.ref B0 :: [.type "ValueError", .type "Exception", .type "BaseException", .type "object"]) hdct sn sub ab col dd k0 k1 k2 k3 k5 "ValueError.__new__"))
  (lb:K.lookup B0=some (excClassObj nmB qB B0 NB bsB [.type "ValueError", .type "Exception", .type "BaseException", .type "object"] hdctB snB subB abB colB ddB j0 j1 j2 j3 j5 "ValueError.__new__"))
  (ln:K.lookup NB=some ⟨oc,od,.dict es n,sl⟩) (hs:jc es=true) (hn:(nsFind es "__init__").isNone=true)
  (fi:PySem.W.findIn K (.ref C) "__init__" = some (some (.ref f))) (ti:PySem.W.typeIn K (.ref f)=some (.type "function")) (kc:PySem.W.keepIn K (.ref C)=true) (hh:PySem.W.hasDictIn K C=true) (sa:PySem.W.findIn K (.ref C) "__setattr__" = some (some (.builtin "object.__setattr__"))):XC K C f (.ref B0 :: i7):=
 have ob:∃ nm q N bs hdct sn sub ab col dd k0 k1 k2 k3 k5,K.lookup C=some (excClassObj nm q C N bs (.ref B0 :: i7) hdct sn sub ab col dd k0 k1 k2 k3 k5 "ValueError.__new__"):=⟨_,_,_,_,_,_,_,_,_,_,_,_,_,_,_,lc⟩
 have tl:∀ h:Heap,K.In h->OwnTail h i7 (.ref B0 :: i7):=fun h X=>.own (X _ _ lb) ⟨_,es,n,X _ _ ln,rfl,nW hs,fun _=>rfl⟩ (Option.isNone_iff_eq_none.mp hn) .base
 ⟨ob,tl,fi,ti,kc,ob,tl,hh,sa⟩
structure ph (K:PySem.W.Frag) (C:Addr):Prop where
 ga:PySem.W.findIn K (.ref C) "__getattribute__" = some (some (.builtin "BaseException.__getattribute__"))
 gn:PySem.W.findIn K (.ref C) "__getattr__" = some none
 cl:PySem.W.findIn K (.ref C) "__class__" = some (some (.builtin "object.__class__"))
 cg:PySem.W.specialIn K (.builtin "object.__class__") "__get__" = some (some (.builtin "getset_descriptor.__get__"))
 ct:PySem.W.takesIn K (.builtin "object.__class__")=some true
section
variable {prog:Program} {w:World} {A:Around} {E:Value->Shared->Prop} {s:Shared} {K:PySem.W.Frag} {x C:Addr} {ox:Obj} {odo:Option Obj} {bm:List Value} {name:Str} {tk:Tok} {R:Result->Shared->Prop}
theorem nj {fill ex:Bool} {Q:Value->Shared->Prop} (X:K.In s.heap) (I:PySem.W.InstAt s.heap x ox C odo) (g:ph K C)
  (h:codeAny (model prog w) A (.call (.builtin "BaseException.__getattribute__") ⟨[.ref x,.str name tk],[]⟩) (fun r s'=>∃ v,r=.ok (.ret v)/\PySem.W.handedIn v=true/\Q v s') s) :
  wpAny (model prog w) A (getAttrBy (.ref x) (.str name tk) fill ex) Q E s:=by
 have FB:=PySem.F.attrBase_ValueError
 unfold getAttrBy
 refine wpAny_holding (wpAny_bind (I.type.here (wpAny_bind ((PySem.W.looks_findIn X g.ga).here ?_))))
 have e2:(Value.builtin "BaseException.__getattribute__" == Value.builtin "object.__getattribute__")=false:=by decide +kernel
 dsimp only
 rw [e2,Bool.and_false,if_neg Bool.false_ne_true]
 unfold getAttrByItsOwn hookBefore
 rw [if_pos (show onTheHeap (Value.ref C)=true from rfl)]
 refine wpAny_bind ((PySem.W.looks_findIn X g.gn).here (wpAny_bind (wpAny_attempt (wpAny_holding ?_))))
 unfold callGetattribute
 rw [if_neg (by cases ex <;> decide)]
 unfold boundAndCalled
 rw [FB.ga.bind (.ref x)]
 refine wpAny_bind (wpAny_pure (wpAny_call (codeAny_mono h fun r s' hq=>?_)))
 obtain⟨v,rfl,hh,q⟩:=hq
 exact PySem.W.handed_on hh q
theorem Hw {X:K.In s.heap} (I:PySem.W.InstAt s.heap x ox C odo) (c:gA K C bm) (T:String) (hT:i7.contains (.type T)=true):PySem.W.Looks (model prog w) s.heap (isInstance (.ref x) (.type T)) true:=by
 obtain⟨cd,hc,hm⟩:=jL c
 have hob:(Value.ref C :: bm).contains (.type T)=true:=by
  rw [List.contains_cons,(c.tl _ X).hasType (X:=T) (b:=true) hT,Bool.or_true]
 refine I.type.andThen (PySem.W.looks_mroIn X ?_)
 unfold PySem.W.mroIn
 rw [hc]
 show (if cd.mro.isEmpty=true then none else some (cd.mro.contains (.type T)))=some true
 rw [hm,hob];rfl
theorem nu (X:K.In s.heap) (I:PySem.W.InstAt s.heap x ox C odo) (c:gA K C bm)
  (h:wpAny (model prog w) A.in1 (Builtin.«object.__getattribute__» ⟨[.ref x,.str name tk],[]⟩) (fun fin s'=>match fin with
   | .done f=>R (.ok f) s'
   | .again c'=>c'.quiet=true/\codeAny (model prog w) A c' R s') (fun e s'=>R (.error e) s') s) :
  codeAny (model prog w) A (.call (.builtin "BaseException.__getattribute__") ⟨[.ref x,.str name tk],[]⟩) R s:=by
 have FB:=PySem.F.attrBase_ValueError
 exact codeAny_call_builtin FB.ga.plain PySem.F.entry_bexc_ga (PySem.W.check_slot (i := "BaseException.__getattribute__") (owner := "BaseException") (n := "__getattribute__") (by decide +kernel) (by decide +kernel) (Hw (X:=X) I c "BaseException" (by decide +kernel)) (PySem.F.args_bexc_ga _ _) h)
theorem yw {v:Value} (X:K.In s.heap) (I:PySem.W.InstAt s.heap x ox C odo) (c:gA K C bm) (hf:PySem.W.findObj K C odo name=some (.value v)) (h:R (.ok (.ret v)) s) :
  codeAny (model prog w) A (.call (.builtin "BaseException.__getattribute__") ⟨[.ref x,.str name tk],[]⟩) R s:=by
 refine nu X I c ?_
 unfold Builtin.«object.__getattribute__»
 have L:=PySem.W.looks_find (M:=model prog w) X I hf
 refine wpAny_bind (wpAny_pure (wpAny_bind (wpAny_pure (wpAny_bind (I.type.here (wpAny_bind (L.here ?_)))))))
 exact wpAny_pure h
theorem rH {od:Obj} (X:K.In s.heap) (I:PySem.W.InstAt s.heap x ox C (some od)) (c:gA K C bm) (g:ph K C) (h:R (.ok (.ret (.ref C))) s) :
  codeAny (model prog w) A (.call (.builtin "BaseException.__getattribute__") ⟨[.ref x,.str "__class__" tk],[]⟩) R s:=by
 refine nu X I c ?_
 unfold Builtin.«object.__getattribute__»
 obtain⟨cd,hc,hm⟩:=jL c
 have hf:=PySem.W.findObj_data (K:=K) (C:=C) (od:=od) (name := "__class__") (by rw [hc];rfl) g.cl g.cg g.ct
 have L:=PySem.W.looks_find (M:=model prog w) X I hf
 have mo:PySem.W.mroIn K C (.type "object")=some true:=by
  unfold PySem.W.mroIn
  rw [hc]
  show (if cd.mro.isEmpty=true then none else some (cd.mro.contains (.type "object")))=some true
  rw [hm,List.contains_cons,(c.tl _ X).hasType (X := "object") (b:=true) (by decide +kernel),Bool.or_true];rfl
 refine wpAny_bind (wpAny_pure (wpAny_bind (wpAny_pure (wpAny_bind (I.type.here (wpAny_bind (L.here ?_)))))))
 show wpAny _ _ (holding [Value.builtin "object.__class__"] (call (.builtin "getset_descriptor.__get__") [.builtin "object.__class__", .ref x,.ref C]) >>= ret) _ _ _
 exact wpAny_bind (wpAny_holding (wpAny_call (PySem.W.class_get X I mo (wpAny_pure h))))
end
section
variable {K:PySem.W.Frag} {x C:Addr} {ox od:Obj} {bm:List Value}
theorem jB (c:gA K C bm) (g:ph K C):PySem.W.KitX K (.ref x) (.ref C) (fun h=>PySem.W.InstAt h x ox C (some od)) where
 ty:=fun _ _ _ I=>I.type
 it:=fun _ _ X _=>by
  obtain⟨nm,q,N,bs,hdct,sn,sub,ab,col,dd,k0,k1,k2,k3,k5,lk⟩:=c.ob
  intro A' Q' E' s' k q
  unfold isType loadHead
  exact wpAny_bind (wpAny_loadPart (k _ _ (X _ _ lk)) (wpAny_pure q))
 ne:=fun h tp dd its n sl X htp=>by
  obtain⟨nm,q,N,bs,hdct,sn,sub,ab,col,dd',k0,k1,k2,k3,k5,lk⟩:=c.ob
  refine Bool.eq_false_iff.mpr fun z=>?_
  have e:C=tp:=Value.ref.inj (beq_iff_eq.mp z)
  subst e
  have z2:=congrArg Obj.cls (Option.some.inj ((X _ _ lk).symm.trans htp))
  exact absurd (show Value.type "type" = Value.type "tuple" from z2) (by decide +kernel)
 ca:=fun {prog w A E Q s} X I k=>by
  unfold getAttr? getAttrBy?
  refine wpAny_bind (wpAny_mkText (wpAny_bind (wpAny_attempt ?_)))
  exact nj (s:={ s with toks:=s.toks+1 }) X I g (rH (s:={ s with toks:=s.toks+1 }) X I c g ⟨_,rfl,rfl,wpAny_pure k⟩)
end
structure eF (S ch:List Addr) (h h':Heap):Prop where
 same:∀ b o,b∉S->b∉ch->h.get? b=some o->h'.get? b=some o
 slot:∀ b o,b∉ch->h.get? b=some o->∃ sl,h'.get? b=some { o with slots:=sl }
theorem eF.trans {S c1 c2:List Addr} {h h1 h2:Heap} (a:eF S c1 h h1) (b:eF S c2 h1 h2):eF S (c1++c2) h h2 where
 same:=fun x o n1 n2 q=>b.same x o n1 (fun z=>n2 (List.mem_append_right _ z)) (a.same x o n1 (fun z=>n2 (List.mem_append_left _ z)) q)
 slot:=fun x o n2 q=>by
  obtain⟨sl,z⟩:=a.slot x o (fun z=>n2 (List.mem_append_left _ z)) q
  obtain⟨sl',z'⟩:=b.slot x _ (fun z=>n2 (List.mem_append_right _ z)) z
  exact⟨sl',z'⟩
theorem eF.upd {S:List Addr} {h:Heap} {T:Addr} {f:Obj->Obj}:eF S [T] h (h.update T f) where
 same:=fun b o _ n q=>by rw [Heap.get?_update_other _ _ (fun z=>n (by rw [z];exact List.mem_singleton.mpr rfl))];exact q
 slot:=fun b o n q=>⟨o.slots,by rw [Heap.get?_update_other _ _ (fun z=>n (by rw [z];exact List.mem_singleton.mpr rfl))];exact q⟩
def dB (h:Heap) (x C T:Addr) (dx:Option Addr) (fl:Value):Prop:=
 ∃ oe vs oT ts,h.get? x=some oe/\oe.cls=.ref C/\oe.dict=dx/\oe.data=.fields vs/\vs[1]?=some (.ref T)/\T≠x/\h.get? T=some oT/\oT.data=.fields ts/\ts[3]?=some fl
section
variable {M:Model} {A:Around} {E:Value->Shared->Prop} {s:Shared} {base:Heap} {env:Env} {outer:List Env} {L e C T:Addr} {oe:Obj} {vs:Array Value} {dx:Option Addr} {fl:Value}
theorem rK (f:Array Value->Array Value) (o:Obj):(Obj.mapFields f o).dict=o.dict:=by
 unfold Obj.mapFields;split <;> rfl
theorem oW {hadNext:Bool} {head:Value} {Q:Unit->Shared->Prop} (hfr:A.frames=some (env :: outer)) (hl:s.heap.FunFrames base (env :: outer)) (hf:env.frame=some L)
  (he:s.heap.get? e=some oe) (hd:oe.data=.fields vs) (hsz:1 < vs.size) (hc:oe.cls=.ref C) (hx:oe.dict=dx)
  (h:∀ h' T,eF (iW (env :: outer)) [e] s.heap h'->s.heap.get? T=none->dB h' e C T dx (rawInt L)->Q () { s with heap:=h' }) :
  wpAny M A (do let a ← frameOf env;let pl ← entryPlaceOf L hadNext;let b ← EntryCells.newEntry head a .none (rawInt L) .none pl;setField (.ref e) 1 b) Q E s:=by
 have hene:e∉iW (env :: outer):=fun hm=>by
  obtain⟨_,o,ho,hnf⟩:=hl.mem hm
  rw [he] at ho;cases ho;exact hnf vs hd
 refine wpAny_bind (wpAny_frameOf_fun hfr hl hf fun h1 s1=>wpAny_bind (wpAny_entryPlaceOf fun pl hpl=>?_))
 unfold EntryCells.newEntry newFields
 refine wpAny_bind (wpAny_newObj_type ?_ (hpl.sizeOk5 _ _ _ _ _))
 have he1:h1.get? e=some oe:=(s1.2.1 e hene).trans he
 generalize hob:({ cls:=.type "traceback", dict:=none,data:=.fields ([head,.ref L,.none,rawInt L,.none]++(if pl.isEmpty then List.replicate 6 Value.none else pl)).toArray }:Obj)=ob
 have he2:=Heap.get?_push_of_some (h:=h1) ob he1
 refine wpAny_setField he2 hd hsz (h _ h1.objs.size ⟨fun b o n1 n2 q=>?_,fun b o n2 q=>?_⟩ ?_ ?_)
 ·rw [Heap.get?_update_other _ _ (fun z=>n2 (by rw [z];exact List.mem_singleton.mpr rfl))]
  exact Heap.get?_push_of_some _ ((s1.2.1 b n1).trans q)
 ·obtain⟨sl,z⟩:=s1.2.2 b o q
  refine⟨sl,?_⟩
  rw [Heap.get?_update_other _ _ (fun z=>n2 (by rw [z];exact List.mem_singleton.mpr rfl))]
  exact Heap.get?_push_of_some _ z
 ·exact Heap.get?_none_of_le (Nat.le_of_eq s1.1.symm)
 ·have nT:h1.objs.size≠e:=Nat.ne_of_gt (Heap.lt_size he1)
  have d3:=Obj.data_mapFields hd (·.setIfInBounds 1 (Value.ref h1.objs.size))
  refine⟨_,_,ob,_,Heap.get?_update_self _ he2 (Obj.isFreed_of_fields d3),(Obj.cls_mapFields _ _).trans hc,(rK _ _).trans hx,d3,by simp [hsz],nT,?_,by rw [← hob],?_⟩
  ·rw [Heap.get?_update_other _ _ (Ne.symm nT)]
   exact Heap.get?_push_size h1 (by rw [← hob];rfl)
  ·first | (simp;done) | (rcases hpl with rfl | ⟨_,_,_,_,_,_,_,rfl⟩ <;> simp)
theorem gU {Q:Unit->Shared->Prop} (t:dB s.heap e C T dx fl) (h:∀ h',eF [] [T] s.heap h'->dB h' e C T dx .none->Q () { s with heap:=h' }):wpAny M A (setFlight (.ref e) none) Q E s:=by
 obtain⟨oe,vs,oT,ts,q1,q2,q3,q4,q5,q6,q7,q8,q9⟩:=t
 have z3:3 < ts.size:=(Array.getElem?_eq_some_iff.mp q9).1
 unfold setFlight
 refine wpAny_bind (wpAny_field q1 q4 q5 ?_)
 rw [if_pos (by simp)]
 refine wpAny_setField q7 q8 z3 (h _ eF.upd ?_)
 have d3:=Obj.data_mapFields q8 (·.setIfInBounds 3 ((none:Option Addr).elim Value.none fun f=>rawInt f))
 exact⟨oe,vs,_,_,(Heap.get?_update_other _ _ q6).trans q1,q2,q3,q4,q5,q6,Heap.get?_update_self _ q7 (Obj.isFreed_of_fields d3),d3,by simp [z3]⟩
theorem Dy {Q:Unit->Shared->Prop} (hfr:A.frames=some (env :: outer)) (hl:s.heap.FunFrames base (env :: outer)) (hf:env.frame=some L) (he:s.heap.get? e=some oe) (hd:oe.data=.fields vs) (h1:vs[1]?=some .none) (hc:oe.cls=.ref C) (hx:oe.dict=dx)
  (h:∀ h' T,eF (iW (env :: outer)) [e] s.heap h'->s.heap.get? T=none->dB h' e C T dx (rawInt L)->Q () { s with heap:=h' }):wpAny M A (noteFrame (.ref e) env) Q E s:=by
 unfold noteFrame
 simp only [hf]
 refine wpAny_bind (wpAny_field he hd h1 ?_)
 rw [if_neg (by decide)]
 exact oW hfr hl hf he hd (Array.getElem?_eq_some_iff.mp h1).1 hc hx h
theorem zk {Q:Unit->Shared->Prop} (hfr:A.frames=some (env :: outer)) (hl:s.heap.FunFrames base (env :: outer)) (hf:env.frame=some L) (t:dB s.heap e C T dx .none)
  (h:∀ h' T',eF (iW (env :: outer)) [T,e] s.heap h'->s.heap.get? T'=none->dB h' e C T' dx (rawInt L)->Q () { s with heap:=h' }):wpAny M A (noteFrame (.ref e) env) Q E s:=by
 obtain⟨oe,vs,oT,ts,q1,q2,q3,q4,q5,q6,q7,q8,q9⟩:=t
 unfold noteFrame
 simp only [hf]
 refine wpAny_bind (wpAny_field q1 q4 q5 ?_)
 rw [if_pos (by simp)]
 refine wpAny_bind (wpAny_field q7 q8 q9 ?_)
 rw [if_neg (by simp [rawInt])]
 refine wpAny_bind (wpAny_setField q7 q8 (Array.getElem?_eq_some_iff.mp q9).1 ?_)
 have k1:eF (iW (env :: outer)) [T] s.heap (s.heap.update T (Obj.mapFields (·.setIfInBounds 3 Value.none))):=eF.upd
 have nf:∀ b o,s.heap.get? b=some o->(∀ us,o.data≠.fields us)->b∉[T]:=fun b o hb hn z=>by
  rw [List.mem_singleton.mp z,q7] at hb;cases hb;exact hn ts q8
 refine oW (base:=base) hfr (hl.of_keeps fun b o hb hn=>?_) hf ((Heap.get?_update_other _ _ q6).trans q1) q4 (Array.getElem?_eq_some_iff.mp q5).1 q2 q3 fun h' T' k nT t'=>h h' T' (k1.trans k) ?_ t'
 ·obtain⟨sl,z⟩:=k1.slot b o (nf b o hb hn) hb
  exact⟨_,z,rfl⟩
 ·cases q:s.heap.get? T' with
  | none=>rfl
  | some o=>
   exfalso
   by_cases z:T'=T
   ·have d3:=Obj.data_mapFields q8 (·.setIfInBounds 3 Value.none)
    rw [z,Heap.get?_update_self _ q7 (Obj.isFreed_of_fields d3)] at nT;cases nT
   ·rw [Heap.get?_update_other _ _ (Ne.symm z)] at nT;rw [q] at nT;cases nT
end
def Ea (d:Addr) (fs:List (Str×V)):Heap->Prop:=fun h=>∃ mA,h.Ns1 d mA/\∀ f,ft (fs.lookup f) (mA f)
def dO (d:Addr) (fs:List (Str×V)):HO:=.ext (Ea d fs)
theorem zy {P:Program} {w:World} {H:Hp} {h:Heap} {d:Addr} {fs:List (Str×V)} (e:Ea d fs h):ObjOk P w H h d (dO d fs):=
 ⟨e,let ⟨_,⟨_,_,_,q,_⟩,_⟩:=e;⟨_,q⟩,fun _ _ ⟨mA,n,r⟩ k=>⟨mA,n.at k,r⟩⟩
theorem qO {a:Option V} {b:Option Value} (r:ft a b) (h:b≠none):a≠none:=fun z=>by
 subst z
 cases b with
 | none=>exact h rfl
 | some _=>exact r.elim
theorem kn {fs:List (Str×V)} {mA:Str->Option Value} {f:Str} {y:V} {u:Value} (r:∀ g,ft (fs.lookup g) (mA g)) (q:aY y u):∀ g,ft (((f,y) :: fs).lookup g) (if g=f then some u else mA g):=fun g=>by
 by_cases z:g=f
 ·subst z
  rw [if_pos rfl,List.lookup_cons_self];exact q
 ·rw [if_neg z,List.lookup_cons,beq_eq_false_iff_ne.mpr z];exact r g
theorem jY {fs:List (Str×V)} {mA:Str->Option Value} (r:∀ g,ft (fs.lookup g) (mA g)):PySem.Within mA (fs.map (·.1)):=fun g hg=>by
 have z:=qO (r g) hg
 cases q:fs.lookup g with
 | none=>exact absurd q z
 | some v=>
  obtain⟨l1,l2,e,_⟩:=List.lookup_eq_some_iff.mp q
  rw [e];simp
section
variable {X:Cx} {pins:List (Addr×Obj)} {σ:L2.St} {H:Hp} {s:Shared} {a C:Addr}
theorem setX1 {A:Around} {E:Value->Shared->Prop} {f:Str} {y:V} {u:Value} {bm:List Value} {Q:Unit->Shared->Prop} (hex:X.ex=[]) (I:L2.Inv X pins σ H s) (e:H a=some (fV a C none)) (c:gA X.K C bm) (n:eN X.K C f) (ry:aY y u)
  (h:∀ d s',H d=none->d≠a->L2.Inv X pins σ (upd (upd H a (fV a C (some d))) d (dO d [(f,y)])) s'->Q () s'):wpAny (model X.prog X.w) A (setAttr (.ref a) f u) Q E s:=by
 obtain⟨t,hx⟩:=(show ObjOk X.prog X.w H s.heap a (fV a C none) from I.hok a _ e).1
 have J:PySem.W.InstAt s.heap a _ C none:=⟨hx,rfl,rfl,trivial⟩
 refine PySem.W.set_plain I.kIn J c.sa (kd (s:={ s with toks:=s.toks+1 }) I.kIn J c n fun b=>?_)
 obtain⟨cd,hc,hd'⟩:=PySem.W.any_some c.hd
 refine wpAny_bind (wpAny_pure (wpAny_bind (wpAny_bind (wpAny_loadPart hx (wpAny_bind (PySem.W.Looks.here (s:={ s with toks:=s.toks+1 }) (PySem.W.looks_clsIn I.kIn hc) ?_))))))
 rw [hd']
 show wpAny _ _ (alloc { cls:=.type "dict", data:=.dict #[] } >>= fun d=>update a (fun o=>{ o with dict:=some d }) >>= fun _=>dictMade (.ref C) a d) _ _ _
 have la:a < s.heap.objs.size:=Heap.lt_size hx
 have nad:s.heap.objs.size≠a:=Nat.ne_of_gt la
 have g1:=Heap.get?_push_of_some (h:=s.heap) { cls:=.type "dict", data:=.dict #[] } hx
 refine wpAny_bind (wpAny_alloc (wpAny_bind (wpAny_update g1 ?_)))
 have g2:=Heap.get?_update_self (fun o=>{ o with dict:=some s.heap.objs.size }) g1 rfl
 have e1:((s.heap.push { cls:=.type "dict", data:=.dict #[] }).update a fun o=>{ o with dict:=some s.heap.objs.size }).get? s.heap.objs.size=some { cls:=.type "dict", data:=.dict #[] }:=by
  rw [Heap.get?_update_other _ _ nad.symm];exact Heap.get?_push_size s.heap rfl
 have e3:((s.heap.push { cls:=.type "dict", data:=.dict #[] }).update a fun o=>{ o with dict:=some s.heap.objs.size }).Ns s.heap.objs.size (fun _=>none):=
  ⟨_,#[],_,e1,rfl,(fun e he=>absurd he (by simp)),fun _=>rfl⟩
 have keep:∀ b o,b≠a->s.heap.get? b=some o->((s.heap.push { cls:=.type "dict", data:=.dict #[] }).update a fun o=>{ o with dict:=some s.heap.objs.size }).get? b=some o:=fun b o nb q=>by
  rw [Heap.get?_update_other _ _ (Ne.symm nb)];exact Heap.get?_push_of_some _ q
 refine wpAny_pure (a:=some s.heap.objs.size) (wpAny_bind (wpAny_pure (wpAny_bind ?_)))
 refine wpAny_nsSet1 (Heap.Ns1.of_empty e3) fun h' hn2 hs2=>?_
 have rel:∀ g,ft ([(f,y)].lookup g) (if g=f then some u else none):=kn (fs:=[]) (mA:=fun _=>none) (fun _=>trivial) ry
 obtain⟨oD,esD,epD,hoD,hdD,hcD⟩:=hn2.count (jY rel)
 refine wpAny_bind (wpAny_lookBehind hoD (by rw [hdD];exact pastItsLine_dict (Nat.le_trans hcD (Nat.le_add_left _ _))) ?_)
 have hno:s.heap.get? s.heap.objs.size=none:=Heap.get?_none_of_le (Nat.le_refl _)
 have hH:H s.heap.objs.size=none:=B.Inv.none_of I hno
 refine wpAny_pure (h s.heap.objs.size _ hH nad ?_)
 have ga:h'.get? a=some { cls:=.ref C,dict:=some s.heap.objs.size,data:=.fields #[.ref t,.none,.none,.none,.bool false,.none] }:=(hs2.2 a nad.symm).trans g2
 have I2:L2.Inv X pins σ (upd H a (fV a C (some s.heap.objs.size))) { s with heap:=h',toks:=s.toks+1+1 }:=I.write (x:=a) (e:=a) (o:=fV a C (some s.heap.objs.size)) (h':=h') (by rw [e];trivial) (.inl rfl) (fun b o nb q=>by
  have nb2:b≠s.heap.objs.size:=Nat.ne_of_lt (Heap.lt_size q)
  exact (hs2.2 b nb2).trans (keep b o nb q)) ⟨_,ga⟩ (vX ⟨t,ga⟩)
 exact B.Inv.adopt I2 (B.Inv.newAt I hex hno) (by rw [av nad];exact hH) hex (zy ⟨_,hn2,rel⟩)
theorem setX2 {A:Around} {E:Value->Shared->Prop} {f:Str} {y:V} {u:Value} {bm:List Value} {d:Addr} {fs:List (Str×V)} {Q:Unit->Shared->Prop} (I:L2.Inv X pins σ H s) (e:H a=some (fV a C (some d))) (ed:H d=some (dO d fs)) (hl:fs.length≤100) (c:gA X.K C bm) (n:eN X.K C f) (ry:aY y u)
  (h:∀ s',L2.Inv X pins σ (upd H d (dO d ((f,y) :: fs))) s'->Q () s'):wpAny (model X.prog X.w) A (setAttr (.ref a) f u) Q E s:=by
 obtain⟨t,hx⟩:=(show ObjOk X.prog X.w H s.heap a (fV a C (some d)) from I.hok a _ e).1
 obtain⟨mA,hn,rel0⟩:=(show ObjOk X.prog X.w H s.heap d (dO d fs) from I.hok d _ ed).1
 obtain⟨od,_,_,hod,_⟩:=id hn
 have J:PySem.W.InstAt s.heap a _ C (some od):=⟨hx,rfl,rfl,hod⟩
 refine PySem.W.set_plain I.kIn J c.sa (kd (s:={ s with toks:=s.toks+1 }) I.kIn J c n fun b=>?_)
 obtain⟨cd,hc,hd'⟩:=PySem.W.any_some c.hd
 refine wpAny_bind (wpAny_pure (wpAny_bind (wpAny_bind (wpAny_loadPart hx (wpAny_bind (PySem.W.Looks.here (s:={ s with toks:=s.toks+1 }) (PySem.W.looks_clsIn I.kIn hc) ?_))))))
 rw [hd']
 refine wpAny_pure (a:=some d) (wpAny_bind (wpAny_pure (wpAny_bind ?_)))
 refine wpAny_nsSet1 (s:={ s with toks:=s.toks+1 }) hn fun h' hn2 hs2=>?_
 have rel:=kn (f:=f) rel0 ry
 obtain⟨oD,esD,epD,hoD,hdD,hcD⟩:=hn2.count (jY rel)
 have hz:esD.size≤101:=by rw [List.length_map,List.length_cons] at hcD;omega
 refine wpAny_bind (wpAny_lookBehind hoD (by rw [hdD];exact pastItsLine_dict (Nat.le_trans hz (by decide))) ?_)
 refine wpAny_pure (h _ ?_)
 exact I.write (x:=d) (e:=d) (o:=dO d ((f,y) :: fs)) (h':=h') (by rw [ed];trivial) (.inl rfl) (fun b o nb q=>(hs2.2 b nb).trans q) ⟨_,hoD⟩ (zy ⟨_,hn2,rel⟩)
end
section
variable {X:Cx} {o value:Expr} {f:Str} {ta tv:TE} {pos' pos:Pos}
def zf (K:PySem.W.Frag) (ta tv:TE) (f:Str):TS:=fun D σ H=>tv σ H fun y H1=>ta σ H1 fun x H2=>∃ a C bm,x=.ref a/\gA K C bm/\eN K C f∧
 ((H2 a=some (fV a C none)/\∀ d,H2 d=none->d≠a->D.nx σ (upd (upd H2 a (fV a C (some d))) d (dO d [(f,y)])))∨
  ∃ d fs,H2 a=some (fV a C (some d))/\H2 d=some (dO d fs)/\fs.length≤100/\D.nx σ (upd H2 d (dO d ((f,y) :: fs))))
theorem xt (hex:X.ex=[]) (ha:PE X o ta) (hv:PE X value tv) (hs:swapsWith value (some (.Attribute o f pos')) pos.line X.env=pure false):PS X (.Assign [.Attribute o f pos'] value pos) (zf X.K ta tv f):=by
 intro pins s σ H D I h
 refine plainObj_wpAny_Assign_Attribute (bX (hv pins s σ H _ I h) fun u s1 ⟨y,H1,I1,ry,q⟩=>bX (ha pins s1 σ H1 _ I1 q) fun ov s2 ⟨x,H2,I2,rx,a,C,bm,ex,c,n,q2⟩=>?_) hs
 subst ex
 obtain rfl:ov=Value.ref a:=rx
 rcases q2 with ⟨ea,k⟩ | ⟨d,fs,ea,ed,hl,k⟩
 ·exact B.setX1 hex I2 ea c n ry fun d s' hd nd I'=>⟨σ,_,I',k d hd nd⟩
 ·exact B.setX2 I2 ea ed hl c n ry fun s' I'=>⟨σ,_,I',k⟩
end
theorem eF.any {S ch:List Addr} {h h':Heap} (k:eF [] ch h h'):eF S ch h h':=⟨fun b o _ n q=>k.same b o (fun z=>by cases z) n q,k.slot⟩
section
variable {X:Cx} {pins:List (Addr×Obj)} {σ:L2.St} {H:Hp} {s:Shared} {a C T:Addr} {dx:Option Addr} {fl:Value}
theorem Inv.leftK {ch:List Addr} {h':Heap} {tk:Nat} (I:L2.Inv X pins σ H s) (hch:∀ b∈ch,H b=none/\cO X pins b) (k:eF (iW X.stack) ch s.heap h'):L2.Inv X pins σ H { s with heap:=h',toks:=tk }:=by
 have zR:∀ b o,H b=some o->b∉iW X.stack/\b∉ch:=fun b o q=>
  ⟨(fun z=>by rw [I.stkFree b z] at q;cases q),(fun z=>by rw [(hch b z).1] at q;cases q)⟩
 refine I.call' (s':={ s with heap:=h',toks:=tk }) (ch:=ch) rfl ⟨fun b o q _ n1 n2=>k.same b o n1 n2 q,fun b o q _ n1 n2=>k.slot b o n2 q,fun b o _ n _=>n,fun b o q n2=>?_,fun b xs q=>q,fun b o u q=>q,fun b ps q=>⟨#[],by rw [Array.append_empty];exact q⟩⟩ (fun b o q=>?_) I.bare
  (fun b hb=>⟨.inr (hch b hb).2.st,(hch b hb).2.lo,(hch b hb).2.ce,(hch b hb).2.pi⟩)
 ·obtain⟨sl,z⟩:=k.slot b o n2 q
  exact⟨_,z⟩
 ·refine (I.hok b o q).stay (fun c u hc z=>?_) (fun c z=>z) (fun c xs z=>z)
  rcases hc with rfl | hc
  ·obtain⟨n1,n2⟩:=zR _ _ q;exact k.same _ _ n1 n2 z
  ·obtain⟨n1,n2⟩:=zR _ _ hc;exact k.same _ _ n1 n2 z
theorem BB {A:Around} {E':Value->Shared->Prop} {Q:Shared->Prop} {oe:Obj} {vs:Array Value} (hA:A.frames=X.A.frames) (I:L2.Inv X pins σ H s) (hex:X.ex=[]) (hst:X.stack=X.env :: X.outer) (hfr:X.env.frame=some X.env.locals)
  (ha:H a=none) (na:cO X pins a) (hx:s.heap.get? a=some oe) (hd:oe.data=.fields vs) (h1:vs[1]?=some .none) (hc:oe.cls=.ref C) (hdx:oe.dict=dx)
  (h:∀ (s':Shared) (T:Addr),L2.Inv X pins σ H s'->cO X pins T->H T=none->dB s'.heap a C T dx .none->Q s') :
  wpAny (model X.prog X.w) A (noteFrame (.ref a) X.env) (fun _ s2=>wpAny (model X.prog X.w) A (setFlight (.ref a) none) (fun _ s3=>Q s3) E' s2) E' s:=by
 have hfrm:A.frames=some (X.env :: X.outer):=by rw [hA,I.ok.frames,hst]
 refine Dy (base:=X.base) hfrm (by rw [← hst];exact I.stack) hfr hx hd h1 hc hdx fun h1 T k1 nT t1=>?_
 refine gU (s:={ s with heap:=h1 }) t1 fun h2 k2 t2=>?_
 have nt:=B.Inv.newAt I hex nT
 have hT:=B.Inv.none_of I nT
 rw [← hst] at k1
 refine h { s with heap:=h2 } T (B.Inv.leftK (tk:=s.toks) I (fun b hb=>?_) (k1.trans k2.any)) nt hT t2
 simp only [List.cons_append,List.nil_append,List.mem_cons,List.not_mem_nil,or_false] at hb
 rcases hb with rfl | rfl
 ·exact⟨ha,na⟩
 ·exact⟨hT,nt⟩
theorem vh {A:Around} {E':Value->Shared->Prop} {Q:Shared->Prop} (hA:A.frames=X.A.frames) (I:L2.Inv X pins σ H s) (hex:X.ex=[]) (hst:X.stack=X.env :: X.outer) (hfr:X.env.frame=some X.env.locals)
  (ha:H a=none) (na:cO X pins a) (hT:H T=none) (nT:cO X pins T) (t:dB s.heap a C T dx .none)
  (h:∀ (s':Shared) (T':Addr),L2.Inv X pins σ H s'->cO X pins T'->H T'=none->dB s'.heap a C T' dx .none->Q s') :
  wpAny (model X.prog X.w) A (noteFrame (.ref a) X.env) (fun _ s2=>wpAny (model X.prog X.w) A (setFlight (.ref a) none) (fun _ s3=>Q s3) E' s2) E' s:=by
 have hfrm:A.frames=some (X.env :: X.outer):=by rw [hA,I.ok.frames,hst]
 refine zk (base:=X.base) hfrm (by rw [← hst];exact I.stack) hfr t fun h1 T' k1 nT' t1=>?_
 refine gU (s:={ s with heap:=h1 }) t1 fun h2 k2 t2=>?_
 have nt:=B.Inv.newAt I hex nT'
 have hT':=B.Inv.none_of I nT'
 rw [← hst] at k1
 refine h { s with heap:=h2 } T' (B.Inv.leftK (tk:=s.toks) I (fun b hb=>?_) (k1.trans k2.any)) nt hT' t2
 simp only [List.cons_append,List.nil_append,List.mem_cons,List.not_mem_nil,or_false] at hb
 rcases hb with rfl | rfl | rfl
 ·exact⟨hT,nT⟩
 ·exact⟨ha,na⟩
 ·exact⟨hT',nt⟩
theorem BS {A:Around} {E':Value->Shared->Prop} {Q:Shared->Prop} (I:L2.Inv X pins σ H s) (hT:H T=none) (nT:cO X pins T) (t:dB s.heap a C T dx .none)
  (h:∀ (s':Shared),L2.Inv X pins σ H s'->dB s'.heap a C T dx .none->Q s'):wpAny (model X.prog X.w) A (setFlight (.ref a) none) (fun _ s3=>Q s3) E' s:=by
 refine gU t fun h2 k2 t2=>h _ (B.Inv.leftK (tk:=s.toks) I (fun b hb=>?_) k2.any) t2
 rw [List.mem_singleton.mp hb];exact⟨hT,nT⟩
end
def nP (P:Program) (w:World):l5:=fun outer H s E e s'=>∃ (x C T:Addr) (dx:Option Addr) (H':Hp),e=.ref x/\s'.os=s.os/\AllBare s'.gens/\Un (iW outer) [] H H' s.heap s'.heap/\fP P w H' s'.heap/\s.heap.get? x=none/\s.heap.get? T=none/\H' x=none/\H' T=none∧
 dB s'.heap x C T dx .none/\E (.ref C) dx H'
section
variable {P:Program} {w:World} {K:PySem.W.Frag} {mg:Str->Option Value} {base:Heap} {N:List Str} {qual:Str} {scope:Scope} {f:Addr} {cd:Value} {A:Around} {outer:List Env} {s:Shared} {H:Hp} {E:XK}
theorem Dm:eM (nP P w) (bw (nP P w) P w K mg base N qual scope f cd A outer s H E) E:=by
 intro pins σ H1 s1 e s2 I hx
 obtain⟨x,C,T,dx,H2,rfl,ho,hb,un,hok,nx,nT,hx2,hT2,tr,hE⟩:=hx
 have na:=B.Inv.newAt I rfl nx
 have nt:=B.Inv.newAt I rfl nT
 have I2:L2.Inv (bw (nP P w) P w K mg base N qual scope f cd A outer s H E) pins σ H2 s2:=I.call' ho un hok hb (fun b hb=>by cases hb)
 show wpAny (model P w) _ (leaving _ _) _ _ s2
 unfold leaving
 refine wpAny_bind (vh rfl I2 rfl rfl rfl hx2 na hT2 nt tr fun s3 T' I3 nT' hT' tr'=>?_)
 exact⟨x,C,T',dx,H2,rfl,I3.os,I3.bare,I3.base,I3.hok,na.st,nT'.st,hx2,hT',tr',hE⟩
def o5 (X:Cx) (E:XK):Prop:=∀ (pins:List (Addr×Obj)) (σ:L2.St) (H:Hp) (s:Shared) (a C:Addr) (dx:Option Addr) (oe:Obj) (vs:Array Value),L2.Inv X pins σ H s->H a=none->cO X pins a->s.heap.get? a=some oe->oe.data=.fields vs→
 vs[1]?=some .none->oe.cls=.ref C->oe.dict=dx->E (.ref C) dx H->X.xe (.ref a) s
theorem zU:o5 (bw (nP P w) P w K mg base N qual scope f cd A outer s H E) E:=by
 intro pins σ H1 s1 a C dx oe vs I ha na hx hd h1 hc hdx hE
 show wpAny (model P w) _ (leaving _ _) _ _ s1
 unfold leaving
 refine wpAny_bind (BB rfl I rfl rfl rfl ha na hx hd h1 hc hdx fun s3 T' I3 nT' hT' tr'=>?_)
 exact⟨a,C,T',dx,H1,rfl,I3.os,I3.bare,I3.base,I3.hok,na.st,nT'.st,ha,hT',tr',hE⟩
theorem Fun.okD {x:Str} {st:Stmt} {fd:FuncData} {ps:List Str} {k:Nat} {sp:Sp} (F:Fun K x qual st f fd) (S:aH N ps (au st)) (len:∀ vs H Q E,sp vs H Q E->vs.length=ps.length)
  (hbody:∀ (cdv:Value) (A:Around) (outer:List Env) (s:Shared) (H:Hp) (vs:List V) (Q:VK) (E:XK),cu k (A.deeper (envOfC qual (au st) s.heap.objs.size f cdv))->sp vs H Q E→
   ∃ t,jV (bw (nP P w) P w K mg base N qual (au st) f cdv A outer s H E) (cI st) t/\t { nx:=fun _ H'=>Q .non H',rt:=Q } (d6 N vs) H):bB P w K mg base (nP P w) (k+1) f fd ps sp:=by
 obtain⟨oc,od,kV,doc,pm,an,cdv,ct,osl,rfl,lk,hcd⟩:=F.ex
 exact vV lk hcd S len fun A outer s H vs Q E hr hsp=>hbody cdv A outer s H vs Q E hr hsp
end
section
variable {X:Cx} {k:Nat} {f C:Addr} {fd:FuncData} {ps:List Str} {sp:Sp} {bm:List Value}
def pA (C:Addr) (sp:Sp) (E:XK) (t:TA):TS:=fun _ σ H=>t σ H fun vs H1=>vs.length≤sizeLine/\∀ a,H1 a=none->sp (.ref a :: vs) (upd H1 a (fV a C none)) (fun v H2=>v=.non/\∃ dx,H2 a=some (fV a C dx)/\E (.ref C) dx (jU H2 a)) E0
theorem qS {x:Str} {p cpos pos:Pos} {e:Expr} {es:List Expr} {t:TA} {E:XK} (M:XC X.K C f bm) (hbase:bm.contains (.type "BaseException")=true) (hex:X.ex=[]) (tk:o5 X E) (F:bB X.prog X.w X.K X.mg X.base dk k f fd ps sp) (hr:cu (k+1) X.A) (hb:aP X.K fd ps [])
  (hg:Gl X x) (hm:X.mg x=some (.ref C)) (ha:PA X (e :: es) t) (hdb:(x == ("__debug__" : Str))=false:=by decide) (he:starEach (e :: es) X.env=(false,eval e X.env) :: starEach es X.env:=by rfl) (hpl:(backTo cpos (starEach es X.env)).any (·.1)=false:=by rfl) :
  PS X (.Raise (some (.Call (.Name x p) (e :: es) [] cpos)) none pos) (pA C sp E t):=by
 intro pins s σ H D I h
 obtain⟨nm,q,N,bs,hdct,sn,sub,ab,col,dd,k0,k1,k2,k3,k5,lk⟩:=M.ob
 rw [arm_exec_Raise]
 refine wpAny_bind (wpAny_standAt (qP (C:=C) (bm:=bm) (nm:=nm) (q:=q) (N:=N) (bs:=bs) (hdct:=hdct) (sn:=sn) (sub:=sub) (ab:=ab) (col:=col) (dd:=dd) (k0:=k0) (k1:=k1) (k2:=k2) (k3:=k3) (k5:=k5) (newId := "ValueError.__new__") hbase hr.hd ?_))
 refine wpAny_bind (wpAny_mono (Q:=fun v s'=>∃ a H',v=.ref a/\cO X pins a/\L2.Inv X pins σ H' s'/\∃ dx,H' a=some (fV a C dx)/\E (.ref C) dx (jU H' a)) ?_ (fun v s1 h1=>wpAny_bind (wpAny_standAt (wpAny_pure ?_))) fun _ _ y=>y)
 ·refine wpAny_Call_Name_kw (gT I hg hm ?_ hdb)
  refine PySem.W.callWith_K (h₀:=X.base) I.ok.mod.kin M.kp (bX (ha cpos pins s σ H _ I h) fun us s1 ⟨vs,H1,I1,r,hz,q⟩=>⟨I1.kIn,?_⟩) he hpl
  exact wW M hex F hr hb I1 (us:=[]++us) r (by rw [List.nil_append,← r.length];exact hz) q
 ·obtain⟨a,H',rfl,na,I1,dx,hx,hE⟩:=h1
  obtain⟨tt,ho⟩:=(show L2.ObjOk X.prog X.w H' s1.heap a (fV a C dx) from I1.hok a _ hx).1
  exact⟨a,tt,dx,rfl,I1.kIn _ _ lk,ho,tk pins σ (jU H' a) s1 a C dx _ _ (B.Inv.forget I1 hx na.st) jK na ho rfl rfl rfl rfl hE⟩
end
abbrev RX:=Addr->Option Addr->Hp->Prop
def Fw (X:Cx) (pins:List (Addr×Obj)) (R:RX):Value->Shared->Prop:=fun e s=>∃ (x C T:Addr) (dx:Option Addr) (H:Hp),e=.ref x/\L2.Inv X pins (m9 X.N) H s/\H x=none/\cO X pins x/\H T=none/\cO X pins T/\dB s.heap x C T dx .none/\R C dx H
def gv (X:Cx) (pins:List (Addr×Obj)) (R:RX):Cx:={ X with pn:=X.pn++pins,xe:=Fw X pins R }
section
variable {X:Cx} {pins pins':List (Addr×Obj)} {σ:L2.St} {H:Hp} {s:Shared} {R:RX} {e:Addr}
theorem zS (I:L2.Inv X pins σ H s):L2.Inv (gv X pins R) [] σ H s:=
 ⟨⟨I.ok.mod,I.ok.kind,I.ok.glob,I.ok.blt,I.ok.above,I.ok.inj,I.ok.has,I.ok.cab,I.ok.hd,I.ok.frames,I.ok.stk,I.ok.exf,I.ok.bs,I.ok.bsz,I.ok.noex,I.ok.exfs,I.ok.funs,I.ok.frf⟩,I.os,I.bare,I.base,I.loc,I.cell,I.free,I.freeC,
  fun p hp=>I.pin p (by rw [List.append_nil] at hp;exact hp),I.hok,I.len⟩
theorem ofTryD (I:L2.Inv (gv X pins R) pins' σ H s):L2.Inv X pins σ H s:=
 ⟨⟨I.ok.mod,I.ok.kind,I.ok.glob,I.ok.blt,I.ok.above,I.ok.inj,I.ok.has,I.ok.cab,I.ok.hd,I.ok.frames,I.ok.stk,I.ok.exf,I.ok.bs,I.ok.bsz,I.ok.noex,I.ok.exfs,I.ok.funs,I.ok.frf⟩,I.os,I.bare,I.base,I.loc,I.cell,I.free,I.freeC,
  fun p hp=>I.pin p (List.mem_append_left _ hp),I.hok,I.len⟩
def Fy (R:RX):XK:=fun v dx H=>∃ C,v=.ref C/\R C dx H
theorem u3 (hex:X.ex=[]):eM (nP X.prog X.w) (gv X pins R) (Fy R):=by
 intro pins' σ H1 s1 e s2 I hx
 obtain⟨x,C,T,dx,H2,rfl,ho,hb,un,hok,nx,nT,hx2,hT2,tr,C',e',hr⟩:=hx
 cases e'
 have na:=B.Inv.newAt I hex nx
 have nt:=B.Inv.newAt I hex nT
 have I2:L2.Inv (gv X pins R) pins' σ H2 s2:=I.call' ho un hok hb (fun b hb=>by cases hb)
 exact⟨x,C,T,dx,H2,rfl,vO (ofTryD I2),hx2,⟨na.st,na.lo,na.ce,fun p hp=>na.pi p (List.mem_append_left _ hp),na.fr⟩,hT2,⟨nt.st,nt.lo,nt.ce,fun p hp=>nt.pi p (List.mem_append_left _ hp),nt.fr⟩,tr,hr⟩
theorem SP.ofTryD {D:iA} {f:Flow} (h:SP (gv X pins R) [] D f s):SP X pins D f s:=by
 cases f with
 | next=>obtain⟨σ',H',I,q⟩:=h;exact⟨σ',H',B.ofTryD I,q⟩
 | brk=>obtain⟨σ',H',I,q⟩:=h;exact⟨σ',H',B.ofTryD I,q⟩
 | cont=>obtain⟨σ',H',I,q⟩:=h;exact⟨σ',H',B.ofTryD I,q⟩
 | ret u=>obtain⟨v,σ',H',I,r,q⟩:=h;exact⟨v,σ',H',B.ofTryD I,r,q⟩
end
theorem fL {X:Cx} {pins:List (Addr×Obj)} {σ:L2.St} {H:Hp} {s:Shared} {M:Model} {A:Around} {E:Value->Shared->Prop} {i:Nat} {x:Str} {pos:Pos} {Q:Unit->Shared->Prop} (I:L2.Inv X pins σ H s) (hN:X.N.Nodup) (hi:X.N[i]?=some x) (hk:X.env.scope.names.lookup x=some .local)
  (h:∀ s',L2.Inv X pins (σ.set i none) H s'->Q () s'):wpAny M A (do bindName X.env x .none;unbindBehindTheSuite X.env x pos) Q E s:=by
 obtain⟨m,hn,hl⟩:=id I.loc
 have hiσ:i < σ.length:=by rw [I.len];exact (List.getElem?_eq_some_iff.mp hi).1
 have lt:∀ b o,X.s₀.heap.get? b=some o->b≠X.env.locals:=fun b o e=>Nat.ne_of_lt (Nat.lt_of_lt_of_le (Heap.lt_size e) I.ok.above)
 refine wpAny_nameGoes_keeps hk hn (by rw [I.ok.kind];rfl) fun h' v hn' hs=>h _ ?_
 refine⟨I.ok,I.os,I.bare,⟨fun b o e n hb hx=>(hs.2 b (lt b o e)).trans (I.base.keep b o e n hb hx),fun b o e n hb hx=>?_,I.base.free,fun b o e hx=>?_,I.base.tups,I.base.frzs,I.base.tbls⟩,⟨_,hn',fun j y v' e1 e2 e3=>?_⟩,fun y c e=>?_,I.free,I.freeC,fun p hp=>?_,fun b ob e=>?_,by simpa using I.len⟩
 ·obtain⟨sl,e1⟩:=I.base.slot b o e n hb hx
  exact⟨sl,(hs.2 b (lt b o e)).trans e1⟩
 ·obtain⟨o',e1⟩:=I.base.there b o e hx
  exact⟨o',(hs.2 b (lt b o e)).trans e1⟩
 ·have hj:j≠i:=fun z=>by subst z;rw [List.getElem?_set_self hiσ] at e2;cases e2
  rw [List.getElem?_set_ne (Ne.symm hj)] at e2
  obtain⟨u',r',q⟩:=hl j y v' e1 e2 e3
  refine⟨u',r',?_⟩
  rcases q with ⟨k,e⟩ | ⟨k,c,e,z⟩
  ·refine .inl ⟨k,?_⟩
   have ny:y≠x:=fun e=>hj (jx hN e1 (e ▸ hi))
   show (if y=x then v else m y)=some u'
   rw [if_neg ny];exact e
  ·exact .inr ⟨k,c,e,z.sameBut hs (I.cne y c e)⟩
 ·obtain⟨w',z⟩:=I.cell y c e
  exact⟨w',z.sameBut hs (I.cne y c e)⟩
 ·obtain⟨e,n,ne,nf,d⟩:=I.pin p hp
  exact⟨(hs.2 p.1 ne).trans e,n,ne,nf,d⟩
 ·refine (I.hok b ob e).stay (fun c w' hc q=>(hs.2 c ?_).trans q) (fun _ q=>q) fun _ _ q=>q
  rintro rfl
  rcases hc with rfl | hc
  ·rw [I.free] at e;cases e
  ·rw [I.free] at hc;cases hc
def Fx (a C d:Addr):Heap->Prop:=fun h=>∃ oe,h.get? a=some oe/\oe.cls=.ref C/\oe.dict=some d/\PySem.W.notCls oe=true
def rJ (a C d:Addr):HO:=.ext (Fx a C d)
theorem BT {P:Program} {w:World} {H:Hp} {h:Heap} {a C d:Addr} (e:Fx a C d h):ObjOk P w H h a (rJ a C d):=
 ⟨e,let ⟨_,q,_⟩:=e;⟨_,q⟩,fun _ _ ⟨o,q,r⟩ k=>⟨o,k _ q,r⟩⟩
theorem dB.er {h:Heap} {x C T d:Addr} {fl:Value} (t:dB h x C T (some d) fl):Fx x C d h:=by
 obtain⟨oe,vs,oT,ts,q1,q2,q3,q4,_⟩:=t
 exact⟨oe,q1,q2,q3,by unfold PySem.W.notCls;rw [q4]⟩
def DH (i:Nat) (D:iA):iA:={ nx:=fun σ H=>D.nx (σ.set i none) H,rt:=D.rt,bk:=fun σ H=>D.bk (σ.set i none) H,ct:=fun σ H=>D.ct (σ.set i none) H }
def FH (N:List Str) (R:RX) (Ok:Addr->Prop) (tb th:TS):TS:=fun D σ H=>tb D σ H/\∀ C dx H',R C dx H'->Ok C/\th D (m9 N) H'
def sv (N:List Str) (i:Nat) (R:RX) (Ok:Addr->Prop) (tb th:TS):TS:=fun D σ H=>tb D σ H/\∀ C dx H',R C dx H'->Ok C/\∃ d,dx=some d/\∀ a,H' a=none->th (DH i D) ((m9 N).set i (some (.ref a))) (upd H' a (rJ a C d))
section
variable {X:Cx} {R:RX} {body:List Stmt} {b₀:Stmt} {suite:List Stmt} {x:Str} {p hpos pos:Pos} {u:Value} {tb th:TS}
theorem zP {M:Model} {h:Heap} {a C T:Addr} {dx:Option Addr} {fl:Value} (t:dB h a C T dx fl):PySem.W.Looks M h (typeOf (.ref a)) (.ref C):=by
 obtain⟨oe,_,_,_,q1,q2,_⟩:=t
 rw [← q2]
 exact (PySem.W.Looks.ld q1).andThen .now
theorem uH {i:Nat} {n:Str} (hex:X.ex=[]) (hst:X.stack=X.env :: X.outer) (hfr:X.env.frame=some X.env.locals) (hg:Gl X x) (hm:X.mg x=some u) (hN:X.N.Nodup) (hi:X.N[i]?=some n) (hn:X.env.scope.names.lookup n=some .local)
  (hb:∀ pins,jV (gv X pins R) body tb) (hs:∀ e,jV (kD X e) (b₀ :: suite) th) (hd:(x == ("__debug__" : Str))=false:=by decide) :
  PS X (.Try body [.ExceptHandler (some (.Name x p)) (some n) (b₀ :: suite) hpos] [] [] pos) (sv X.N i R (fun C=>PySem.W.exmOne X.K (.ref C) u=some true) tb th):=by
 intro pins s σ H D I ⟨h1,h2⟩
 refine wpAny_Try_except (wpAny_mono (hb pins [] s σ H D (zS I) h1) (fun f s1 q=>?_) fun e s1 q=>?_)
 ·have q':=SP.ofTryD q
  cases f with
  | next=>exact wpAny_execs_nil q'
  | brk=>exact q'
  | cont=>exact q'
  | ret u=>exact q'
 ·obtain⟨a,C,T,dx,H1,rfl,I1,ha,na,hT,nT,tr,hR⟩:=q
  obtain⟨hk,d,rfl,hth⟩:=h2 C dx H1 hR
  refine vh rfl I1 hex hst hfr ha na hT nT tr fun s2 T2 I2 nT2 hT2 tr2=>?_
  refine wpAny_handleBy_cons (codeAny_handlers_test ?_) (by intro z;cases z)
  refine gT (X:=kD X a) (yT I2) hg hm ?_ hd
  refine PySem.W.Looks.here (s:=s2) (PySem.W.exm_one (M:=model X.prog X.w) I2.kIn (zP tr2) hk) ?_
  refine codeAny_handlers_suite_as ?_
  refine BS I2 hT2 nT2 tr2 fun s3 I3 tr3=>?_
  have I4:L2.Inv X pins (m9 X.N) (upd H1 a (rJ a C d)) s3:=B.Inv.adopt I3 na ha hex (BT tr3.er)
  refine d5 (X:=kD X a) (yT I4) hN hi (.inl hn) (v:=.ref a) (u:=.ref a) rfl (fun s5 I5=>?_) (.inr hn)
  refine wpAny_mono (hs a pins s5 _ _ (DH i D) I5 (hth a ha)) (fun f s6 q6=>?_) fun _ _ z=>z.elim
  cases f with
  | next=>obtain⟨σ',H',J,q⟩:=q6;exact fL (pT I.ok J) hN hi hn fun s' J'=>⟨_,_,J',q⟩
  | brk=>obtain⟨σ',H',J,q⟩:=q6;exact fL (pT I.ok J) hN hi hn fun s' J'=>⟨_,_,J',q⟩
  | cont=>obtain⟨σ',H',J,q⟩:=q6;exact fL (pT I.ok J) hN hi hn fun s' J'=>⟨_,_,J',q⟩
  | ret u=>obtain⟨v,σ',H',J,r,q⟩:=q6;exact fL (pT I.ok J) hN hi hn fun s' J'=>⟨v,_,_,J',r,q⟩
end
def Da (K:PySem.W.Frag):List V->Hp->VK->Prop:=fun xs H Q=>∃ (a C d:Addr) (fs:List (Str×V)) (bm:List Value) (c:V) (b:Bool),xs=[.ref a,c]/\H a=some (rJ a C d)/\H d=some (dO d fs)/\gA K C bm/\ph K C∧
 ((∃ n,c=.ty n/\PySem.W.kitOne K (.ref C) (.type n)=some b)∨(∃ D,c=.ref D/\PySem.W.kitOne K (.ref C) (.ref D)=some b)∨
  ∃ (p:Addr) (cs:List Addr),c=.ref p/\H p=some (.tup (cs.map V.ref))/\PySem.W.kitAny K (.ref C) (cs.map Value.ref)=some b)/\Q (.bl b) H
theorem j4:∀ {cs:List Addr} {us:List Value},aZ (cs.map V.ref) us->us=cs.map Value.ref
 | [],_,.nil=>rfl
 | c :: cs,_,.cons r q=>by
  rw [List.map_cons,j4 q,(show _=Value.ref c from r)]
theorem we {X:Cx}:dj X (.builtin "isinstance") (Da X.K):=by
 intro pins s σ H xs us Q I r h
 obtain⟨a,C,d,fs,bm,c,b,rfl,ea,ed,cl,gx,k,q⟩:=h
 obtain⟨u,u2,rfl,rx,ry⟩:=j7 r
 obtain rfl:u=Value.ref a:=rx
 obtain⟨oe,h1,h2,h3,h4⟩:=(show ObjOk X.prog X.w H s.heap a (rJ a C d) from I.hok a _ ea).1
 obtain⟨mA,⟨od,es,ep,h5,_⟩,_⟩:=(show ObjOk X.prog X.w H s.heap d (dO d fs) from I.hok d _ ed).1
 have J:PySem.W.InstAt s.heap a oe C (some od):=⟨h1,h2,h4,by rw [h3];exact h5⟩
 rcases k with ⟨n,rfl,e⟩ | ⟨D,rfl,e⟩ | ⟨p,cs,rfl,hp,e⟩
 ·obtain rfl:u2=Value.type n:=ry
  exact PySem.W.kia_one (jB cl gx) I.kIn J e (fun z=>nomatch z) fun tk=>⟨.bl b,H,I.tok tk,rfl,q⟩
 ·obtain rfl:u2=Value.ref D:=ry
  exact PySem.W.kia_one (jB cl gx) I.kIn J e (fun z=>nomatch z) fun tk=>⟨.bl b,H,I.tok tk,rfl,q⟩
 ·obtain rfl:u2=Value.ref p:=ry
  obtain⟨_,its,rv,o,ho,hc,n,hd⟩:=(show ObjOk X.prog X.w H s.heap p (.tup (cs.map V.ref)) from I.hok p _ hp)
  rw [j4 rv] at hd
  obtain⟨oc,odd,oda,osl⟩:=o
  dsimp only at hc hd
  subst hc;subst hd
  exact PySem.W.kia_tup (jB cl gx) I.kIn J ho e (fun z=>nomatch z) fun tk=>⟨.bl b,H,I.tok tk,rfl,q⟩
theorem hJ {X:Cx} {K:PySem.W.Frag} (h:X.K=K):dj X (.builtin "isinstance") (Da K):=by
 subst h;exact we
def nM (H:Hp) (a C d:Addr):Prop:=H a=some (rJ a C d)∨H a=some (fV a C (some d))
section
variable {X:Cx} {pins:List (Addr×Obj)} {σ:L2.St} {H:Hp} {s:Shared} {a C d:Addr} {fs:List (Str×V)}
theorem nM.inst (I:L2.Inv X pins σ H s) (h:nM H a C d) (ed:H d=some (dO d fs)):∃ (oe od:Obj) (mA:Str->Option Value),PySem.W.InstAt s.heap a oe C (some od)/\(∀ name,PySem.W.lookIn name od=some (mA name))/\∀ f,ft (fs.lookup f) (mA f):=by
 obtain⟨mA,hn,r⟩:=(show ObjOk X.prog X.w H s.heap d (dO d fs) from I.hok d _ ed).1
 obtain⟨od,ho,hl⟩:=ky hn
 rcases h with h | h
 ·obtain⟨oe,h1,h2,h3,h4⟩:=(show ObjOk X.prog X.w H s.heap a (rJ a C d) from I.hok a _ h).1
  exact⟨oe,od,mA,⟨h1,h2,h4,by rw [h3];exact ho⟩,hl,r⟩
 ·obtain⟨t,h1⟩:=(show ObjOk X.prog X.w H s.heap a (fV a C (some d)) from I.hok a _ h).1
  exact⟨_,od,mA,⟨h1,rfl,rfl,ho⟩,hl,r⟩
end
def y9 (K:PySem.W.Frag) (ta:TE) (f:Str):TE:=fun σ H Q=>ta σ H fun x H1=>∃ a C d fs bm v,x=.ref a/\nM H1 a C d/\H1 d=some (dO d fs)/\gA K C bm/\ph K C/\eN K C f/\fs.lookup f=some v/\Q v H1
theorem xN {X:Cx} {e:Expr} {f:Str} {pos:Pos} {ta:TE} {K:PySem.W.Frag} (hK:X.K=K) (he:PE X e ta) (hb:attributeBase e f X.env (eval e X.env)=eval e X.env):PE X (.Attribute e f pos) (y9 K ta f):=by
 subst hK
 intro pins s σ H Q I h
 refine yH hb (bX (he pins s σ H _ I h) fun u s1 ⟨x,H1,I1,rx,a,C,d,fs,bm,v,ex,ea,ed,c,g,n,l,q⟩=>?_)
 subst ex
 obtain rfl:u=Value.ref a:=rx
 obtain⟨oe,od,mA,J,hl,r⟩:=nM.inst I1 ea ed
 obtain⟨u',hu,ru⟩:=ft.some_of (v:=v) (o:=mA f) (by rw [← l];exact r f)
 unfold getAttr
 refine wpAny_bind (wpAny_mkText ?_)
 refine nj (s:={ s1 with toks:=s1.toks+1 }) I1.kIn J g ?_
 refine yw (s:={ s1 with toks:=s1.toks+1 }) I1.kIn J c (PySem.W.findObj_own c.hd n rfl (by rw [hl,hu])) ?_
 exact⟨u',rfl,rF ru,v,H1,I1.tok _,ru,q⟩
def Ho (K:PySem.W.Frag):List V->Hp->VK->Prop:=fun xs H Q=>∃ (a C d:Addr) (fs:List (Str×V)) (bm:List Value) (c:V) (b:Bool),xs=[.ref a,c]/\nM H a C d/\H d=some (dO d fs)/\gA K C bm/\ph K C∧
 ((∃ n,c=.ty n/\PySem.W.kitOne K (.ref C) (.type n)=some b)∨(∃ D,c=.ref D/\PySem.W.kitOne K (.ref C) (.ref D)=some b)∨
  ∃ (p:Addr) (cs:List Addr),c=.ref p/\H p=some (.tup (cs.map V.ref))/\PySem.W.kitAny K (.ref C) (cs.map Value.ref)=some b)/\Q (.bl b) H
def EM (C:Addr) (sp:Sp) (t:TA):TE:=fun σ H Q=>t σ H fun vs H1=>vs.length≤sizeLine/\∀ a,H1 a=none->sp (.ref a :: vs) (upd H1 a (fV a C none)) (fun v H2=>v=.non/\Q (.ref a) H2) E0
theorem wL {X:Cx} {pins:List (Addr×Obj)} {σ:L2.St} {H:Hp} {s:Shared} {h':Heap} {t':Nat} {fp:List Addr} (I:Inv X pins σ H s)
  (k:∀ b o,b∉fp->s.heap.get? b=some o->h'.get? b=some o) (hf:∀ b∈fp,eG X pins H b):Inv X pins σ H { s with heap:=h',toks:=t' }:=by
 have off:∀ b u,H b=some u->b∉fp:=fun b u e z=>by rw [(hf b z).1] at e;cases e
 refine I.step (g':=s.gens) (d':=s.drawn) (ch:=fp) (fun b hb=>?_) (fun b o _ _ hc e _=>k b o hc e) (fun b o _ _ hc e _=>⟨o.slots,k b o hc e⟩) (fun _ _ _ _ n=>n)
  (fun b o hc e=>⟨o,k b o hc e⟩) (fun _ _ e=>e) (fun _ _ _ e=>e) (fun b ps e=>⟨#[],by rw [e];simp⟩) (fun m hm=>?_) (fun b u e=>?_) I.bare
 ·obtain⟨_,f1,_,f3,f4,f5⟩:=hf b hb
  exact⟨f3,f1,f4,f5⟩
 ·obtain⟨o,es,ep,ho,r⟩:=hm
  exact⟨o,es,ep,k _ o (fun z=>(hf _ z).2.1 rfl) ho,r⟩
 ·refine (I.hok b u e).stay (fun c v hc q=>k c v ?_ q) (fun _ q=>q) fun _ _ q=>q
  rcases hc with z | z
  ·rw [z];exact off b u e
  ·exact off c _ z
section
variable {prog:Program} {w:World} {A:Around} {E:Value->Shared->Prop} {s:Shared}
structure Iq (z TI TO i1 i2:Addr):Prop where
 a1:TI≠z
 a2:TO≠z
 a3:i1≠z
 a4:i2≠z
 a5:TI≠TO
 a6:TI≠i1
 a7:TI≠i2
 a8:TO≠i1
 a9:TO≠i2
 b1:i1≠i2
end
theorem wK {X:Cx} {pins:List (Addr×Obj)} {σ:L2.St} {H:Hp} {s:Shared} {h':Heap} {t':Nat} {fp:List Addr} {p:Addr} {v:HO} (I:Inv X pins σ H s)
  (k:∀ b o,b∉fp->s.heap.get? b=some o->h'.get? b=some o) (hf:∀ b∈fp,eG X pins H b) (hp:s.heap.objs.size≤p) (new:ObjOk X.prog X.w (upd H p v) h' p v) :
  Inv X pins σ (upd H p v) { s with heap:=h',toks:=t' }:=by
 have off:∀ b u,H b=some u->b∉fp:=fun b u e z=>by rw [(hf b z).1] at e;cases e
 have hn:H p=none:=I.hok.fresh hp
 have old:∀ b u,H b=some u->upd H p v b=some u:=fun b u e=>by rw [av (aA e hn)];exact e
 refine I.step (g':=s.gens) (d':=s.drawn) (ch:=fp) (fun b hb=>?_) (fun b o _ _ hc e _=>k b o hc e) (fun b o _ _ hc e _=>⟨o.slots,k b o hc e⟩) (fun b o _ e n=>?_)
  (fun b o hc e=>⟨o,k b o hc e⟩) (fun b xs e=>old b _ e) (fun b o u e=>old b _ e) (fun b ps e=>⟨#[],by rw [old b _ e];simp⟩) (fun m hm=>?_) (fun b u e=>?_) I.bare
 ·obtain⟨_,f1,_,f3,f4,f5⟩:=hf b hb
  exact⟨f3,f1,f4,f5⟩
 ·rw [av (Nat.ne_of_lt (Nat.lt_of_lt_of_le (Heap.lt_size e) hp))];exact n
 ·obtain⟨o,es,ep,ho,r⟩:=hm
  exact⟨o,es,ep,k _ o (fun z=>(hf _ z).2.1 rfl) ho,r⟩
 ·by_cases hb:b=p
  ·subst hb;rw [ag] at e;cases e;exact new
  ·rw [av hb] at e
   refine (I.hok b u e).stay (fun c v hc q=>k c v ?_ q) (fun c q=>old c _ q) fun c xs q=>old c _ q
   rcases hc with z | z
   ·rw [z];exact off b u e
   ·exact off c _ z
def Il (K:PySem.W.Frag) (a b:Addr):It:=
 ⟨fun i H=>∃ xs ys x y,bo K H a xs/\bo K H b ys/\xs[i]?=some x/\ys[i]?=some y,
  fun i H v H'=>∃ p x y,H p=none/\v=.ref p/\H'=upd H p (.tup [x,y])/\(∀ xs,bo K H a xs->xs[i]?=some x)/\∀ ys,bo K H b ys->ys[i]?=some y,
  fun i H=>∃ xs ys,bo K H a xs/\bo K H b ys/\(xs.length≤i∨ys.length≤i)⟩
def IR (z TI TO i1 i2 a b:Addr) (i:Nat) (h:Heap):Prop:=IsZip h z TI TO .none/\IsPair h TI (.ref i1) (.ref i2)/\(∃ u v,IsPair h TO u v)/\h.IsTupleIter i1 a i/\h.IsTupleIter i2 b i
abbrev zA (h:Heap) (a:Addr):Heap:=h.push { cls:=.type "tuple_iterator", data:=.fields #[.ref a,.int 0 0] }
abbrev zB (h:Heap) (a b:Addr):Heap:=zA (zA h a) b
abbrev zC (h:Heap) (a b:Addr):Heap:=(zB h a b).push { cls:=.type "tuple", data:=.seq #[.ref h.objs.size,.ref (zA h a).objs.size] }
abbrev zD (h:Heap) (a b:Addr):Heap:=(zC h a b).push { cls:=.type "tuple", data:=.seq #[.none,.none] }
abbrev zE (h:Heap) (a b:Addr):Heap:=(zD h a b).push { cls:=.type "zip", data:=.fields #[.none,.bool false,.bool false,.ref (zB h a b).objs.size,.ref (zC h a b).objs.size] }
def HC (K:PySem.W.Frag) (ta:TA):TI:=fun σ H R=>ta σ H fun vs H1=>∃ a b,vs=[.ref a,.ref b]/\(∃ xs,bo K H1 a xs)/\(∃ ys,bo K H1 b ys)/\R (Il K a b) H1
def Ft (K:PySem.W.Frag) (a:Addr):It:=
 ⟨fun i H=>∃ xs x,bo K H a xs/\xs[i]?=some x,
  fun i H v H'=>∃ p x,H p=none/\v=.ref p/\H'=upd H p (.tup [.int i,x])/\∀ xs,bo K H a xs->xs[i]?=some x,
  fun i H=>∃ xs,bo K H a xs/\xs.length≤i⟩
def HD (K:PySem.W.Frag) (ta:TA):TI:=fun σ H R=>ta σ H fun vs H1=>∃ a,vs=[.ref a]/\(∃ xs,bo K H1 a xs)/\R (Ft K a) H1
def Fu (K:PySem.W.Frag) (a:Addr):It:=
 ⟨fun i H=>∃ xs x,aR K H a xs/\xs[i]?=some x,
  fun i H v H'=>∃ p x,H p=none/\v=.ref p/\H'=upd H p (.tup [.int i,x])/\∀ xs,aR K H a xs->xs[i]?=some x,
  fun i H=>∃ xs,aR K H a xs/\xs.length≤i⟩
def HE (K:PySem.W.Frag) (ta:TA):TI:=fun σ H R=>ta σ H fun vs H1=>∃ a,vs=[.ref a]/\(∃ xs,aR K H1 a xs)/\R (Fu K a) H1
section
variable {prog:Program} {w:World} {A:Around} {E:Value->Shared->Prop}
end
def HG (K:PySem.W.Frag) (n:Nat) (t:wA):TG:=fun v σ H Q=>∃ a xs,v=.ref a/\aR K H a xs/\xs.length=n/\t xs σ H Q
section
variable {prog:Program} {w:World} {A:Around} {E:Value->Shared->Prop} {s:Shared}
open HT in
theorem mk {t sl:Addr} {items:Array Value} {vl vu:Value} {lo hi:Option Int} {Q:Value->Shared->Prop} (ht:IsTup s.heap t items) (hs:s.heap.IsSliceOf sl vl vu .none) (pl:IsPart vl lo) (pu:IsPart vu hi)
  (h1:sIx items.size 0 lo=0) (h2:sIx items.size items.size hi=items.size) (h:Q (.ref t) s):wpAny (model prog w) A (getItem (.ref t) (.ref sl)) Q E s:=by
 obtain⟨os,hos,hcs,hds⟩:=id hs
 have hTs:s.TypeIs (.ref sl) "slice" := ⟨os,hos,hcs⟩
 unfold getItem
 try with_reducible refine wpAny_holding ?_
 first | refine wpAny_bind (wpAny_pure ?_) | skip
 refine wpAny_bind (wpAny_sequenceKey ht.typeIs (by decide) ?_)
 refine wpAny_bind (wpAny_callSpecial?_slot (name:=Str.ofString "__getitem__") ht.typeIs PyProof.Rows.slot_tuple_getitem
  (wpAny_call_entry PyProof.Rows.slot_tuple_getitem ht.typeIs entry_tuple_getitem ?_ (args_tuple_getitem _ _)))
 show wpAny _ _ (Builtin.Tuple.tupleItemsOf (.ref t) >>= _) _ _ s
 refine wpAny_bind (tupleItemsOf_ ht ?_)
 refine wpAny_bind (wpAny_typeOf hTs ?_)
 rw [if_pos (by decide)]
 refine wpAny_bind (eP hs pl pu ?_)
 have hyes:((((sIx items.size 0 lo:Nat):Int) == 0 && (1:Int) == 1 && (sIx items.size items.size hi - sIx items.size 0 lo) == items.size)=true):=by
  rw [h1,h2];simp
 show wpAny _ _ (if (((sIx items.size 0 lo:Nat):Int) == 0 && (1:Int) == 1 && (sIx items.size items.size hi - sIx items.size 0 lo) == items.size)=true then _ else _) _ _ s
 rw [if_pos hyes]
 refine wpAny_bind ?_
 unfold Builtin.Tuple.tupleIsExact
 refine wpAny_bind (wpAny_typeOf ht.typeIs ?_)
 refine wpAny_pure ?_
 rw [if_pos (by decide)]
 exact wpAny_bind (wpAny_rule (wpAny_pure ⟨_,rfl,wpAny_pure h⟩))
end
def C3 (K:PySem.W.Frag):V->Option Int->Option Int->Hp->VK->Prop:=fun x lo hi H Q=>∃ a xs,x=.ref a/\bo K H a xs/\HT.sIx xs.length 0 lo=0/\HT.sIx xs.length xs.length hi=xs.length/\Q (.ref a) H
theorem wR {X:Cx}:rZ X (C3 X.K):=by
 intro pins s σ H x v vl vu lo hi sl Q I rx hs pl pu h
 obtain⟨a,xs,rfl,hx,h1,h2,q⟩:=h
 cases rx
 obtain⟨its,r,ht,hz⟩:=I.tuple hx
 have hlen:its.toArray.size=xs.length:=by rw [List.size_toArray];exact r.length.symm
 refine⟨"tuple", _,PyProof.Rows.slot_tuple_getitem.lookup,ht.typeIs,?_⟩
 exact mk ht hs pl pu (by rw [hlen];exact h1) (by rw [hlen];exact h2) ⟨.ref a,H,I,rfl,q⟩
theorem wT {X:Cx}:rZ X (fun x lo hi H Q=>C3 X.K x lo hi H Q∨C4 X.K x lo hi H Q):=rZ.or wR z7
end B
namespace B
theorem BF {a b c d:Int} (hb:0 < b) (hd:0 < d) (e:a * d=c * b):cK a b=cK c d:=by
 have hr:=bK (a:=c) hd
 have hc:=cV (a:=c) hd
 generalize cK c d=m at hr hc ⊢
 refine cG hb hr.pos hr.cop ?_
 refine Int.eq_of_mul_eq_mul_right (show d≠0 by omega) ?_
 have e1:m.1 * b * d=m.1 * d * b:=by ac_rfl
 have e2:a * m.2 * d=a * d * m.2:=by ac_rfl
 rw [e1,hc,e2,e]
 ac_rfl
structure Bq (D N:Nat) (r:R):Prop where
 pos:0 < r.2
 cop:Int.gcd r.1 r.2=1
 dvd:r.2∣(D:Int)
 le:r.1.natAbs≤N * r.2.natAbs
theorem Bq.red {D N:Nat} {r:R} (h:Bq D N r):cF r:=⟨h.pos,h.cop⟩
theorem iI {D N:Nat} {a b:Int} (hb:0 < b) (hd:b∣(D:Int)) (hl:a.natAbs≤N * b.natAbs):Bq D N (cK a b):=by
 obtain⟨g,x,y,e0,gp,e1,e2,c⟩:=dY (a:=a) hb
 have yp:=gh hb gp e2
 have e:cK a b=(x,y):=by
  unfold cK
  rw [e0,show a / g=x by rw [e1];exact Int.mul_ediv_cancel_left _ (by omega),show b / g=y by rw [e2];exact Int.mul_ediv_cancel_left _ (by omega)]
 rw [e]
 refine⟨yp,c,Int.dvd_trans ⟨g,by rw [e2,Int.mul_comm]⟩ hd,?_⟩
 rw [e1,e2,Int.natAbs_mul,Int.natAbs_mul] at hl
 have gn:0 < g.natAbs:=by omega
 refine Nat.le_of_mul_le_mul_left (c:=g.natAbs) ?_ gn
 show g.natAbs * x.natAbs≤g.natAbs * (N * y.natAbs)
 rw [Nat.mul_left_comm]
 exact hl
theorem Bq.mono {D N D' N':Nat} {r:R} (h:Bq D N r) (hd:D∣D') (hn:N≤N'):Bq D' N' r:=
 ⟨h.pos,h.cop,Int.dvd_trans h.dvd (Int.ofNat_dvd.mpr hd),Nat.le_trans h.le (Nat.mul_le_mul_right _ hn)⟩
theorem Bq.plus {D N M:Nat} {r q:R} (hD:0 < D) (h:Bq D N r) (k:Bq D M q):Bq D (N+M) (aQ r q):=by
 obtain⟨y,ey⟩:=h.dvd
 obtain⟨v,ev⟩:=k.dvd
 have dp:(0:Int) < (D:Int):=by omega
 have e:aQ r q=cK (r.1 * y+q.1 * v) (D:Int):=by
  unfold aQ
  refine BF (Int.mul_pos h.pos k.pos) dp ?_
  rw [Int.add_mul,Int.add_mul]
  have a1:r.1 * q.2 * (D:Int)=r.1 * y * (r.2 * q.2):=by rw [ey];ac_rfl
  have a2:q.1 * r.2 * (D:Int)=q.1 * v * (r.2 * q.2):=by rw [ev];ac_rfl
  rw [a1,a2]
 rw [e]
 refine iI dp (Int.dvd_refl _) ?_
 have b1:(r.1 * y).natAbs≤N * D:=by
  have:(D:Int).natAbs=r.2.natAbs * y.natAbs:=by rw [ey,Int.natAbs_mul]
  rw [Int.natAbs_mul]
  have z:=Nat.mul_le_mul_right y.natAbs h.le
  rw [Nat.mul_assoc,← this] at z
  simpa using z
 have b2:(q.1 * v).natAbs≤M * D:=by
  have:(D:Int).natAbs=q.2.natAbs * v.natAbs:=by rw [ev,Int.natAbs_mul]
  rw [Int.natAbs_mul]
  have z:=Nat.mul_le_mul_right v.natAbs k.le
  rw [Nat.mul_assoc,← this] at z
  simpa using z
 have b3:=Int.natAbs_add_le (r.1 * y) (q.1 * v)
 have b4:(D:Int).natAbs=D:=Int.natAbs_natCast D
 rw [b4,Nat.add_mul]
 omega
theorem Bq.neg {D N:Nat} {r:R} (h:Bq D N r):Bq D N (-r.1,r.2):=⟨h.pos,by show Int.gcd (-r.1) r.2=1;rw [Int.neg_gcd];exact h.cop,h.dvd,by show (-r.1).natAbs≤_;rw [Int.natAbs_neg];exact h.le⟩
theorem Bq.minus {D N M:Nat} {r q:R} (hD:0 < D) (h:Bq D N r) (k:Bq D M q):Bq D (N+M) (aj r q):=by
 rw [← mY]
 exact h.plus hD k.neg
theorem Bq.times {D N E M:Nat} {r q:R} (h:Bq D N r) (k:Bq E M q):Bq (D * E) (N * M) (aC r q):=by
 refine iI (Int.mul_pos h.pos k.pos) ?_ ?_
 ·rw [Int.natCast_mul];exact Int.mul_dvd_mul h.dvd k.dvd
 ·rw [Int.natAbs_mul,Int.natAbs_mul]
  have z:=Nat.mul_le_mul h.le k.le
  calc r.1.natAbs * q.1.natAbs≤N * r.2.natAbs * (M * q.2.natAbs):=z
   _=N * M * (r.2.natAbs * q.2.natAbs):=by ac_rfl
theorem iV {a b:Int} (ha:0 < a) (hb:0 < b):0 < (cK a b).1:=Int.ediv_pos_of_pos_of_dvd ha (Int.le_of_lt (bC hb)) (Int.gcd_dvd_left a b)
theorem Bq.bot {D N:Nat} {r:R} (hD:0 < D) (h:Bq D N r):r.2.natAbs≤D:=by
 have:=Int.natAbs_dvd_natAbs.mpr h.dvd
 rw [Int.natAbs_natCast] at this
 exact Nat.le_of_dvd hD this
theorem Bq.wf {D N n:Nat} {r:R} (h:Bq D N r) (hD:0 < D) (h1:D < 2 ^ n) (h2:N * D < 2 ^ n):Wf n r:=
 ⟨h.pos,Nat.lt_of_le_of_lt (Nat.le_trans h.le (Nat.mul_le_mul_left _ (h.bot hD))) h2,Nat.lt_of_le_of_lt (h.bot hD) h1,h.cop⟩
theorem dF {r q:R}:aD r q=true↔r.1 * q.2 < q.1 * r.2:=by unfold aD;exact decide_eq_true_iff
theorem ej {r q:R}:aD r q=false↔q.1 * r.2≤r.1 * q.2:=by unfold aD;rw [decide_eq_false_iff_not,Int.not_lt]
theorem vv {a b c:R} (pa:0 < a.2) (pb:0 < b.2) (pc:0 < c.2) (h:aD a b=true) (k:aD c b=false):aD a c=true:=by
 rw [dF] at h ⊢
 rw [ej] at k
 have h1:=Int.mul_lt_mul_of_pos_right h pc
 have k1:=Int.mul_le_mul_of_nonneg_right k (Int.le_of_lt pa)
 have e1:b.1 * a.2 * c.2=b.1 * c.2 * a.2:=by ac_rfl
 have z:a.1 * b.2 * c.2 < c.1 * b.2 * a.2:=by omega
 refine Int.lt_of_mul_lt_mul_right (a:=b.2) ?_ (Int.le_of_lt pb)
 have e2:a.1 * c.2 * b.2=a.1 * b.2 * c.2:=by ac_rfl
 have e3:c.1 * a.2 * b.2=c.1 * b.2 * a.2:=by ac_rfl
 omega
theorem zm {a b c:R} (pa:0 < a.2) (pb:0 < b.2) (pc:0 < c.2) (h:aD b a=false) (k:aD b c=true):aD a c=true:=by
 rw [dF] at k ⊢
 rw [ej] at h
 have h1:=Int.mul_le_mul_of_nonneg_right h (Int.le_of_lt pc)
 have k1:=Int.mul_lt_mul_of_pos_right k pa
 have e1:b.1 * a.2 * c.2=b.1 * c.2 * a.2:=by ac_rfl
 refine Int.lt_of_mul_lt_mul_right (a:=b.2) ?_ (Int.le_of_lt pb)
 have e2:a.1 * c.2 * b.2=a.1 * b.2 * c.2:=by ac_rfl
 have e3:c.1 * a.2 * b.2=c.1 * b.2 * a.2:=by ac_rfl
 omega
theorem dX {a b:R} (h:aD a b=true):aD b a=false:=by
 rw [dF] at h
 rw [ej]
 omega
theorem rh {r q:R} (hr:cF r) (hq:cF q) (h:0 < q.1):aD r (aQ r q)=true:=by
 rw [dF]
 have bp:=Int.mul_pos hr.pos hq.pos
 have c:=cV (a:=r.1 * q.2+q.1 * r.2) bp
 have p:=(bK (a:=r.1 * q.2+q.1 * r.2) bp).pos
 show r.1 * (cK (r.1 * q.2+q.1 * r.2) (r.2 * q.2)).2 < (cK (r.1 * q.2+q.1 * r.2) (r.2 * q.2)).1 * r.2
 generalize cK (r.1 * q.2+q.1 * r.2) (r.2 * q.2)=z at c p ⊢
 refine Int.lt_of_mul_lt_mul_right (a:=r.2 * q.2) ?_ (Int.le_of_lt bp)
 have e1:z.1 * r.2 * (r.2 * q.2)=z.1 * (r.2 * q.2) * r.2:=by ac_rfl
 rw [e1,c,Int.add_mul,Int.add_mul]
 have e2:r.1 * q.2 * z.2 * r.2=r.1 * z.2 * (r.2 * q.2):=by ac_rfl
 have e3:=Int.mul_pos (Int.mul_pos (Int.mul_pos h hr.pos) p) hr.pos
 omega
theorem BE {a b:Int} (ha:0≤a):0≤(cK a b).1:=Int.ediv_nonneg ha (by omega)
theorem pM {r q:R} (hr:cF r) (hq:cF q) (h1:0≤r.1) (h2:0≤q.1):0≤(aQ r q).1:=
 BE (Int.add_nonneg (Int.mul_nonneg h1 (Int.le_of_lt hq.pos)) (Int.mul_nonneg h2 (Int.le_of_lt hr.pos)))
theorem mX {r q:R} (hr:cF r) (hq:cF q) (h:aD q r=true):(aj r q).1≠0:=fun z=>by
 have bp:=Int.mul_pos hr.pos hq.pos
 have c:=cV (a:=r.1 * q.2 - q.1 * r.2) bp
 have p:=(bK (a:=r.1 * q.2 - q.1 * r.2) bp).pos
 rw [show (cK (r.1 * q.2 - q.1 * r.2) (r.2 * q.2)).1=0 from z,Int.zero_mul] at c
 rw [dF] at h
 have:=Int.mul_pos (show 0 < r.1 * q.2 - q.1 * r.2 by omega) p
 omega
theorem yb {r:R}:aD r (0,1)=false↔0≤r.1:=by
 rw [ej]
 show 0 * r.2≤r.1 * 1↔_
 omega
end B
namespace B
open PySem PySem.Spec L2 PyProof.Rows
inductive Rl where
 | pow (k:Int)
 | tab (rows:List (R×R))
def fb:R×R:=((0,1),(0,1))
def bU (lo hi:R×R):R:=eI (aj hi.2 lo.2) (aj hi.1 lo.1)
def rV (rows:List (R×R)) (k:Nat):R:=bU (rows.getD k fb) (rows.getD (k+1) fb)
def dN (rows:List (R×R)) (s:R):Nat:=rows.countP fun r=>aD r.1 s
def Db (rows:List (R×R)) (s:R):Nat:=rows.countP fun r=>!aD s r.1
def DA (rows:List (R×R)) (s:R):R:=if dN rows s=0 then (0,1) else rV rows (dN rows s - 1)
def AF (rows:List (R×R)) (s:R):Option R:=if Db rows s < rows.length then some (rV rows (Db rows s - 1)) else none
def Df (k:Int) (s:R):R:=aC (k,1) (gO s (k - 1).toNat)
def Ej:Rl->R->R×Option R
 | .pow k,s=>(Df k s,some (Df k s))
 | .tab rows,s=>(DA rows s,AF rows s)
def EA (rows:List (R×R)):Prop:=rows.Pairwise fun a b=>aD a.1 b.1=true
def yR (rows:List (R×R)):Prop:=∀ r∈rows,0 < r.1.2
theorem kH {s:R} (hs:0 < s.2):∀ {rows:List (R×R)},EA rows->yR rows->∀ {k:Nat} {r:R×R},rows[k]?=some r->aD r.1 s=decide (k < dN rows s)
 | [],_,_,k,r,e=>by simp at e
 | x :: t,hi,hp,k,r,e=>by
  have hi':=List.pairwise_cons.mp hi
  have hpt:yR t:=fun y hy=>hp y (List.mem_cons_of_mem _ hy)
  unfold dN
  cases c:aD x.1 s with
  | true=>
   rw [List.countP_cons_of_pos (p:=fun r:R×R=>aD r.1 s) c]
   cases k with
   | zero=>
    simp at e
    rw [← e,c]
    simp
   | succ k=>
    rw [kH hs hi'.2 hpt (k:=k) (by simpa using e)]
    unfold dN
    simp
  | false=>
   have z:t.countP (fun r=>aD r.1 s)=0:=by
    rw [List.countP_eq_zero]
    intro y hy
    have h1:=hi'.1 y hy
    have h2:aD s y.1=true:=zm hs (hp x List.mem_cons_self) (hpt y hy) c h1
    rw [dX h2]
    simp
   rw [List.countP_cons_of_neg (by rw [c];simp),z]
   cases k with
   | zero=>simp at e;rw [← e,c];simp
   | succ k=>
    have my:r∈t:=List.mem_of_getElem? (i:=k) (by simpa using e)
    have:=(List.countP_eq_zero.mp z) r my
    simp at this
    rw [this];simp
abbrev D0:Nat:=11333831693184000
abbrev N0:Nat:=1000000007
abbrev N1:Nat:=17179869184
abbrev NR:Nat:=11000000077
abbrev N2:Nat:=1180591620717411303424
structure cj (rows:List (R×R)):Prop where
 n2:2≤rows.length
 n12:rows.length≤12
 inc:EA rows
 zero:∃ y,rows[0]?=some ((0,1),y)
 sp:∀ r∈rows,Bq D0 NR r.1
 pw:∀ r∈rows,Bq (D0 * D0) N2 r.2
def eY:Rl->Prop
 | .pow k=>2≤k/\k≤4
 | .tab rows=>cj rows
structure o7 (s:R):Prop where
 bq:Bq (D0 * 2) N1 s
 nn:0≤s.1
def dm:Rl->R->Prop
 | .pow _,_=>True
 | .tab rows,s=>∃ r,rows[rows.length - 1]?=some r/\aD r.1 s=false
theorem o7.wf {s:R} (h:o7 s):Wf 98 s:=h.bq.wf (by decide) (by decide) (by decide)
theorem zM {r:R} (h:Bq D0 NR r):Wf 98 r:=h.wf (by decide) (by decide) (by decide)
theorem EH {r:R} (h:Bq (D0 * D0) N2 r):Wf 197 r:=h.wf (by decide) (by decide) (by decide)
theorem cj.allP {rows:List (R×R)} (h:cj rows):yR rows:=fun r hr=>(h.sp r hr).pos
theorem cj.slope {rows:List (R×R)} (h:cj rows) {i j:Nat} {a b:R×R} (hij:i < j) (ha:rows[i]?=some a) (hb:rows[j]?=some b) :
  (aj b.1 a.1).1≠0/\Wf 99 (aj b.1 a.1)/\Wf 198 (aj b.2 a.2)/\Wf 300 (bU a b):=by
 have ma:=List.mem_of_getElem? ha
 have mb:=List.mem_of_getElem? hb
 have lt:aD a.1 b.1=true:=by
  obtain⟨h1,e1⟩:=List.getElem?_eq_some_iff.mp ha
  obtain⟨h2,e2⟩:=List.getElem?_eq_some_iff.mp hb
  have:=List.pairwise_iff_getElem.mp h.inc i j h1 h2 hij
  rw [e1,e2] at this
  exact this
 have ne:=mX (h.sp b mb).red (h.sp a ma).red lt
 have w1:Wf 99 (aj b.1 a.1):=((h.sp b mb).minus (by decide) (h.sp a ma)).wf (by decide) (by decide) (by decide)
 have w2:Wf 198 (aj b.2 a.2):=((h.pw b mb).minus (by decide) (h.pw a ma)).wf (by decide) (by decide) (by decide)
 exact⟨ne,w1,w2,(xU w2 w1 ne).mono (by decide)⟩
theorem cn {rows:List (R×R)} {k:Nat} {a:R×R} (h:rows[k]?=some a):rows.getD k fb=a:=by rw [List.getD_eq_getElem?_getD,h];rfl
theorem sU {rows:List (R×R)} {k:Nat} {a b:R×R} (ha:rows[k]?=some a) (hb:rows[k+1]?=some b):rV rows k=bU a b:=by unfold rV;rw [cn ha,cn hb]
theorem cj.p_lt {rows:List (R×R)} (h:cj rows) {s:R} (hs:0 < s.2) (hb:dm (.tab rows) s):dN rows s < rows.length:=by
 obtain⟨r,e,c⟩:=hb
 have:=kH hs h.inc h.allP e
 rw [c] at this
 have z:=of_decide_eq_false this.symm
 have:=h.n2
 omega
def IK (rows:List (R×R)) (s:R) (i:Nat):R:=if 0 < dN rows s/\dN rows s - 1 < i then rV rows (dN rows s - 1) else (0,1)
def II (rows:List (R×R)) (s:R) (i:Nat):Option R:=if 0 < Db rows s/\Db rows s - 1 < i then some (rV rows (Db rows s - 1)) else none
def Gf (k:Int) (s:R) (j:Nat):R:=cK (k * s.1 ^ j) (s.2 ^ j)
def Gv (l:R) (r:Option R) (g:R):Bool:=!aD g l && (match r with | none=>true | some x=>!aD x g)
end B
namespace B
def val (r:R):Rat:=(r.1:Rat) / (r.2:Rat)
theorem bV {b:Int} (h:0 < b):(b:Rat)≠0:=fun z=>by
 have:b=0:=Rat.intCast_inj.mp (by rw [z];rfl)
 omega
theorem sg {r:R} {a b:Int} (hr:0 < r.2) (hb:(b:Rat)≠0) (h:r.1 * b=a * r.2):val r=(a:Rat) / (b:Rat):=by
 have h2:(r.1:Rat) * (b:Rat)=(a:Rat) * (r.2:Rat):=by rw [← Rat.intCast_mul,← Rat.intCast_mul,h]
 have h1:=bV hr
 unfold val
 generalize (r.1:Rat)=x at *
 generalize (r.2:Rat)=y at *
 generalize (a:Rat)=u at *
 generalize (b:Rat)=v at *
 grind
theorem kQ {a b:Int} (hb:0 < b):val (cK a b)=(a:Rat) / (b:Rat):=sg (bK hb).pos (bV hb) (cV hb)
theorem dZ {r q:R} (hr:0 < r.2) (hq:0 < q.2):val (aQ r q)=val r+val q:=by
 unfold aQ
 rw [kQ (Int.mul_pos hr hq)]
 have h1:=bV hr
 have h2:=bV hq
 unfold val
 rw [Rat.intCast_add,Rat.intCast_mul,Rat.intCast_mul,Rat.intCast_mul]
 generalize (r.1:Rat)=x at *
 generalize (r.2:Rat)=y at *
 generalize (q.1:Rat)=u at *
 generalize (q.2:Rat)=v at *
 grind
theorem fK {r q:R} (hr:0 < r.2) (hq:0 < q.2):val (aj r q)=val r - val q:=by
 unfold aj
 rw [kQ (Int.mul_pos hr hq)]
 have h1:=bV hr
 have h2:=bV hq
 unfold val
 rw [Rat.intCast_sub,Rat.intCast_mul,Rat.intCast_mul,Rat.intCast_mul]
 generalize (r.1:Rat)=x at *
 generalize (r.2:Rat)=y at *
 generalize (q.1:Rat)=u at *
 generalize (q.2:Rat)=v at *
 grind
theorem dW {r q:R} (hr:0 < r.2) (hq:0 < q.2):val (aC r q)=val r * val q:=by
 unfold aC
 rw [kQ (Int.mul_pos hr hq)]
 have h1:=bV hr
 have h2:=bV hq
 unfold val
 rw [Rat.intCast_mul,Rat.intCast_mul]
 generalize (r.1:Rat)=x at *
 generalize (r.2:Rat)=y at *
 generalize (q.1:Rat)=u at *
 generalize (q.2:Rat)=v at *
 grind
theorem mS {b:Int} (h:b≠0):(b:Rat)≠0:=fun z=>h (Rat.intCast_inj.mp (by rw [z];rfl))
theorem gC {r q:R} (hr:0 < r.2) (hq:0 < q.2) (h:q.1≠0):val (eI r q)=val r / val q:=by
 have hn:r.2 * q.1≠0:=Int.mul_ne_zero (by omega) h
 obtain⟨hs,es⟩:=jy (a:=r.1 * q.2) hn
 unfold eI
 rw [sg hs.pos (mS hn) es]
 have h1:=bV hr
 have h2:=bV hq
 have h3:=mS h
 unfold val
 rw [Rat.intCast_mul,Rat.intCast_mul]
 generalize (r.1:Rat)=x at *
 generalize (r.2:Rat)=y at *
 generalize (q.1:Rat)=u at *
 generalize (q.2:Rat)=v at *
 grind
theorem dC {r q:R} (hr:cF r) (hq:cF q) (h:val r=val q):r=q:=by
 have h1:=bV hr.pos
 have h2:=bV hq.pos
 have e:r.1 * q.2=q.1 * r.2:=by
  refine Rat.intCast_inj.mp ?_
  rw [Rat.intCast_mul,Rat.intCast_mul]
  unfold val at h
  generalize (r.1:Rat)=x at *
  generalize (r.2:Rat)=y at *
  generalize (q.1:Rat)=u at *
  generalize (q.2:Rat)=v at *
  grind
 have e1:cK r.1 r.2=(r.1,r.2):=cG hr.pos hr.pos hr.cop rfl
 have e2:cK r.1 r.2=(q.1,q.2):=cG hr.pos hq.pos hq.cop e.symm
 exact e1.symm.trans e2
theorem i6 {r:R} (hr:0 < r.2):val r=0↔r.1=0:=by
 have h1:=bV hr
 unfold val
 constructor
 ·intro h
  refine Rat.intCast_inj.mp ?_
  show (r.1:Rat)=((0:Int):Rat)
  rw [show ((0:Int):Rat)=0 from rfl]
  generalize (r.1:Rat)=x at *
  generalize (r.2:Rat)=y at *
  grind
 ·intro h
  rw [h]
  show ((0:Int):Rat) / _=0
  rw [show ((0:Int):Rat)=0 from rfl]
  generalize (r.2:Rat)=y at *
  grind
theorem eU {r q:R} (hr:0 < r.2) (h:q.1≠0):cF (eI r q):=(jy (a:=r.1 * q.2) (Int.mul_ne_zero (by omega) h)).1
theorem cH {r q:R} (hr:0 < r.2) (hq:0 < q.2):cF (aj r q):=bK (Int.mul_pos hr hq)
theorem vy {a b:R×R} (a0:cF a.1) (a1:cF a.2) (b0:cF b.1) (b1:cF b.2) (h:(aj b.1 a.1).1≠0):aQ a.2 (aC (bU a b) (aj b.1 a.1))=b.2:=by
 have m0:=cH b0.pos a0.pos
 have m1:=cH b1.pos a1.pos
 have so:=eU (r:=aj b.2 a.2) m1.pos h
 have st:=j9 so m0
 refine dC (jt a1 st) b1 ?_
 unfold bU
 rw [dZ a1.pos st.pos,dW so.pos m0.pos,gC m1.pos m0.pos h,fK b1.pos a1.pos]
 have hz:val (aj b.1 a.1)≠0:=fun z=>h ((i6 m0.pos).mp z)
 generalize val (aj b.1 a.1)=d at *
 generalize val b.2=x at *
 generalize val a.2=y at *
 grind
theorem rg {a:R} {s x:R} (ha:cF a) (hs:cF s) (hx:cF x):aQ a (aC s (aj x x))=a:=by
 have m0:=cH hx.pos hx.pos
 have st:=j9 hs m0
 refine dC (jt ha st) ha ?_
 rw [dZ ha.pos st.pos,dW hs.pos m0.pos,fK hx.pos hx.pos]
 generalize val x=d at *
 generalize val s=u at *
 generalize val a=y at *
 grind
end B
namespace B
def IE (rows:List (R×R)) (i:Nat):Rat:=(val (rows.getD (i+1) fb).2 - val (rows.getD i fb).2) / (val (rows.getD (i+1) fb).1 - val (rows.getD i fb).1)
section
variable {s p:Nat->Rat} {n:Nat}
def sl (s p:Nat->Rat) (i:Nat):Rat:=(p (i+1) - p i) / (s (i+1) - s i)
end
end B
namespace B
open PySem PySem.Spec L2 PyProof.Rows
structure QE (X:Cx) (e:Expr) (t:TE):Prop where
 p:PE X e t
structure QT (X:Cx) (e:Expr) (t:TT):Prop where
 p:PT X e t
structure QW (X:Cx) (e:Expr) (t:TT):Prop where
 p:PW X e t
structure QA (X:Cx) (es:List Expr) (t:TA):Prop where
 p:PA X es t
structure QS (X:Cx) (st:Stmt) (t:TS):Prop where
 p:PS X st t
structure cY (X:Cx) (st:List Stmt) (t:TS):Prop where
 p:jV X st t
structure QI (X:Cx) (tg iter:Expr) (wi:TI):Prop where
 p:PI X tg iter wi
structure QG (X:Cx) (target:Expr) (t:TG):Prop where
 p:PG X target t
structure Ez (X:Cx) (ts:List Expr) (t:wA):Prop where
 p:D1 X ts t
theorem cY.ok {X:Cx} {b:List Stmt} {t:TS} {D:iA} {σ:L2.St} {H:Hp} (h:cY X b t) (r:t D σ H):∃ t:TS,jV X b t/\t D σ H:=⟨t,h.p,r⟩
structure QO (X:Cx) (o:Option Expr) (t:L2.TO):Prop where
 p:PO X o t
section
set_option autoImplicit true
set_option relaxedAutoImplicit true
theorem qv  (i:Nat) {x:Str} {pos:Pos} (hN:X.N[i]?=some x:=by rfl) (hv:DV X.env.scope x:=by first | exact Or.inl rfl | exact Or.inr (Or.inl rfl) | exact Or.inr (Or.inr rfl)) (hd:(x == ("__debug__" : Str))=false:=by decide) (hcd:(x == ("__classdict__" : Str))=false:=by decide):QE X (.Name x pos) (zV i):=⟨pv i hN hv hd hcd⟩
theorem ah  {i j pos}:QE X (.Constant (.int i) j pos) (tC (.int i)):=⟨A9 ⟩
theorem dE  {b j pos}:QE X (.Constant (.bool b) j pos) (tC (.bl b)):=⟨Dl ⟩
theorem dy  {j pos}:QE X (.Constant .none j pos) (tC .non):=⟨A7 ⟩
theorem lD  {x j pos}:QE X (.Constant (.str x) j pos) (tC (.str x)):=⟨A4 ⟩
theorem cQ  {x:Str} {v:V} {u:Value} {pos:Pos} (hg:Gl X x) (hm:X.mg x=some u) (r:aY v u) (hd:(x == ("__debug__" : Str))=false:=by decide):QE X (.Name x pos) (tC v):=⟨xM hg hm r hd⟩
theorem bf  {x:Str} {v:V} {u:Value} {pos:Pos} (hg:Gl X x) (hm:X.mg x=none) (hv:bootBuiltins x=some u) (r:aY v u) (hn:x ≠ "__name__" := by decide) (hd:(x == ("__debug__" : Str))=false:=by decide):QE X (.Name x pos) (tC v):=⟨xQ hg hm hv r hn hd⟩
theorem fu  {op:UnaryOp} {r:V->Hp->VK->Prop} (ho:Ew X (unaryOp op) r) (ha:QE X a ta):QE X (.UnaryOp op a pos) (FG r ta):=⟨Dh ho ha.p⟩
theorem uz  (ha:QE X a ta):QE X (.UnaryOp .Not a pos) (yY ta):=⟨A6 ha.p⟩
theorem aG  {op:Operator} {r:R2} (ho:gB X (binaryOp op) r) (ha:QE X a ta) (hb:QE X b tb):QE X (.BinOp a op b pos) (wN r ta tb):=⟨Di ho ha.p hb.p⟩
theorem gg  {op} {t:TE} (h:QE X a t):QE X (.BoolOp op [a] pos) t:=⟨A5 h.p⟩
theorem fe {cr:List Expr} (ha:QE X a ta) (hb:QE X (.BoolOp .And (b :: cr) pos) tb):QE X (.BoolOp .And (a :: b :: cr) pos) (zd ta tb):=⟨Ba ha.p hb.p⟩
theorem cR  {op:CmpOp} {r:R2} (ho:gB X (compareOp op) r) (ha:QE X a ta) (hb:QE X b tb) (hm:behindInMarks op b=false):QE X (.Compare a [op] [b] pos) (wN r ta tb):=⟨xO ho ha.p hb.p hm⟩
theorem uA  {c:Expr} (hc:QT X c tA) (ha:QE X a ta) (hb:QE X b tb):QE X (.IfExp c a b pos) (FQ tA ta tb):=⟨uU hc.p ha.p hb.p⟩
theorem bD  (h:QA X es t):QE X (.List es pos) (CN t):=⟨A8 h.p⟩
theorem aN  {x1} (h:QA X es t):QE X (.Tuple es x1 pos) (CJ t):=⟨A3 h.p⟩
theorem fE {lo hi:Option Expr} {r:V->Option Int->Option Int->Hp->VK->Prop} (hr:rZ X r) (he:QE X e te) (hl:QO X lo tl) (hu:QO X hi th):QE X (.Subscript e (.Slice lo hi none p2) pos) (FI r te tl th):=⟨uS hr he.p hl.p hu.p⟩
theorem gM   : QO X none pC:=⟨xE ⟩
theorem gL  (h:QE X e te):QO X (some e) (yX te):=⟨xD h.p⟩
theorem gN  {r:R2} (hr:Cg X r) (ha:QE X a ta) (hb:QE X b tb) (hs:lZ b):QE X (.Subscript a b pos) (wN r ta tb):=⟨Dj hr ha.p hb.p hs⟩
theorem bI  (F:bB X.prog X.w X.K X.mg X.base CX k f fd ps sp) (hr:cu k X.A) (hg:Gl X x) (hm:X.mg x=some (.ref f)) (hk:PySem.W.keepIn X.K (.ref f)=true) (hb:aP X.K fd ps ds) (hd:aZ dvs ds) (hx:eM CX X E) (ha:QA X (e :: es) t) (hdb:(x == ("__debug__" : Str))=false:=by decide) (he:starEach (e :: es) X.env=(false,eval e X.env) :: starEach es X.env:=by rfl) (hpl:(backTo pos (starEach es X.env)).any (·.1)=false:=by rfl):QE X (.Call (.Name x p) (e :: es) [] pos) (ml sp dvs E t):=⟨xP F hr hg hm hk hb hd hx ha.p hdb he hpl⟩
theorem ay {id:String} (hc:dj X (.builtin id) r) (hg:Gl X x) (hm:X.mg x=none) (hv:bootBuiltins x=some (.builtin id)) (ha:QA X (e :: es) t) (hn:x ≠ "__name__" := by decide) (hdb:(x == ("__debug__" : Str))=false:=by decide) (he:starEach (e :: es) X.env=(false,eval e X.env) :: starEach es X.env:=by rfl) (hpl:(backTo pos (starEach es X.env)).any (·.1)=false:=by rfl):QE X (.Call (.Name x p) (e :: es) [] pos) (Ee r t):=⟨uZ hc hg hm hv ha.p hn hdb he hpl⟩
theorem cc  (hc:dj X (.type T) r) (hg:Gl X x) (hm:X.mg x=none) (hv:bootBuiltins x=some (.type T)) (ha:QA X (e :: es) t) (hn:x ≠ "__name__" := by decide) (hdb:(x == ("__debug__" : Str))=false:=by decide) (he:starEach (e :: es) X.env=(false,eval e X.env) :: starEach es X.env:=by rfl) (hpl:(backTo pos (starEach es X.env)).any (·.1)=false:=by rfl):QE X (.Call (.Name x p) (e :: es) [] pos) (Ee r t):=⟨qW hc hg hm hv ha.p hn hdb he hpl⟩
theorem jq {id:String} (pa:PlainAttrs T) (slot:Slot T name id) (hty:typeOf (.builtin id)=pure (.type "method_descriptor")) (hm:GF X id r) (ho:QE X o to) (ha:QA X (e :: es) t) (hbase:attributeBase o name X.env (eval o X.env)=eval o X.env:=by rfl) (hfew:((backTo cpos (starEach (e :: es) X.env)).all (fun x=>!x.1) && (backToKw cpos (keywordEach [] X.env)).all (fun x=>x.1.isSome)
   && decide ((e :: es).length+([]:List Keyword).length+(if ([]:List Keyword).isEmpty then 0 else 1) < 30))=true:=by rfl) (hline:(apos.endLine == cpos.line)=true:=by rfl) (hs:starEach (e :: es) X.env=(false,eval e X.env) :: starEach es X.env:=by rfl) (hplain:(backTo cpos (starEach es X.env)).any (·.1)=false:=by rfl):QE X (.Call (.Attribute o name apos) (e :: es) [] cpos) (FV X.K T r to t):=⟨Dk pa slot hty hm ho.p ha.p hbase hfew hline hs hplain⟩
theorem ae   : QA X [] zY:=⟨u4 ⟩
theorem ac  (ha:QE X e te) (hr:QA X es t) (hs:starEach (e :: es) X.env=(false,eval e X.env) :: starEach es X.env:=by rfl):QA X (e :: es) (sE te t):=⟨pO ha.p hr.p hs⟩
theorem aK  {op:CmpOp} {r:R2} (ho:gB X (compareOp op) r) (ha:QE X a ta) (hb:QE X b tb) (hm:behindInMarks op b=false):QT X (.Compare a [op] [b] pos) (yV (wN r ta tb)):=⟨xm ho ha.p hb.p hm⟩
theorem bE  {e:Expr} {t:TE} (h:QE X e t) (he:∀ whole,isTrue e X.env whole=(do let v ← whole;standAt e.pos;holding [v] (truthy v)):=by intro _;rfl):QT X e (tB t):=⟨AR h.p he⟩
theorem ii  (ha:QT X a tA):QT X (.UnaryOp .Not a pos) (CM tA):=⟨AS ha.p⟩
theorem jp {cr:List Expr} (ha:QT X a tA) (hb:QW X (.BoolOp .And (b :: cr) pos) tB'):QW X (.BoolOp .And (a :: b :: cr) pos) (CS tA tB'):=⟨AO ha.p hb.p⟩
theorem gK  (ha:QT X a tA):QW X (.BoolOp .And [a] pos) tA:=⟨xg ha.p⟩
theorem mO {cr:List Expr} (ha:QT X a tA) (hb:QW X (.BoolOp .Or (b :: cr) pos) tB'):QW X (.BoolOp .Or (a :: b :: cr) pos) (FL tA tB'):=⟨Dd ha.p hb.p⟩
theorem jo  (ha:QT X a tA):QW X (.BoolOp .Or [a] pos) tA:=⟨AN ha.p⟩
theorem fS  {X:Cx} {e:Expr} {t:TT} (h:QW X e t):QT X e t:=⟨PW.pt h.p⟩
theorem AK  {i:Nat} {x:Str} {e:Expr} {te:TE} {pos':Pos} (hN:X.N.Nodup) (hi:X.N[i]?=some x) (hx:wB X.env.scope x) (he:QE X e te) (hs:swapsWith e (some (.Name x pos')) pos.line X.env=pure false:=by rfl) (hf:X.fn x=true∨X.env.scope.names.lookup x=some .local:=by first | exact .inl rfl | exact .inr rfl | assumption):QS X (.Assign [.Name x pos'] e pos) (nV te (jI i)):=⟨AT hN hi hx he.p hs hf⟩
theorem lA  {i j:Nat} {x y:Str} {a b:Expr} {ta:TA} {px py pt:Pos} {kt k2 pt2} (hc:X.calm=true) (hN:X.N.Nodup) (hi:X.N[i]?=some x) (hj:X.N[j]?=some y) (hij:i≠j) (hx:X.env.scope.names.lookup x=some .local) (hy:X.env.scope.names.lookup y=some .local) (ha:QA X [a,b] ta) (hw:swappedStores [.Tuple [.Name x px,.Name y py] kt pt] (.Tuple [a,b] k2 pt2) X.env=pure (some [x,y])) (hs:swapsWithSole [.Tuple [.Name x px,.Name y py] kt pt] (.Tuple [a,b] k2 pt2) pos.line X.env=pure false:=by rfl):QS X (.Assign [.Tuple [.Name x px,.Name y py] kt pt] (.Tuple [a,b] k2 pt2) pos) (CL i j ta):=⟨AV hc hN hi hj hij hx hy ha.p hw hs⟩
theorem ij  {tg e:Expr} {te:TE} {g:TG} (he:QE X e te) (hg:QG X tg g) (hs:swapsWithSole [tg] e pos.line X.env=pure false:=by rfl) (hw:swappedStores [tg] e X.env=pure none:=by rfl) (h1:(assignEach [tg] X.env).map (·.2)=[assign tg X.env]:=by rfl):QS X (.Assign [tg] e pos) (nV te g):=⟨AY he.p hg.p hs hw h1⟩
theorem AL  {i:Nat} {x:Str} {e:Expr} {te:TE} {op:Operator} {ti:Cr} {pos':Pos} (hN:X.N.Nodup) (hi:X.N[i]?=some x) (hx:wB X.env.scope x) (he:QE X e te) (ho:Fn X op ti) (hf:X.fn x=true∨X.env.scope.names.lookup x=some .local:=by first | exact .inl rfl | exact .inr rfl | assumption):QS X (.AugAssign (.Name x pos') op e pos) (CQ i te ti):=⟨AX hN hi hx he.p ho hf⟩
theorem bg  {c:Expr} {a b:List Stmt} {tc:TT} (hc:QT X c tc) (ha:cY X a t) (hb:cY X b u):QS X (.If c a b pos) (CO tc t u):=⟨De hc.p ha.p hb.p⟩
theorem fD  {c:Expr} {body:List Stmt} {tc:TT} {tb:TS} (hp:PassesOwn (model X.prog X.w) X.A X.env X.xe) (hc:QT X c tc) (hb:cY X body tb):QS X (.While c body [] pos) (sr tc tb):=⟨uG hp hc.p hb.p⟩
theorem cz  {iter:Expr} {body:List Stmt} {wi:TI} {g:TG} {tb:TS} {pos:Pos} (hp:PassesOwn (model X.prog X.w) X.A X.env X.xe) (hc:X.calm=true) (hi:QI X tg iter wi) (hg:QG X tg g) (hb:cY X body tb) (hs:∀ x,foldedSetIterable iter X.env x=pure x:=by intro _;rfl):QS X (.For tg iter body [] pos) (CP wi g tb):=⟨AW hp hc hi.p hg.p hb.p hs⟩
theorem aE  (he:QE X e te):QS X (.Return (some e) pos) (CK te):=⟨AU he.p⟩
theorem fc  (he:QE X e te) (hs:swapsWith e none pos.line X.env=pure false:=by rfl):QS X (.Expr e pos) (zc te):=⟨xy he.p hs⟩
theorem uw   : QS X (.Break pos) sG:=⟨uJ ⟩
theorem eR {st:Stmt}  : QS X st sw:=⟨uI ⟩
theorem aI   : cY X [] yZ:=⟨xp ⟩
theorem ak {st:Stmt} (h1:QS X st t):cY X [st] t:=⟨xn h1.p⟩
theorem uu {st:Stmt} {cr:List Stmt} (h1:QS X st t) (h2:cY X cr u):cY X (st :: cr) (zX t u):=⟨uF h1.p h2.p⟩
theorem bZ  {a:Expr} {ta:TA} {p pos:Pos} (hg:Gl X "range") (hm:X.mg "range" = none) (ha:QA X [a] ta) (hs:starEach [a] X.env=[(false,eval a X.env)]:=by rfl):QI X tg (.Call (.Name "range" p) [a] [] pos) (zn ta):=⟨qU hg hm ha.p hs⟩
theorem de {tg:Expr} {l:Expr} {tl:TE} (hl:QE X l tl):QI X tg l (zo X.K tl):=⟨xI hl.p⟩
theorem gf  {l:Expr} {tl:TE} (hl:QE X l tl):QI X tg l (yn X.K tl):=⟨uO hl.p⟩
theorem aL  {i:Nat} {x:Str} (hN:X.N.Nodup) (hi:X.N[i]?=some x) (hx:wB X.env.scope x) (hf:X.fn x=true∨X.env.scope.names.lookup x=some .local:=by first | exact .inl rfl | exact .inr rfl | assumption):QG X (.Name x pos) (jI i):=⟨xK hN hi hx hf⟩
theorem lC  {es:List Expr} {k:Nat} {t:wA} {n:Nat} (hc:X.calm=true) (h:Ez X es t) (hn:(assignEach es X.env).length=n:=by rfl) (hst:(assignEach es X.env).findIdx? (·.1)=none:=by rfl):QG X (.Tuple es k pos) (DI X.K n t):=⟨A0 hc h.p hn hst⟩
theorem oq  {o i:Expr} {to ti:TE} {t:wy} (ho:QE X o to) (hi:QE X i ti) (hs:Ce X t) (ha:∀ v,assign (.Subscript o i pos) X.env v=(do
   let ov ← holding [v] (eval o X.env)
   let iv ← holding [v,ov] (eval i X.env)
   standAt pos
   holding [v,ov,iv] (setItem ov iv v)
   release [v,ov,iv] []):=by intro _;rfl):QG X (.Subscript o i pos) (DJ to ti t):=⟨A1 ho.p hi.p hs ha⟩
theorem iR   : Ez X [] DK:=⟨xJ ⟩
theorem df  {e:Expr} {es:List Expr} {t:TG} {u:wA} (h1:QG X e t) (h2:Ez X es u) (hs:(assignEach (e :: es) X.env).map (·.2)=assign e X.env :: (assignEach es X.env).map (·.2):=by rfl):Ez X (e :: es) (zr t u):=⟨uQ h1.p h2.p hs⟩
end
structure DY (X:Cx) (ifs:List Expr) (t:TT):Prop where
 p:zH X ifs t
section
set_option autoImplicit true
set_option relaxedAutoImplicit true
theorem cP  {X:Cx}:DY X [] CI:=⟨xj ⟩
theorem lx  {X:Cx} {c:Expr} {t:TT} (h:QT X c t):DY X [c] t:=⟨xi h.p⟩
theorem dg  (hc:X.calm=true) (hi:QI X tg iter wi) (hg:∀ C fp pins s H,QG (fq X N' scope cl C fp pins s H) tg g) (ht:∀ C fp pins s H,DY (fq X N' scope cl C fp pins s H) ifs tt) (he:∀ C fp pins s H,QE (fq X N' scope cl C fp pins s H) elt te) (hfree:cq X scope cl N' src) (hclos:closureFor scope X.env=pure cl) (hcell:∀ x∈scope.names,x.2≠.cell) (hkind:scope.kind=.function) (hnames:∀ x∈scope.names,x.2=.local->scope.names.lookup x.1=some .local) (hcl:di X scope cl) (hs:∀ x,foldedSetIterable iter X.env x=pure x:=by intro _;rfl):QE X (.ListComp elt [⟨tg,iter,ifs,0⟩] scope pos) (iC wi src g tt te):=⟨uT hc hi.p (fun z0 z1 z2 z3 z4=>(hg z0 z1 z2 z3 z4).p) (fun z0 z1 z2 z3 z4=>(ht z0 z1 z2 z3 z4).p) (fun z0 z1 z2 z3 z4=>(he z0 z1 z2 z3 z4).p) hfree hclos hcell hkind hnames hcl hs⟩
theorem iQ  {i:Nat} {x:Str} {pos' pos2:Pos} (hN:X.N.Nodup) (hi':X.N[i]?=some x) (hx:wB X.env.scope x) (hc:X.calm=true) (hi:QI X tg iter wi) (hg:∀ C fp pins s H,QG (fq X N' scope cl C fp pins s H) tg g) (ht:∀ C fp pins s H,DY (fq X N' scope cl C fp pins s H) ifs tt) (he:∀ C fp pins s H,QE (fq X N' scope cl C fp pins s H) elt te) (hfree:cq X scope cl N' src) (hclos:closureFor scope X.env=pure cl) (hcell:∀ x∈scope.names,x.2≠.cell) (hkind:scope.kind=.function) (hnames:∀ x∈scope.names,x.2=.local->scope.names.lookup x.1=some .local) (hcl:di X scope cl) (hs:∀ x,foldedSetIterable iter X.env x=pure x:=by intro _;rfl) (hsw:swapsWith (.ListComp elt [⟨tg,iter,ifs,0⟩] scope pos) (some (.Name x pos')) pos2.line X.env=pure true:=by rfl) (hf:X.fn x=true∨X.env.scope.names.lookup x=some .local:=by first | exact .inl rfl | exact .inr rfl | assumption):QS X (.Assign [.Name x pos'] (.ListComp elt [⟨tg,iter,ifs,0⟩] scope pos) pos2) (nV (iC wi src g tt te) (jI i)):=⟨xq hN hi' hx hc hi.p (fun z0 z1 z2 z3 z4=>(hg z0 z1 z2 z3 z4).p) (fun z0 z1 z2 z3 z4=>(ht z0 z1 z2 z3 z4).p) (fun z0 z1 z2 z3 z4=>(he z0 z1 z2 z3 z4).p) hfree hclos hcell hkind hnames hcl hs hsw hf⟩
end
section
variable {X:Cx} {K:PySem.W.Frag}
theorem xH {l tg:Expr} {tl:TE} (hK:X.K=K) (hl:PE X l tl):PI X tg l (yn K tl):=hK ▸ uO hl
theorem fM (hK:X.K=K):Cg X (AH K):=hK ▸ ar
theorem m6 (hK:X.K=K):Cg X (AI K):=hK ▸ bj
def Hn (K:PySem.W.Frag):List V->Hp->VK->Prop:=fun xs H Q=>∃ p ys,xs=[.ref p]/\(aR K H p ys∨bo K H p ys)/\Q (.int ys.length) H
end
theorem ba {a b:Expr} {op:Operator} {pos:Pos} {es:List Expr} {env:Env}:starEach (.BinOp a op b pos :: es) env=(false,eval (.BinOp a op b pos) env) :: starEach es env:=rfl
end B
namespace B
open PySem
section
variable {es:List Expr} {env:Env}
theorem aO {a b c}:starEach (.Tuple a b c :: es) env=(false,eval (.Tuple a b c) env) :: starEach es env:=rfl
theorem gI {a b}:starEach (.List a b :: es) env=(false,eval (.List a b) env) :: starEach es env:=rfl
theorem aF {a b c}:starEach (.Subscript a b c :: es) env=(false,eval (.Subscript a b c) env) :: starEach es env:=rfl
theorem aB {a b c d}:starEach (.Call a b c d :: es) env=(false,eval (.Call a b c d) env) :: starEach es env:=rfl
theorem ad {a b}:starEach (.Name a b :: es) env=(false,eval (.Name a b) env) :: starEach es env:=rfl
theorem ap {a b c}:starEach (.Constant a b c :: es) env=(false,eval (.Constant a b c) env) :: starEach es env:=rfl
theorem gH {a b c}:starEach (.UnaryOp a b c :: es) env=(false,eval (.UnaryOp a b c) env) :: starEach es env:=rfl
theorem sK {a b c d}:starEach (.Compare a b c d :: es) env=(false,eval (.Compare a b c d) env) :: starEach es env:=rfl
theorem sL {a b c}:starEach (.Attribute a b c :: es) env=(false,eval (.Attribute a b c) env) :: starEach es env:=rfl
theorem dD {a b c d}:starEach (.ListComp a b c d :: es) env=(false,eval (.ListComp a b c d) env) :: starEach es env:=rfl
end
end B
namespace B
open PySem L2 PyProof.Rows
inductive bG {α:Type} (P:V->α->Prop):List V->List α->Prop where
 | nil:bG P [] []
 | cons {x:V} {d:α} {xs:List V} {ds:List α} (h:P x d) (t:bG P xs ds):bG P (x :: xs) (d :: ds)
theorem bG.len {α:Type} {P:V->α->Prop}:∀ {xs:List V} {ds:List α},bG P xs ds->xs.length=ds.length
 | _,_,.nil=>rfl
 | _,_,.cons _ t=>congrArg (·+1) t.len
theorem bG.mono {α:Type} {P P':V->α->Prop} (m:∀ v d,P v d->P' v d):∀ {xs:List V} {ds:List α},bG P xs ds->bG P' xs ds
 | _,_,.nil=>.nil
 | _,_,.cons h t=>.cons (m _ _ h) (t.mono m)
theorem bG.snoc {α:Type} {P:V->α->Prop} {x:V} {d:α} (k:P x d):∀ {xs:List V} {ds:List α},bG P xs ds->bG P (xs++[x]) (ds++[d])
 | _,_,.nil=>.cons k .nil
 | _,_,.cons h t=>.cons h (t.snoc k)
theorem bG.at {α:Type} {P:V->α->Prop}:∀ {xs:List V} {ds:List α},bG P xs ds->∀ {i:Nat} {x:V},xs[i]?=some x->∃ d,ds[i]?=some d/\P x d
 | _,_,.cons h _,0,x,e=>by
  rw [List.getElem?_cons_zero] at e
  cases e
  exact⟨_,rfl,h⟩
 | _,_,.cons _ t,i+1,x,e=>t.at (i:=i) (by rw [List.getElem?_cons_succ] at e;exact e)
 | _,_,.nil,_,_,e=>by cases e
theorem bG.deep {α:Type} {K:PySem.W.Frag} {H:Hp} {P:V->α->Prop} {f:α->PyData} (m:∀ v d,P v d->bW K H v (f d)):∀ {xs:List V} {ds:List α},bG P xs ds->bu K H xs (ds.map f)
 | _,_,.nil=>.nil
 | _,_,.cons h t=>.cons (m _ _ h) (t.deep m)
end B
namespace B
open PySem PySem.Spec L2 PyProof.Rows
theorem bG.last {α:Type} {P:V->α->Prop} {xs:List V} {ds:List α} {n:Nat} (h:bG P xs ds) (hn:ds.length=n+1):∃ x d,jN xs (-1)=some x/\ds[n]?=some d/\P x d/\xs[n]?=some x:=by
 have hl:=h.len
 have hx:xs[n]?=some (xs[n]'(by omega)):=List.getElem?_eq_getElem _
 obtain⟨d,hd,p⟩:=h.at hx
 refine⟨_,d,?_,hd,p,hx⟩
 have e:xs=xs.take n++[xs[n]'(by omega)]:=by
  have:=List.take_append_drop n xs
  rw [List.drop_eq_getElem_cons (by omega)] at this
  rw [List.drop_eq_nil_of_le (by omega)] at this
  exact this.symm
 have:=wk (xs.take n) (xs[n]'(by omega))
 rw [← e] at this
 exact this
section
set_option autoImplicit true
set_option relaxedAutoImplicit true
theorem AM  {X:Cx} {tg l:Expr} {tl:TE} (hl:QE X l tl):QI X tg l (DD X.K tl):=⟨AZ hl.p⟩
theorem pJ {K:PySem.W.Frag} {l tg:Expr} {tl:TE} (hK:X.K=K) (hl:QE X l tl):QI X tg l (yn K tl):=⟨xH hK hl.p⟩
end
def E1 (K:PySem.W.Frag):R2:=fun x y H Q=>∃ d d',bW K H x d/\bW K H y d'/\d.canLay0=true/\d'.canLay0=true/\d.depth≤32/\Q (.bl (PyData.eqv d d')) H
theorem u8 {X:Cx} {k:Nat} (hr:cu k X.A):gB X (compareOp .Eq) (E1 X.K):=by
 intro pins s σ H x y v u Q I rx ry h
 obtain⟨d,d',hd,hd',c,c',dp,q⟩:=h
 obtain⟨as,ra⟩:=bW.reads I hd rx
 obtain⟨bs,rb⟩:=bW.reads I hd' ry
 exact SeqAt.compareEq_reads ra rb c c' (by have:=hr.units;omega) ⟨.bl _,H,I,rfl,q⟩
theorem qc {r q:R}:PyData.eqv (dR r) (dR q)=decide (r=q):=by
 by_cases h:r=q
 ·rw [decide_eq_true h,h];exact gW q
 ·rw [decide_eq_false h]
  cases c:PyData.eqv (dR r) (dR q) with
  | false=>rfl
  | true=>exact absurd (vY c) h
def C8 (K:PySem.W.Frag):List V->Hp->VK->Prop:=fun xs H Q=>∃ a ys n b,xs=[.ref a,.ty n]/\bo K H a ys/\fG "tuple" n=some b/\Q (.bl b) H
theorem iy {X:Cx}:dj X (.builtin "isinstance") (C8 X.K):=by
 intro pins s σ H xs us Q I r h
 obtain⟨a,ys,n,b,rfl,hS,e,q⟩:=h
 obtain⟨u,u2,rfl,rx,ry⟩:=j7 r
 obtain rfl:u2=Value.type n:=ry
 cases (show u=Value.ref a from rx)
 obtain⟨its,_,⟨o,h1,h2,_⟩,_⟩:=I.tuple hS
 exact PySem.W.kia_one PySem.W.kitx_tuple I.kIn ⟨o,h1,h2⟩ (oO e) (fun z=>nomatch z) fun tk=>⟨.bl b,H,I.tok tk,rfl,q⟩
section
set_option autoImplicit true
set_option relaxedAutoImplicit true
theorem xf  {X:Cx} {e:Expr} {f:Str} {pos:Pos} {ta:TE} {K:PySem.W.Frag} (hK:X.K=K) (he:QE X e ta) (hb:attributeBase e f X.env (eval e X.env)=eval e X.env):QE X (.Attribute e f pos) (y9 K ta f):=⟨xN hK he.p hb⟩
theorem w8  (hex:X.ex=[]) (ha:QE X o ta) (hv:QE X value tv) (hs:swapsWith value (some (.Attribute o f pos')) pos.line X.env=pure false):QS X (.Assign [.Attribute o f pos'] value pos) (zf X.K ta tv f):=⟨xt hex ha.p hv.p hs⟩
theorem qQ  {x:Str} {p cpos pos:Pos} {e:Expr} {es:List Expr} {t:TA} {E:XK} (M:XC X.K C f bm) (hbase:bm.contains (.type "BaseException")=true) (hex:X.ex=[]) (tk:o5 X E) (F:bB X.prog X.w X.K X.mg X.base dk k f fd ps sp) (hr:cu (k+1) X.A) (hb:aP X.K fd ps []) (hg:Gl X x) (hm:X.mg x=some (.ref C)) (ha:QA X (e :: es) t) (hdb:(x == ("__debug__" : Str))=false:=by decide) (he:starEach (e :: es) X.env=(false,eval e X.env) :: starEach es X.env:=by rfl) (hpl:(backTo cpos (starEach es X.env)).any (·.1)=false:=by rfl):QS X (.Raise (some (.Call (.Name x p) (e :: es) [] cpos)) none pos) (pA C sp E t):=⟨qS M hbase hex tk F hr hb hg hm ha.p hdb he hpl⟩
theorem uv {R:RX} {suite:List Stmt} {i:Nat} {n:Str} (hex:X.ex=[]) (hst:X.stack=X.env :: X.outer) (hfr:X.env.frame=some X.env.locals) (hg:Gl X x) (hm:X.mg x=some u) (hN:X.N.Nodup) (hi:X.N[i]?=some n) (hn:X.env.scope.names.lookup n=some .local) (hb:∀ pins,cY (gv X pins R) body tb) (hs:∀ e,cY (kD X e) (b₀ :: suite) th) (hd:(x == ("__debug__" : Str))=false:=by decide):QS X (.Try body [.ExceptHandler (some (.Name x p)) (some n) (b₀ :: suite) hpos] [] [] pos) (sv X.N i R (fun C=>PySem.W.exmOne X.K (.ref C) u=some true) tb th):=⟨uH hex hst hfr hg hm hN hi hn (fun z0=>(hb z0).p) (fun z0=>(hs z0).p) hd⟩
end
end B
namespace L2
open PySem PySem.Spec PyProof.Rows
section
variable {κ:Type} [DecidableEq κ]
def h7 (kvs:List (κ×V)) (k:κ):Option V:=(kvs.find? fun kv=>decide (kv.1=k)).map (·.2)
def fg (kvs:List (κ×V)) (k:κ) (v:V):List (κ×V):=
 if (kvs.any fun kv=>decide (kv.1=k))=true then kvs.map (fun kv=>if kv.1=k then (kv.1,v) else kv) else kvs++[(k,v)]
def Gs (kvs:List (κ×V)) (k:κ):List (κ×V):=kvs.filter fun kv=>decide (kv.1≠k)
theorem gD {p:κ×V} {r:List (κ×V)} {k:κ} (e:p.1=k):h7 (p :: r) k=some p.2:=by simp [h7,List.find?_cons,e]
theorem gE {p:κ×V} {r:List (κ×V)} {k:κ} (e:¬ p.1=k):h7 (p :: r) k=h7 r k:=by simp [h7,List.find?_cons,e]
theorem mf (k:κ):∀ kvs:List (κ×V),(kvs.any fun kv=>decide (kv.1=k))=(h7 kvs k).isSome
 | []=>rfl
 | p :: r=>by
  rw [List.any_cons]
  by_cases e:p.1=k
  ·simp only [gD e,decide_eq_true e,Bool.true_or,Option.isSome_some]
  ·rw [gE e,decide_eq_false e,Bool.false_or];exact mf k r
theorem iD (kvs:List (κ×V)) (k:κ) (v:V):(fg kvs k v).length≤kvs.length+1:=by
 unfold fg
 split
 ·rw [List.length_map];omega
 ·rw [List.length_append,List.length_cons,List.length_nil];omega
theorem ft.isSome_eq {o:Option V} {u:Option Value} (r:ft o u):o.isSome=u.isSome:=by
 cases o with
 | none=>cases u with
  | none=>rfl
  | some _=>exact (show False from r).elim
 | some _=>cases u with
  | none=>exact (show False from r).elim
  | some _=>rfl
theorem ft.getD {o:Option V} {u:Option Value} {d:V} {d':Value} (r:ft o u) (rd:aY d d'):aY (o.getD d) (u.getD d'):=by
 cases o with
 | none=>cases u with
  | none=>exact rd
  | some _=>exact (show False from r).elim
 | some _=>cases u with
  | none=>exact (show False from r).elim
  | some _=>exact r
theorem KV.val {kvs:List (κ×V)} {vs:List (κ×Value)} (r:KV kvs vs) (k:κ):ft (h7 kvs k) (valueAt vs k):=by
 unfold KV at r
 induction r with
 | nil=>exact True.intro
 | @cons p q ps qs h t ih=>
  obtain⟨h1,h2⟩:=h
  by_cases e:p.1=k
  ·have e':q.1=k:=h1.symm.trans e
   have b:valueAt (q :: qs) k=some q.2:=by simp [valueAt,List.find?_cons,e']
   rw [gD e,b];exact h2
  ·have e':¬ q.1=k:=fun z=>e (h1.trans z)
   have b:valueAt (q :: qs) k=valueAt qs k:=by simp [valueAt,List.find?_cons,e']
   rw [gE e,b];exact ih
theorem KV.any {kvs:List (κ×V)} {vs:List (κ×Value)} (r:KV kvs vs) (k:κ):(kvs.any fun kv=>decide (kv.1=k))=vs.any fun kv=>decide (kv.1=k):=by
 unfold KV at r
 induction r with
 | nil=>rfl
 | cons h t ih=>rw [List.any_cons,List.any_cons,ih,h.1]
theorem KV.repl {kvs:List (κ×V)} {vs:List (κ×Value)} (r:KV kvs vs) (k:κ) {y:V} {u:Value} (ry:aY y u) :
  KV (kvs.map fun kv=>if kv.1=k then (kv.1,y) else kv) (vs.map fun kv=>if kv.1=k then (kv.1,u) else kv):=by
 unfold KV at r ⊢
 induction r with
 | nil=>exact .nil
 | @cons p q ps qs h t ih=>
  rw [List.map_cons,List.map_cons]
  refine .cons ?_ ih
  obtain⟨h1,h2⟩:=h
  by_cases e:p.1=k
  ·rw [if_pos e,if_pos (h1.symm.trans e)];exact⟨h1,ry⟩
  ·rw [if_neg e,if_neg (fun z=>e (h1.trans z))];exact⟨h1,h2⟩
theorem KV.put {kvs:List (κ×V)} {vs:List (κ×Value)} (r:KV kvs vs) (k:κ) {y:V} {u:Value} (ry:aY y u):KV (fg kvs k y) (stored vs k u):=by
 unfold fg stored
 rw [r.any k]
 by_cases e:(vs.any fun kv=>decide (kv.1=k))=true
 ·rw [if_pos e,if_pos e];exact r.repl k ry
 ·rw [if_neg e,if_neg e];exact Paired.snoc r ⟨rfl,ry⟩
theorem KV.length {kvs:List (κ×V)} {vs:List (κ×Value)} (r:KV kvs vs):kvs.length=vs.length:=Paired.length r
end
theorem vG {P:Program} {w:World} {k:cJ} {u:Value} (r:aY (kV k) u):(bL P w).is k u=true:=by
 cases k with
 | inl i=>obtain⟨t,e⟩:=(show ∃ t,u=Value.int i t from r);subst e;exact mV P w i t
 | inr x=>obtain⟨t,e⟩:=(show ∃ t,u=Value.str x t from r);subst e;exact mU P w x t
theorem kB {P:Program} {w:World}:∀ {ks:List cJ} {us:List Value},aZ (ks.map kV) us->ItemsAre (bL P w) ks us
 | [],_,r=>by rw [List.map_nil] at r;cases r;exact .nil
 | k :: ks,_,r=>by
  rw [List.map_cons] at r
  cases r with
  | cons h t=>exact .cons (vG h) (kB t)
abbrev KT (H:Hp):List (List cJ×V)->List (List cJ×Addr×Value)->Prop:=Paired fun p q=>p.1=q.1/\H q.2.1=some (.tup (p.1.map kV))/\aY p.2 q.2.2
theorem KT.val {H:Hp} {kvs:List (List cJ×V)} {xs:List (List cJ×Addr×Value)} (r:KT H kvs xs) (k:List cJ):ft (h7 kvs k) ((atKey xs k).map (·.2)):=by
 induction r with
 | nil=>exact True.intro
 | @cons p q ps qs h t ih=>
  obtain⟨h1,_,h2⟩:=h
  by_cases e:p.1=k
  ·have e':q.1=k:=h1.symm.trans e
   have b:atKey (q :: qs) k=some q.2:=by simp [atKey,List.find?_cons,e']
   rw [gD e,b];exact h2
  ·have e':¬ q.1=k:=fun z=>e (h1.trans z)
   have b:atKey (q :: qs) k=atKey qs k:=by simp [atKey,List.find?_cons,e']
   rw [gE e,b];exact ih
theorem KT.repl {H:Hp} {kvs:List (List cJ×V)} {xs:List (List cJ×Addr×Value)} (r:KT H kvs xs) (k:List cJ) {y:V} {u:Value} (ry:aY y u) :
  KT H (kvs.map fun kv=>if kv.1=k then (kv.1,y) else kv) (xs.map (putAt k u)):=by
 induction r with
 | nil=>exact .nil
 | @cons p q ps qs h t ih=>
  rw [List.map_cons,List.map_cons]
  refine .cons ?_ ih
  obtain⟨h1,h2,h3⟩:=h
  unfold putAt
  by_cases e:p.1=k
  ·rw [if_pos e,if_pos (h1.symm.trans e)];exact⟨h1,h2,ry⟩
  ·rw [if_neg e,if_neg (fun z=>e (h1.trans z))];exact⟨h1,h2,h3⟩
theorem KT.put {H:Hp} {kvs:List (List cJ×V)} {xs:List (List cJ×Addr×Value)} (r:KT H kvs xs) (k:List cJ) {b:Addr} {y:V} {u:Value} (hb:H b=some (.tup (k.map kV))) (ry:aY y u) :
  KT H (fg kvs k y) (storedH xs k b u):=by
 have e:(kvs.any fun kv=>decide (kv.1=k))=(atKey xs k).isSome:=by
  rw [mf,(r.val k).isSome_eq,Option.isSome_map]
 unfold fg storedH
 rw [e]
 by_cases q:(atKey xs k).isSome=true
 ·rw [if_pos q,if_pos q];exact r.repl k ry
 ·rw [if_neg q,if_neg q];exact Paired.snoc r ⟨rfl,hb,ry⟩
theorem KT.keeps {H H':Hp} {kvs:List (List cJ×V)} {xs:List (List cJ×Addr×Value)} (r:KT H kvs xs) (ht:∀ b ys,H b=some (.tup ys)->H' b=some (.tup ys)):KT H' kvs xs:=
 Paired.mapP r fun _ _ z=>⟨z.1,ht _ _ z.2.1,z.2.2⟩
section
variable {P:Program} {w:World} {H:Hp} {h:Heap} {a:Addr}
theorem zh {u:HO} (ok:fP P w H h) (e:Rd H a u):ObjOk P w H h a u:=e.ok ok
theorem v5 {kvs:List (cJ×V)} (ok:fP P w H h) (e:Rd H a (.dK kvs)):kvs.length≤sizeLine/\(a == sysModules)=false/\∃ vs,KV kvs vs/\h.DictOf (bL P w) a vs:=
 show ObjOk P w H h a (.dK kvs) from zh ok e
theorem zw {kvs:List (cJ×V)} (ok:fP P w H h) (e:H a=some (.dK kvs)):kvs.length≤sizeLine/\(a == sysModules)=false/\∃ vs,KV kvs vs/\h.DictOf (bL P w) a vs:=v5 ok (.inl e)
theorem oP {ks:List cJ} (ok:fP P w H h) (e:H a=some (.tup (ks.map kV))):(tupleKind (bL P w)).is h ks a:=by
 obtain⟨_,its,r,o,h1,h2,n,h3⟩:=(show ObjOk P w H h a (.tup (ks.map kV)) from ok a _ e)
 exact⟨o,its.toArray,n,h1,h2,h3,by simpa using kB r⟩
theorem v0 {kvs:List (List cJ×V)} (ok:fP P w H h) (e:Rd H a (.dT kvs)):kvs.length≤sizeLine/\(a == sysModules)=false∧
  ∃ xs,KT H kvs xs/\h.DictOfH (tupleKind (bL P w)) a xs:=by
 obtain⟨z,y,xs,r,o,es,ep,h1,h2,h3,h4,h5⟩:=(show ObjOk P w H h a (.dT kvs) from zh ok e)
 refine⟨z,y,xs,r,o,es,ep,h1,h2,h3,h4,fun x hx=>?_,h5⟩
 have all:∀ {l:List (List cJ×V)} {m:List (List cJ×Addr×Value)},KT H l m->∀ x∈m,(tupleKind (bL P w)).is h x.1 x.2.1:=by
  intro l m q
  induction q with
  | nil=>intro x hx;exact nomatch hx
  | @cons p q ps qs hq t ih=>
   intro x hx
   rcases List.mem_cons.mp hx with e | hx
   ·subst e
    exact oP ok (by rw [← hq.1];exact hq.2.1)
   ·exact ih x hx
 exact all r x hx
theorem DQ {kvs:List (List cJ×V)} (ok:fP P w H h) (e:H a=some (.dT kvs)):kvs.length≤sizeLine/\(a == sysModules)=false∧
  ∃ xs,KT H kvs xs/\h.DictOfH (tupleKind (bL P w)) a xs:=v0 ok (.inl e)
end
def jX (H:Hp) (a:Addr) (y:V) (r:Option V):Prop:=
 (∃ kvs k,Rd H a (.dK kvs)/\y=kV k/\r=h7 kvs k)∨∃ kvs k b,Rd H a (.dT kvs)/\y=.ref b/\H b=some (.tup (k.map kV))/\r=h7 kvs k
def rS (H:Hp) (a:Addr) (y v:V) (H':Hp):Prop:=
 (∃ kvs k,H a=some (.dK kvs)/\y=kV k/\kvs.length < sizeLine/\H'=upd H a (.dK (fg kvs k v)))∨
 ∃ kvs k b,H a=some (.dT kvs)/\y=.ref b/\H b=some (.tup (k.map kV))/\kvs.length < sizeLine/\H'=upd H a (.dT (fg kvs k v))
theorem jX.k {H:Hp} {a:Addr} {kvs:List (cJ×V)} {k:cJ} (e:H a=some (.dK kvs)):jX H a (kV k) (h7 kvs k):=.inl ⟨kvs,k,.inl e,rfl,rfl⟩
theorem rS.k {H:Hp} {a:Addr} {kvs:List (cJ×V)} {k:cJ} {v:V} (e:H a=some (.dK kvs)) (hl:kvs.length < sizeLine):rS H a (kV k) v (upd H a (.dK (fg kvs k v))):=.inl ⟨kvs,k,e,rfl,hl,rfl⟩
section
variable {X:Cx} {pins:List (Addr×Obj)} {σ:St} {H:Hp} {s:Shared} {a:Addr} {y v:V} {u r:Value} {o:Option V} {A:Around} {E:Value->Shared->Prop}
theorem Inv.big (I:Inv X pins σ H s):sysModules < s.heap.objs.size:=by
 have h:mainGlobals < s.heap.objs.size:=(I.mod.glob.keeps I.bk).lt
 exact Nat.lt_trans (by decide) h
theorem lQ {h':Heap} {t':Nat} {ob:HO} (I:Inv X pins σ H s) (mu:D5 (H a)) (hs:Heap.SameBut a s.heap h') (he:∃ q,h'.get? a=some q) (new:ObjOk X.prog X.w (upd H a ob) h' a ob) :
  Inv X pins σ (upd H a ob) { s with heap:=h',toks:=t' }:=
 I.write (x:=a) (e:=a) mu (.inl rfl) (fun b q hb z=>(hs.2 b hb).trans z) he new
theorem BY {P:Program} {w:World} {H':Hp} {h':Heap} {kvs:List (cJ×V)} {vs:List (cJ×Value)} (z:kvs.length≤sizeLine) (hd:(a == sysModules)=false) (rel:KV kvs vs) (dd:h'.DictOf (bL P w) a vs) :
  ObjOk P w H' h' a (.dK kvs):=⟨z,hd,vs,rel,dd⟩
theorem rL {H':Hp} {Q:Unit->Shared->Prop} (hu:A.units+1 < cLine) (I:Inv X pins σ H s) (g:rS H a y v H') (ry:aY y u) (rv:aY v r) (h:∀ s',Inv X pins σ H' s'->Q () s') :
  wpAny (model X.prog X.w) A (setItem (.ref a) u r) Q E s:=by
 rcases g with ⟨kvs,k,e,ey,l,eH⟩ | ⟨kvs,k,b,e,ey,eb,l,eH⟩
 ·subst ey eH
  obtain⟨z,hd,vs,rel,dd⟩:=zw I.hok e
  have hz:vs.length≤sizeLine:=by rw [← rel.length];exact z
  have hl:(fg kvs k v).length≤sizeLine:=by have:=iD kvs k v;omega
  refine wpAny_setItem_pairs (hsz:=hz) (vG ry) dd fun h' dd' hs=>h _ ?_
  have he:∃ q,h'.get? a=some q:=let ⟨q,_,_,hq,_⟩:=dd';⟨q,hq⟩
  exact lQ I (by rw [e];exact True.intro) hs he (BY hl hd (rel.put k rv) dd')
 ·subst ey eH
  cases (show u=Value.ref b from ry)
  obtain⟨z,hd,xs,rel,dd⟩:=DQ I.hok e
  have hz:xs.length≤sizeLine:=by rw [← Paired.length rel];exact z
  have hl:(fg kvs k v).length≤sizeLine:=by have:=iD kvs k v;omega
  refine wpAny_setItem_heap (hsz:=hz) (tupleKind_room_in1 hu) (oP I.hok eb) dd fun h' dd' hs=>h _ ?_
  obtain⟨q,es,ep,hq,h2,h3,h4,_,h5⟩:=dd'
  refine lQ I (by rw [e];exact True.intro) hs ⟨q,hq⟩ ⟨hl,hd,_,(rel.put k eb rv).keeps fun c ys ec=>?_,q,es,ep,hq,h2,h3,h4,h5⟩
  rw [av (Dz ec e (fun z=>nomatch z))]
  exact ec
end
section
variable {X:Cx} {pins:List (Addr×Obj)} {σ:St} {H:Hp} {s:Shared} {a:Addr} {kvs:List (cJ×V)} {k:cJ} {u:Value} {A:Around} {E:Value->Shared->Prop}
end
def Ii (i:Expr):Prop:=∀ ov iv,subscripted i false ov iv=operate [ov,iv] (getItem ov iv)
def FT (td ty:TE):TE:=fun σ H Q=>td σ H fun x H1=>ty σ H1 fun y H2=>∃ a v,x=.ref a/\jX H2 a y (some v)/\Q v H2
def G0 (ty td:TE):TE:=fun σ H Q=>ty σ H fun y H1=>td σ H1 fun x H2=>∃ a o,x=.ref a/\jX H2 a y o/\Q (.bl o.isSome) H2
def Ec (ty td:TE):TE:=fun σ H Q=>ty σ H fun y H1=>td σ H1 fun x H2=>∃ a o,x=.ref a/\jX H2 a y o/\Q (.bl (!o.isSome)) H2
def zg (td ty tv:TE):TS:=fun D σ H=>tv σ H fun v H1=>td σ H1 fun x H2=>ty σ H2 fun y H3=>∃ a H4,x=.ref a/\rS H3 a y v H4/\D.nx σ H4
def F0 (td ty tv:TE) (rd:V->V->Hp->VK->Prop):TS:=fun D σ H=>td σ H fun x H1=>ty σ H1 fun y H2=>∃ a v,x=.ref a/\jX H2 a y (some v)∧
 tv σ H2 fun y2 H3=>rd v y2 H3 fun z H4=>∃ H5,rS H4 a y z H5/\D.nx σ H5
section
variable {X:Cx} {o i e value:Expr} {pos pos' tpos:Pos} {td ty tv:TE}
theorem xz (hu:X.A.units+1 < cLine) (ho:PE X o td) (hi:PE X i ty) (hv:PE X value tv) (hs:swapsWith value (some (.Subscript o i pos')) pos.line X.env=pure false) :
  PS X (.Assign [.Subscript o i pos'] value pos) (zg td ty tv):=by
 intro pins s σ H D I h
 refine wpAny_Assign_Subscript (bX (hv pins s σ H _ I h) fun r s1 ⟨v,H1,I1,rv,q1⟩=>bX (ho pins s1 σ H1 _ I1 q1) fun u s2 ⟨x,H2,I2,rx,q2⟩=>bX (hi pins s2 σ H2 _ I2 q2) fun iv s3 ⟨y,H3,I3,ry,a,H4,ex,g,q3⟩=>?_) hs
 subst ex
 obtain rfl:u=Value.ref a:=rx
 exact rL hu I3 g ry rv fun s4 I4=>⟨σ,H4,I4,q3⟩
end
theorem v6 {P:Program} {w:World} {H:Hp} (h:Heap) (hb:sysModules < h.objs.size):ObjOk P w H (h.push { cls:=.type "dict", data:=.dict #[] }) h.objs.size (.dK []):=
 ⟨Nat.zero_le _,beq_eq_false_iff_ne.mpr (Ne.symm (Nat.ne_of_lt hb)),[],.nil,Heap.DictOf.new h⟩
def sx:TE:=fun _ H Q=>∀ p,H p=none->Q (.ref p) (upd H p (.dK []))
section
variable {X:Cx} {pos:Pos}
theorem uV:PE X (.Dict [] [] pos) sx:=fun pins s σ H Q I h=>
 wpAny_Dict_empty ⟨.ref s.heap.objs.size,_,I.laid (a:=s.heap.objs.size) (o:=.dK []) (t':=s.toks) (fun _ _ q=>Heap.get?_push_of_some _ q) (Nat.le_refl _) (v6 s.heap I.big),rfl,h _ (I.hok.fresh (Nat.le_refl _))⟩
end
def nU:List (TE×TE)->St->Hp->(List (V×V)->Hp->Prop)->Prop
 | [],_,H,Q=>Q [] H
 | (tk,tv) :: r,σ,H,Q=>tk σ H fun x H1=>tv σ H1 fun y H2=>nU r σ H2 fun ps H3=>Q ((x,y) :: ps) H3
abbrev VV:List (V×V)->List (Value×Value)->Prop:=Paired fun p q=>aY p.1 q.1/\aY p.2 q.2
def IU (X:Cx) (pos:Pos) (keys:List (Option Expr)) (values:List Expr) (trs:List (TE×TE)):Prop:=
 ∀ (pins:List (Addr×Obj)) (s:Shared) (σ:St) (H:Hp) (Q:List (V×V)->Hp->Prop),Inv X pins σ H s->nU trs σ H Q→
  wpAny (model X.prog X.w) X.A (evalPairs (pairTrees keys values X.env pos)) (fun vs s'=>∃ ps H',Inv X pins σ H' s'/\VV ps vs/\Q ps H') X.xe s
def BG (kvs more:List (cJ×V)):List (cJ×V):=more.foldl (fun acc kv=>fg acc kv.1 kv.2) kvs
def FR (trs:List (TE×TE)):TE:=fun σ H Q=>∀ p,H p=none->nU trs σ (upd H p (.dK [])) fun ps H2=>H2 p=some (.dK [])/\∃ kvs:List (cJ×V),ps=kvs.map (fun kv=>(kV kv.1,kv.2))/\kvs.length≤15/\Q (.ref p) (upd H2 p (.dK (BG [] kvs)))
structure M1 (X:Cx) (o:Expr) (m:Str) (apos:Pos) (e:Expr) (cpos:Pos):Prop where
 base:attributeBase o m X.env (eval o X.env)=eval o X.env
 few:((backTo cpos (starEach [e] X.env)).all (fun x=>!x.1) && (backToKw cpos (keywordEach [] X.env)).all (fun x=>x.1.isSome)
  && decide (([e]:List Expr).length+([]:List Keyword).length+(if ([]:List Keyword).isEmpty then 0 else 1) < 30))=true
 line:(apos.endLine == cpos.line)=true
 trees:backTo cpos (starEach [e] X.env)=[(false,eval e X.env)]
structure M2 (X:Cx) (o:Expr) (m:Str) (apos:Pos) (e f:Expr) (cpos:Pos):Prop where
 base:attributeBase o m X.env (eval o X.env)=eval o X.env
 few:((backTo cpos (starEach [e,f] X.env)).all (fun x=>!x.1) && (backToKw cpos (keywordEach [] X.env)).all (fun x=>x.1.isSome)
  && decide (([e,f]:List Expr).length+([]:List Keyword).length+(if ([]:List Keyword).isEmpty then 0 else 1) < 30))=true
 line:(apos.endLine == cpos.line)=true
 trees:backTo cpos (starEach [e,f] X.env)=[(false,eval e X.env),(false,eval f X.env)]
def Fv (H:Hp) (a:Addr):Prop:=(∃ kvs,Rd H a (.dK kvs))∨∃ kvs,Rd H a (.dT kvs)
theorem vI {X:Cx} {pins:List (Addr×Obj)} {σ:St} {H:Hp} {s:Shared} {a:Addr} (I:Inv X pins σ H s) (d:Fv H a) :
  s.TypeIs (.ref a) "dict" /\ (∀ b,Value.ref a=.ref b->∃ ob,s.heap.get? b=some ob/\ob.dict=none)/\(a == sysModules)=false:=by
 rcases d with ⟨kvs,e⟩ | ⟨kvs,e⟩
 ·obtain⟨_,hd,vs,_,dd⟩:=v5 I.hok e
  refine⟨dd.typeIs,fun b q=>?_,hd⟩
  cases q
  obtain⟨ob,_,_,h1,h2,_⟩:=dd
  exact⟨ob,h1,h2.2.1⟩
 ·obtain⟨_,hd,xs,_,dd⟩:=v0 I.hok e
  refine⟨dd.typeIs,fun b q=>?_,hd⟩
  cases q
  obtain⟨ob,_,_,h1,h2,_⟩:=dd
  exact⟨ob,h1,h2.2.1⟩
section
variable {X:Cx} {pins:List (Addr×Obj)} {σ:St} {H:Hp} {s:Shared} {a:Addr} {y d:V} {u r:Value} {o:Option V} {A:Around} {E:Value->Shared->Prop}
theorem B1 {Q:Value->Shared->Prop} (hu:A.units+1 < cLine) (I:Inv X pins σ H s) (g:jX H a y o) (ry:aY y u) (rd:aY d r) (h:∀ w' s',Inv X pins σ H s'->aY (o.getD d) w'->Q w' s') :
  wpAny (model X.prog X.w) A (call (.builtin "dict.get") [.ref a,u,r]) Q E s:=by
 rcases g with ⟨kvs,k,e,ey,l⟩ | ⟨kvs,k,b,e,ey,eb,l⟩
 ·subst ey
  obtain⟨z,hd,vs,rel,dd⟩:=v5 I.hok e
  refine call_meetsIn PySem.F.slot_dict_get dd.typeIs PySem.F.entry_dict_get (PySem.F.args_dict_get_3 _ _ _) (meets_dict_get_default (bL X.prog X.w) a (vG ry) hd r) ⟨_,dd.mapOf,h _ _ (I.tok _) ?_⟩
  rw [l]
  exact (rel.val k).getD rd
 ·subst ey
  cases (show u=Value.ref b from ry)
  obtain⟨z,hd,xs,rel,dd⟩:=v0 I.hok e
  refine call_meetsIn PySem.F.slot_dict_get dd.typeIs PySem.F.entry_dict_get (PySem.F.args_dict_get_3 _ _ _) (meetsH_dict_get_default (tupleKind (bL X.prog X.w)) a b hd r) ⟨tupleKind_room_in1 hu,k,xs,oP I.hok eb,dd,h _ _ (I.tok _) ?_⟩
  rw [l]
  exact (rel.val k).getD rd
end
def EN (td ty:TE):TE:=fun σ H Q=>td σ H fun x H1=>∃ a,x=.ref a/\Fv H1 a/\ty σ H1 fun y H2=>∃ o,jX H2 a y o/\Q (o.getD .non) H2
def sC (td ty tx:TE):TE:=fun σ H Q=>td σ H fun x H1=>∃ a,x=.ref a/\Fv H1 a/\ty σ H1 fun y H2=>tx σ H2 fun z H3=>∃ o,jX H3 a y o/\Q (o.getD z) H3
section
variable {X:Cx} {o e f:Expr} {apos cpos:Pos} {td ty tx:TE}
theorem uW (hu:X.A.units+1 < cLine) (ho:PE X o td) (he:PE X e ty) (hf:PE X f tx) (m:M2 X o "get" apos e f cpos):PE X (.Call (.Attribute o "get" apos) [e,f] [] cpos) (sC td ty tx):=by
 intro pins s σ H Q I h
 refine wpAny_Call_method m.base m.few m.line PySem.F.plainAttrs_dict PySem.F.slot_dict_get PySem.F.type_dict_get (bX (ho pins s σ H _ I h) fun u s1 ⟨x,H1,I1,rx,a,ex,d,q1⟩=>?_)
 subst ex
 obtain rfl:u=Value.ref a:=rx
 obtain⟨t1,t2,_⟩:=vI I1 d
 refine⟨t1,t2,?_⟩
 rw [m.trees]
 refine Calls.callWith_builtin rfl (Calls.evalArgs_plain (Calls.spliced_cons (bX (he pins s1 σ H1 _ I1 q1) fun iv s2 ⟨y,H2,I2,ry,q2⟩=>
  Calls.spliced_cons (bX (hf pins s2 σ H2 _ I2 q2) fun fv s3 ⟨z,H3,I3,rz,ov,g,q3⟩=>Calls.spliced_nil ?_))))
 exact B1 hu I3 g ry rz fun w' s4 I4 rw'=>⟨_,H3,I4,rw',q3⟩
end
end L2
namespace B
open PySem PySem.Spec L2 PyProof.Rows
theorem iw {α β:Type} {K:PySem.W.Frag} {H:Hp} {D a:Addr} {xs:List V} {ds:List α} {P:Hp->V->β->Prop} {f:α->β} {src:List (Option Nat)} {σ:L2.St} {g:TG} {tt:TT} {te:TE} {Q:Hp->Prop}
  (mono:∀ H H' v d,ax K H H'->P H v d->P H' v d) (hD:H D=none) (hS:bo K H a xs) (hl:xs.length=ds.length) (hn:ds.length≤1000)
  (turn:∀ (i:Nat) (x:V) (d:α) (H':Hp),xs[i]?=some x->ds[i]?=some d->aS H H'->∀ (R:VK) (E:Hp->Prop),(∀ v H'',aS H' H''->P H'' v (f d)->R v H'')→
   g x (bQ src σ) H' fun σ2 H2=>hZ (bQ src σ) σ2/\tt σ2 H2 fun ok H3=>if ok=true then te σ2 H3 R else E H3)
  (fin:∀ H' ys,aS H H'->H' D=some (.lst ys)->bG (P H') ys (ds.map f)->Q H') :
  ∃ W:Nat->Nat->List V->Hp->Prop,(∃ m,W 0 m [] (upd H D (.lst [])))/\∀ i m ys H,W i m ys H->((wD K a).stop i H/\Q H)∨((wD K a).go i H/\∀ x H',(wD K a).yld i H x H'→
   g x (bQ src σ) H' fun σ2 H2=>hZ (bQ src σ) σ2/\tt σ2 H2 fun ok H3=>
    if ok=true then te σ2 H3 fun y H4=>H4 D=some (.lst ys)/\ys.length < sizeLine/\∃ m',m' < m/\W (i+1) m' (ys++[y]) (upd H4 D (.lst (ys++[y]))) else ∃ m',m' < m/\W (i+1) m' ys H3):=by
 refine⟨fun i m ys H'=>i≤ds.length/\m=ds.length - i/\H' D=some (.lst ys)/\aS H H'/\bG (P H') ys ((ds.take i).map f),⟨_,Nat.zero_le _,rfl,ag,ai hD _,.nil⟩,?_⟩
 rintro i m ys H1 ⟨hi,rfl,d1,s1,al1⟩
 have hS1:bo K H1 a xs:=ax.same s1 _ _ hS
 by_cases hix:i < ds.length
 ·have hx0:xs[i]?=some (xs[i]'(by omega)):=List.getElem?_eq_getElem _
  refine .inr ⟨⟨xs,_,hS1,hx0⟩,?_⟩
  rintro x H2 ⟨rfl,hy⟩
  have hx:=hy xs hS1
  obtain⟨d,hd⟩:∃ d,ds[i]?=some d:=⟨_,List.getElem?_eq_getElem hix⟩
  refine turn i x d _ hx hd s1 _ _ fun v H3 s3 p3=>?_
  have d3:H3 D=some (.lst ys):=s3 _ _ d1
  have tm:ax K H2 (upd H3 D (.lst (ys++[v]))):=(ax.same s3).trans (ax.up d3 _)
  refine⟨d3,aV (by rw [al1.len,List.length_map,List.length_take];omega),ds.length - (i+1),by omega,hix,rfl,ag,fun b o q=>?_,?_⟩
  ·rw [av (aA q hD)]
   exact s3 _ _ (s1 _ _ q)
  ·rw [List.take_add_one,hd,List.map_append]
   exact (al1.mono fun v d p=>mono _ _ _ _ tm p).snoc (mono _ _ _ _ (ax.up d3 _) p3)
 ·have e:i=ds.length:=by omega
  subst e
  rw [List.take_length] at al1
  exact .inl ⟨⟨xs,hS1,by omega⟩,fin H1 ys s1 d1 al1⟩
def GO:PyData->String
 | .none => "NoneType"
 | .bool _ => "bool"
 | .int _ => "int"
 | .str _ => "str"
 | .list _ => "list"
 | .tuple _ => "tuple"
 | .dict _ => "dict"
def C9 (K:PySem.W.Frag):List V->Hp->VK->Prop:=fun xs H Q=>∃ v d n b,xs=[v,.ty n]/\bW K H v d/\fG (GO d) n=some b/\Q (.bl b) H
theorem aW {X:Cx}:dj X (.builtin "isinstance") (C9 X.K):=by
 intro pins s σ H xs us Q I r h
 obtain⟨v,d,n,b,rfl,hD,e,q⟩:=h
 cases hD with
 | non=>exact eW pins s σ H _ us Q I r ⟨_,n,_,b,rfl,.non,e,q⟩
 | bl c=>exact eW pins s σ H _ us Q I r ⟨_,n,_,b,rfl,.bl c,e,q⟩
 | int i=>exact eW pins s σ H _ us Q I r ⟨_,n,_,b,rfl,.int i,e,q⟩
 | str x=>exact eW pins s σ H _ us Q I r ⟨_,n,_,b,rfl,.str x,e,q⟩
 | @tup a ys ds hS hA=>exact iy pins s σ H _ us Q I r ⟨a,ys,n,b,rfl,hS,e,q⟩
 | @lst a ys ds hS hA=>
  obtain⟨u,u2,rfl,rx,ry⟩:=j7 r
  obtain rfl:u2=Value.type n:=ry
  cases (show u=Value.ref a from rx)
  obtain⟨its,_,⟨o,k,h1,h2,_⟩,_⟩:=I.list hS
  exact PySem.W.kia_one PySem.W.kitx_list I.kIn ⟨o,h1,h2⟩ (oO e) (fun z=>nomatch z) fun tk=>⟨.bl b,H,I.tok tk,rfl,q⟩
def EG:PyData->Bool
 | .int _=>true
 | _=>false
def GQ (n:Nat):PyData->Bool
 | .tuple xs=>decide (xs.length=n)
 | _=>false
def C2:PyData->Bool
 | .tuple [.int a,.int b]=>decide (1≤b) && decide (Int.gcd a b=1)
 | _=>false
def Gg:PyData->Bool
 | .tuple [x,y]=>C2 x && C2 y
 | _=>false
structure Sh (k n:Nat) (d:PyData):Prop where
 sh:d.showable=true
 nd:d.hasDict=false
 dp:d.depth≤k
 sz:d.shown.length≤n
theorem Sh.mono {k n k' n':Nat} {d:PyData} (h:Sh k n d) (hk:k≤k') (hn:n≤n'):Sh k' n' d:=⟨h.sh,h.nd,Nat.le_trans h.dp hk,Nat.le_trans h.sz hn⟩
theorem Sh.all {k n:Nat}:∀ {ds:List PyData},(∀ d∈ds,Sh k n d)->PyData.showableAll ds=true/\PyData.hasDictAll ds=false/\PyData.depthAll ds≤k/\((PyData.shownAll ds).map (·.length)).sum≤n * ds.length/\(PyData.shownAll ds).length=ds.length
 | [],_=>⟨rfl,rfl,Nat.zero_le _,Nat.zero_le _,rfl⟩
 | d :: ds,h=>by
  obtain⟨a,b,c,e,f⟩:=Sh.all (ds:=ds) fun x hx=>h x (List.mem_cons_of_mem _ hx)
  have z:=h d List.mem_cons_self
  refine⟨?_,?_,?_,?_,?_⟩
  ·show (d.showable && PyData.showableAll ds)=true
   rw [z.sh,a];rfl
  ·show (d.hasDict || PyData.hasDictAll ds)=false
   rw [z.nd,b];rfl
  ·show max d.depth (PyData.depthAll ds)≤k
   exact Nat.max_le.mpr ⟨z.dp,c⟩
  ·show d.shown.length+((PyData.shownAll ds).map (·.length)).sum≤n * (ds.length+1)
   have:=z.sz
   rw [Nat.mul_succ];omega
  ·show (PyData.shownAll ds).length+1=ds.length+1
   rw [f]
theorem Sh.tup {k n m N:Nat} {ds:List PyData} (h:∀ d∈ds,Sh k n d) (hm:ds.length≤m) (hN:(n+3) * m+8≤N):Sh (k+1) N (.tuple ds):=by
 obtain⟨a,b,c,e,f⟩:=Sh.all h
 refine⟨a,b,Nat.succ_le_succ c,?_⟩
 show (tupleText (PyData.shownAll ds)).length≤N
 have q:=tupleText_len_le (PyData.shownAll ds)
 have l:n * ds.length+3 * ds.length≤(n+3) * m:=by
  rw [← Nat.add_mul]
  exact Nat.mul_le_mul_left _ hm
 omega
theorem Sh.shows {k n:Nat} {d:PyData} (h:Sh k n d) (hk:k≤16) (hn:n≤16777216):qw d:=⟨h.sh,h.nd,Nat.le_trans h.sz (Nat.le_trans hn (by decide)),Nat.le_trans h.dp hk⟩
theorem sZ {r:R} {n:Nat} (h:Wf n r) (hn:n≤1900):Sh 1 5000 (dR r):=⟨(mM h hn).sh,rfl,(by show max 0 (max 0 0)+1≤1;decide),(mM h hn).sz⟩
mutual
theorem bW.same {K:PySem.W.Frag} {H H':Hp} (s:aS H H'):∀ {v:V} {d:PyData},bW K H v d->bW K H' v d
 | _,_,.non=>.non
 | _,_,.bl b=>.bl b
 | _,_,.int i=>.int i
 | _,_,.str x=>.str x
 | _,_,.lst e t=>.lst (s.seq e) (bu.same s t)
 | _,_,.tup e t=>.tup (ax.same s _ _ e) (bu.same s t)
theorem bu.same {K:PySem.W.Frag} {H H':Hp} (s:aS H H'):∀ {vs:List V} {ds:List PyData},bu K H vs ds->bu K H' vs ds
 | _,_,.nil=>.nil
 | _,_,.cons h t=>.cons (bW.same s h) (bu.same s t)
end
end B
namespace B
open PySem PySem.Spec L2 PyProof.Rows
def Gb (K:PySem.W.Frag):R2:=fun x y H Q=>∃ a b xs ys,x=.ref a/\y=.ref b/\bo K H a xs/\bo K H b ys/\xs.length+ys.length≤sizeLine/\∀ p H',aS H H'->bo K H' p (xs++ys)->Q (.ref p) H'
def EU (K:PySem.W.Frag):V->Option Int->Option Int->Hp->VK->Prop:=fun x lo hi H Q=>∃ a xs,x=.ref a/\bo K H a xs/\∀ p H',aS H H'->bo K H' p (fy xs lo hi)->Q (.ref p) H'
theorem wS {X:Cx}:rZ X (EU X.K):=by
 intro pins s σ H x v vl vu lo hi sl Q I rx hs pl pu h
 obtain⟨a,xs,rfl,hx,q⟩:=h
 refine wT pins s σ H _ v vl vu lo hi sl Q I rx hs pl pu ?_
 by_cases c:HT.sIx xs.length 0 lo=0/\HT.sIx xs.length xs.length hi=xs.length
 ·refine .inl ⟨a,xs,rfl,hx,c.1,c.2,q a H (aS.refl H) ?_⟩
  have e:fy xs lo hi=xs:=by
   unfold fy
   rw [c.1,c.2,List.drop_zero,Nat.sub_zero,List.take_length]
  rw [e]
  exact hx
 ·exact .inr ⟨a,xs,rfl,hx,c,fun p hp=>q p _ (ai hp _) (bo.of ag)⟩
theorem lR {xs:List V} {n:Nat} (h:n≤xs.length):fy xs none (some (n:Int))=xs.take n:=by
 unfold fy
 rw [HT.sIx_nat,HT.sIx_none,Nat.min_eq_left h,Nat.sub_zero,List.drop_zero]
theorem v9 {xs:List V} {n:Nat} (h:n≤xs.length):fy xs (some (n:Int)) none=xs.drop n:=by
 unfold fy
 rw [HT.sIx_nat,HT.sIx_none,Nat.min_eq_left h]
 exact List.take_of_length_le (by rw [List.length_drop];omega)
def Cc (K:PySem.W.Frag) (s:Addr):Prop:=∃ ns:List Int,ns.length≤63/\∀ H:Hp,aR K H s (ns.map V.int)
structure bx (K:PySem.W.Frag) (H:Hp) (t s:Addr):Prop where
 ex:∃ (ns:List Int) (p q:Int),H t=some (.lst [.ref s,.int p,.int q])/\((Rd H s (.lst (ns.map V.int))/\s≠t)∨∀ H',aR K H' s (ns.map V.int))/\ns.length≤63/\0≤p/\0≤q
theorem wY {H H':Hp} {a:Addr} {u:HO} (h:Rd H a u) (z:aS H H'):Rd H' a u:=by
 rcases h with h | ⟨o,h⟩
 ·exact .inl (z _ _ h)
 ·exact .inr ⟨o,z _ _ h⟩
theorem lv {H:Hp} {a l:Addr} {u o:HO} (h:Rd H a u) (n:l≠a):Rd (upd H l o) a u:=by
 unfold Rd
 rw [av n.symm]
 exact h
theorem uq {H:Hp} {a l:Addr} {u:HO} (h:Rd H a u) (n:H l=none):l≠a:=fun e=>by
 subst e
 rcases h with h | ⟨o,h⟩
 ·rw [n] at h;cases h
 ·rw [n] at h;cases h
theorem bx.lst {K:PySem.W.Frag} {H:Hp} {t s:Addr} (h:bx K H t s):∃ xs,H t=some (.lst xs):=let ⟨_,_,_,e,_⟩:=h.ex;⟨_,e⟩
theorem bx.same {K:PySem.W.Frag} {H H':Hp} {t s:Addr} (h:bx K H t s) (z:aS H H'):bx K H' t s:=by
 obtain⟨ns,p,q,h1,h2,h3⟩:=h.ex
 refine⟨ns,p,q,z _ _ h1,?_,h3⟩
 rcases h2 with ⟨a,b⟩ | a
 ·exact .inl ⟨wY a z,b⟩
 ·exact .inr a
theorem bx.new {K:PySem.W.Frag} {H:Hp} {t s p:Addr} (h:bx K H t s) (n:H p=none) (o:HO):bx K (upd H p o) t s:=h.same (ai n o)
theorem bx.off {K:PySem.W.Frag} {H:Hp} {t s D:Addr} (h:bx K H t s) (n:H D=none):D≠s∨Cc K s:=by
 obtain⟨ns,p,q,_,h2,h3,_⟩:=h.ex
 rcases h2 with ⟨a,_⟩ | a
 ·exact .inl (uq a n)
 ·exact .inr ⟨ns,h3,a⟩
theorem bx.upl {K:PySem.W.Frag} {H:Hp} {t s l:Addr} (h:bx K H t s) (a:l≠t) (b:l≠s∨Cc K s) (o:HO):bx K (upd H l o) t s:=by
 obtain⟨ns,p,q,h1,h2,h3⟩:=h.ex
 rcases b with b | ⟨ms,m3,m⟩
 ·refine⟨ns,p,q,by rw [av a.symm];exact h1,?_,h3⟩
  rcases h2 with ⟨c,d⟩ | c
  ·exact .inl ⟨lv c b,d⟩
  ·exact .inr c
 ·exact⟨ms,p,q,by rw [av a.symm];exact h1,.inr m,m3,h3.2⟩
def sN (K:PySem.W.Frag):Sp:=fun vs H Q _=>∃ (a:Addr) (ns:List Int),vs=[.ref a]/\aR K H a (ns.map V.int)/\ns.length≤63/\∀ (t:Addr) (H':Hp),aS H H'->H t=none->bx K H' t a->Q (.ref t) H'
def sR (K:PySem.W.Frag):Sp:=fun vs H Q _=>∃ (t s:Addr) (m:Int),vs=[.ref t,.int m]/\bx K H t s/\0 < m/\m < 1073741824/\∀ (r:Int) (xs:List V),0≤r->r < m->bx K (upd H t (.lst xs)) t s->Q (.int r) (upd H t (.lst xs))
theorem bx.mk3 {K:PySem.W.Frag} {H:Hp} {t a:Addr} {ns:List Int} (hS:aR K H a (ns.map V.int)) (hl:ns.length≤63) (ht:H t=none):bx K (upd H t (.lst [.ref a,.int 0,.int 0])) t a:=by
 refine⟨ns,0,0,ag,?_,hl,Int.le_refl _,Int.le_refl _⟩
 rcases hS with h | h
 ·exact .inl ⟨lv h (uq h ht),(uq h ht).symm⟩
 ·exact .inr fun _=>.inr h
section
set_option autoImplicit true
set_option relaxedAutoImplicit true
end
theorem pY:∀ {ns:List Int} {us:List Value},aZ (ns.map V.int) us->IntsAre us ns
 | [],_,.nil=>.nil
 | n :: ns,_,.cons r t=>by
  obtain⟨tk,rfl⟩:=(show ∃ t,_=Value.int n t from r)
  exact .cons _ _ (pY t)
theorem rO {X:Cx} (hc:X.calm=true):dj X (.builtin "sum") (fun xs H Q=>∃ (p:Addr) (ns:List Int),xs=[.ref p]/\aR X.K H p (ns.map V.int)/\Q (.int ns.sum) H):=by
 intro pins s σ H xs us Q I r h
 obtain⟨p,ns,rfl,hq,q⟩:=h
 obtain⟨u,rfl,rx⟩:=fz r
 cases rx
 obtain⟨its,rv,pl,hz⟩:=I.list hq
 have hi:=pY rv
 obtain⟨zs,ez⟩:=hi.allInts.items
 have hl:=pl.isList
 rw [ez] at hl
 have en:numsOf its=ns:=hi.numsOf
 rw [show its=its.toArray.toList from rfl,ez,nums_intItems] at en
 refine sum_intListG (I.ok.hd hc) hl fun h' tk t' hk=>?_
 rw [preSum_eq,List.take_of_length_le (by simp),en]
 exact⟨.int ns.sum,H,I.kept (t':=tk) hk,⟨_,rfl⟩,q⟩
theorem nH:∀ {bs:List Bool} {us:List Value},aZ (bs.map V.bl) us->∀ {i:Nat} {v:Value},us[i]?=some v->v=.bool (bs.getD i true)
 | [],_,.nil,i,v,e=>by cases e
 | b :: bs,_,.cons r t,0,v,e=>by
  rw [List.getElem?_cons_zero] at e
  cases e
  exact (show _=Value.bool b from r)
 | b :: bs,_,.cons r t,i+1,v,e=>by
  rw [List.getElem?_cons_succ] at e
  exact nH t e
theorem kO:∀ (bs:List Bool),(List.range bs.length).all (fun i=>bs.getD i true)=bs.all id
 | []=>rfl
 | b :: bs=>by
  rw [List.length_cons,List.range_succ_eq_map,List.all_cons,List.all_map,List.all_cons]
  have:=kO bs
  show (b && (List.range bs.length).all (fun i=>bs.getD i true))=(id b && bs.all id)
  rw [this];rfl
theorem rR {X:Cx} (hc:X.calm=true):dj X (.builtin "all") (fun xs H Q=>∃ (p:Addr) (bs:List Bool),xs=[.ref p]/\aR X.K H p (bs.map V.bl)/\Q (.bl (bs.all id)) H):=by
 intro pins s σ H xs us Q I r h
 obtain⟨p,bs,rfl,hq,q⟩:=h
 obtain⟨u,rfl,rx⟩:=fz r
 cases rx
 obtain⟨its,rv,pl,hz⟩:=I.list hq
 have ne:p≠s.heap.objs.size:=by
  obtain⟨o,ho,_⟩:=pl.isList
  exact Nat.ne_of_lt (Heap.lt_size ho)
 have hlen:its.toArray.size=bs.length:=by rw [List.size_toArray,← rv.length,List.length_map]
 refine call_all_walk (wpAny_pyIter_list pl.isList ?_)
 refine⟨_,_,_,_,_,_,fun i=>bs.getD i true,rfl,Walks.list (A:=X.A.in1) (I.ok.hd hc) _ p ne its.toArray,⟨⟨_,Heap.get?_push_size _ rfl,rfl,rfl⟩,pl.isList.push _⟩,fun i v s' Q' E' hv hQ=>?_,fun h' tk hk=>?_⟩
 ·have e:=nH rv (i:=i) (v:=v) (by simpa using hv)
  subst e
  exact wpAny_truthy_bool hQ
 ·rw [hlen,kO]
  refine⟨.bl _,H,I.kept (t':=tk) fun b o e=>hk b o (fun z=>?_) (Heap.get?_push_of_some _ e),rfl,q⟩
  rw [List.mem_singleton.mp z] at e
  exact absurd (Heap.lt_size e) (Nat.lt_irrefl _)
section
variable {prog:Program} {w:World} {A:Around} {E:Value->Shared->Prop} {s:Shared}
end
def GM (n:Nat):List Int:=(List.range n).map fun i:Nat=>(i:Int)
def yW (ta:TA):TE:=fun σ H Q=>ta σ H fun vs H1=>∃ j:Int,vs=[.int j]/\∀ p,H1 p=none->Q (.ref p) (upd H1 p (.rng 0 j))
theorem xL {X:Cx} {a:Expr} {ta:TA} {p pos:Pos} (hg:Gl X "range") (hm:X.mg "range" = none) (ha:PA X [a] ta) (hs:starEach [a] X.env=[(false,eval a X.env)]:=by rfl) :
  PE X (.Call (.Name "range" p) [a] [] pos) (yW ta):=by
 intro pins s σ H Q I h
 refine Call_ (fF I hg hm boot_range (PyProof.Rows.callWith_type1 (bX (ha pos pins s σ H _ I h) fun us s1 ⟨vs,H1,I1,r1,q1⟩=>?_) hs rfl))
 obtain⟨j,e,q⟩:=q1
 subst e
 obtain⟨u,rfl,t,rfl⟩:=fz r1
 refine call_range_1 ?_
 exact⟨.ref s1.heap.objs.size,_,I1.laid (o:=.rng 0 j) (fun b o e=>Heap.get?_push_of_some _ e) (Nat.le_refl _) ⟨_,t,_,Heap.get?_push_size _ rfl⟩,rfl,q _ (I1.hok.fresh (Nat.le_refl _))⟩
def Im (hi:Int) (n:Nat):It:=⟨fun i _=>i < n,fun i H x H'=>H'=H/\x=.int (hi - i),fun i _=>n≤i⟩
def Gq (ta:TA):TI:=fun σ H R=>ta σ H fun vs H1=>∃ i j:Int,vs=[.int i,.int j,.int (-1)]/\(-1000≤i/\i≤1000/\-1000≤j/\j≤1000)/\R (Im i (i - j).toNat) H1
section
set_option autoImplicit true
set_option relaxedAutoImplicit true
theorem xc  {X:Cx} {a:Expr} {ta:TA} {p pos:Pos} (hg:Gl X "range") (hm:X.mg "range" = none) (ha:QA X [a] ta) (hs:starEach [a] X.env=[(false,eval a X.env)]:=by rfl):QE X (.Call (.Name "range" p) [a] [] pos) (yW ta):=⟨xL hg hm ha.p hs⟩
end
structure Fi (J:It) (H:Hp) (n:Nat) (P:Nat->V->Hp->Prop):Prop where
 go:∀ i H',i < n->aS H H'->J.go i H'
 stop:∀ H',aS H H'->J.stop n H'
 yld:∀ i H' x H'',i < n->aS H H'->J.yld i H' x H''->aS H' H''/\P i x H''
theorem wG {K:PySem.W.Frag} {H:Hp} {a:Addr} {xs:List V} (h:bo K H a xs):Fi (wD K a) H xs.length (fun i x _=>xs[i]?=some x) where
 go:=fun i H' hi s=>⟨xs,_,ax.same s _ _ h,List.getElem?_eq_getElem hi⟩
 stop:=fun H' s=>⟨xs,ax.same s _ _ h,Nat.le_refl _⟩
 yld:=fun i H' x H'' hi s y=>by obtain⟨rfl,hy⟩:=y;exact⟨aS.refl _,hy xs (ax.same s _ _ h)⟩
theorem wH {H:Hp} {lo:Int} {n:Nat}:Fi (wE lo n) H n (fun i x _=>x=.int (lo+i)) where
 go:=fun i H' hi s=>hi
 stop:=fun H' s=>Nat.le_refl _
 yld:=fun i H' x H'' hi s y=>by obtain⟨rfl,rfl⟩:=y;exact⟨aS.refl _,rfl⟩
theorem qk {J:It} {H:Hp} {D:Addr} {n:Nat} {P:Nat->V->Hp->Prop} (w:Fi J H n P) (c:Nat->Bool) (f:Nat->V) {src:List (Option Nat)} {σ:L2.St} {g:TG} {tt:TT} {te:TE} {Q:Hp->Prop} (hD:H D=none) (hn:n≤1000)
  (turn:∀ (i:Nat) (x:V) (H':Hp),i < n->aS H H'->P i x H'->∀ (R:VK) (E:Hp->Prop),(c i=true->∀ H'',aS H' H''->R (f i) H'')->(c i=false->∀ H'',aS H' H''->E H'')→
   g x (bQ src σ) H' fun σ2 H2=>hZ (bQ src σ) σ2/\tt σ2 H2 fun ok H3=>if ok=true then te σ2 H3 R else E H3)
  (fin:∀ H',aS H H'->H' D=some (.lst (((List.range n).filter c).map f))->Q H') :
  ∃ W:Nat->Nat->List V->Hp->Prop,(∃ m,W 0 m [] (upd H D (.lst [])))/\∀ i m ys H,W i m ys H->(J.stop i H/\Q H)∨(J.go i H/\∀ x H',J.yld i H x H'→
   g x (bQ src σ) H' fun σ2 H2=>hZ (bQ src σ) σ2/\tt σ2 H2 fun ok H3=>
    if ok=true then te σ2 H3 fun y H4=>H4 D=some (.lst ys)/\ys.length < sizeLine/\∃ m',m' < m/\W (i+1) m' (ys++[y]) (upd H4 D (.lst (ys++[y]))) else ∃ m',m' < m/\W (i+1) m' ys H3):=by
 refine⟨fun i m ys H'=>i≤n/\m=n - i/\ys=((List.range i).filter c).map f/\aS H H'/\H' D=some (.lst ys),⟨_,Nat.zero_le _,rfl,rfl,ai hD _,ag⟩,?_⟩
 rintro i m ys H1 ⟨hi,rfl,rfl,s1,d1⟩
 by_cases hix:i < n
 ·refine .inr ⟨w.go i H1 hix s1,fun x H2 y=>?_⟩
  obtain⟨s2,p⟩:=w.yld i H1 x H2 hix s1 y
  have d2:=s2 _ _ d1
  have len:(((List.range i).filter c).map f).length≤i:=by
   rw [List.length_map]
   exact Nat.le_trans (List.length_filter_le _ _) (by rw [List.length_range];exact Nat.le_refl _)
  refine turn i x H2 hix (s1.trans s2) p _ _ (fun hc H3 s3=>?_) fun hc H3 s3=>?_
  ·have d3:=s3 _ _ d2
   refine⟨d3,aV (by omega),n - (i+1),by omega,hix,rfl,?_,fun b o q=>?_,ag⟩
   ·rw [List.range_succ,List.filter_append,List.map_append]
    simp [hc]
   ·rw [av (aA q hD)]
    exact s3 _ _ (s2 _ _ (s1 _ _ q))
  ·refine⟨n - (i+1),by omega,hix,rfl,?_,(s1.trans s2).trans s3,s3 _ _ d2⟩
   rw [List.range_succ,List.filter_append,List.map_append]
   simp [hc]
 ·have e:i=n:=by omega
  subst e
  exact .inl ⟨w.stop H1 s1,fin H1 s1 d1⟩
theorem nG {α β:Type} (d:α) (p:α->Bool) (f:α->β):∀ l:List α,((List.range l.length).filter fun i=>p (l.getD i d)).map (fun i=>f (l.getD i d))=(l.filter p).map f
 | []=>rfl
 | x :: l=>by
  have ih:=nG d p f l
  rw [List.length_cons,List.range_succ_eq_map,List.filter_cons,List.filter_cons]
  have e:(((List.range l.length).map Nat.succ).filter fun i=>p ((x :: l).getD i d)).map (fun i=>f ((x :: l).getD i d))=(l.filter p).map f:=by
   rw [List.filter_map,List.map_map]
   exact ih
  show (if p x=true then _ else _:List Nat).map _=_
  cases hp:p x with
  | true=>
   simp only [if_true,List.map_cons]
   rw [e];rfl
  | false=>
   simp only [Bool.false_eq_true,if_false]
   exact e
theorem lT {α β:Type} (d:α) (f:α->β) (l:List α):((List.range l.length).filter fun _=>true).map (fun i=>f (l.getD i d))=l.map f:=by
 have:=nG d (fun _=>true) f l
 rw [this,List.filter_eq_self.mpr (by intros;rfl)]
theorem lL {α:Type} {l:List α} {i:Nat} {x:α} (d:α) (h:l[i]?=some x):l.getD i d=x:=by rw [List.getD_eq_getElem?_getD,h];rfl
section
variable {prog:Program} {w:World} {A:Around} {E:Value->Shared->Prop} {s:Shared}
theorem uo {l:Addr} {items:Array Value} {k:Nat} {x:Int} {u:Tok} {Q:Value->Shared->Prop} (hl:s.heap.get? l=some { cls:=.type "list", dict:=none,data:=.seq items k,slots:=#[] })
  (hlo:-(2 ^ 63:Int)≤x) (hhi:x < 2 ^ 63) (hsz:items.size * x.toNat≤2 ^ 24)
  (h:Q (.ref s.heap.objs.size) { s with heap:=s.heap.push { cls:=.type "list", data:=.seq (List.foldl (fun x1 x2=>x1++x2) #[] (List.replicate (if items.isEmpty=true then 0 else x.toNat) items)) } }) :
  wpAny (model prog w) A (binaryOp .Mult (.ref l) (.int x u)) Q E s:=
 wpAny_binaryOp_repeat_ref (T := "list") (U := "int") (by decide) ⟨_,hl,rfl⟩ (fun s'=>typeIs_int s' x u) noFill_list_mul F.fills_int_mul F.slot_int_rmul repeat_list F.slot_int_index.lookup
  (call_meets F.slot_int_rmul (typeIs_int s x u) F.entry_int_rmul (F.args_int_rmul_2 _ _) (int___rmul___int_list x u l items k)
   ⟨hl,rfl,⟨_,hl,rfl⟩,call_meets F.slot_list_mul ⟨_,hl,rfl⟩ F.entry_list_mul (F.args_list_mul_2 _ _)
    (AutoListH.list___mul___list_int_3 l items k x u (by simp [Builtin.List.listFitsIndex];omega) (by omega) (by simp [Builtin.List.listTooLong,sizeLine];omega))
    ⟨hl,h⟩⟩)
end
theorem ni (u:Value):∀ (n:Nat) (acc:Array Value),(List.foldl (fun x1 x2=>x1++x2) acc (List.replicate n #[u])).toList=acc.toList++List.replicate n u
 | 0,acc=>by simp
 | n+1,acc=>by
  rw [List.replicate_succ,List.foldl_cons,ni u n,List.replicate_succ]
  simp
theorem md {v:V} {u:Value} (r:aY v u):∀ n:Nat,aZ (List.replicate n v) (List.replicate n u)
 | 0=>.nil
 | n+1=>.cons r (md r n)
theorem pP {X:Cx}:gB X (binaryOp .Mult) (fun x y H Q=>∃ (p:Addr) (v:V) (n:Nat),x=.ref p/\y=.int n/\H p=some (.lst [v])/\n≤1000/\∀ l,H l=none->Q (.ref l) (upd H l (.lst (List.replicate n v)))):=by
 intro pins s σ H x y xv yv Q I rx ry h
 obtain⟨p,v,n,rfl,rfl,hp,hn,q⟩:=h
 cases (show xv=Value.ref p from rx)
 obtain⟨t,rfl⟩:=(show ∃ t,yv=Value.int n t from ry)
 obtain⟨_,its,c,rv,e⟩:=(show ObjOk X.prog X.w H s.heap p (.lst [v]) from I.hok p _ hp)
 cases rv with
 | @cons _ u _ _ r0 rr=>
 cases rr
 refine uo e (by omega) (by omega) (by simp;omega) ?_
 have el:(List.foldl (fun x1 x2=>x1++x2) #[] (List.replicate (if ([u]:List Value).toArray.isEmpty=true then 0 else (n:Int).toNat) [u].toArray))=(List.replicate n u).toArray:=by
  apply Array.ext'
  have:=ni u n #[]
  simpa using this
 rw [el]
 have I2:Inv X pins σ (upd H s.heap.objs.size (.lst (List.replicate n v))) { s with heap:=s.heap.push { cls:=.type "list", data:=.seq (List.replicate n u).toArray } }:=
  I.laid (t':=s.toks) (fun b o e=>Heap.get?_push_of_some _ e) (Nat.le_refl _) (show ObjOk X.prog X.w _ _ _ (.lst (List.replicate n v)) from ⟨by rw [List.length_replicate,sizeLine_eq];omega,List.replicate n u,_,md r0 n,Heap.get?_push_size _ rfl⟩)
 exact⟨.ref s.heap.objs.size,_,I2,rfl,q _ (I.hok.fresh (Nat.le_refl _))⟩
theorem BO {h:Heap} {x y:Value} {d e:PyData} {as bs:List Addr} (rx:Reads h x d as) (ry:Reads h y e bs) (cd:d.canLay0=true) (ce:e.canLay0=true) (dp:e.depth≤32) (rf:PyData.eqv d d=true):jE h x d y=PyData.eqv e d:=by
 unfold jE
 by_cases q:y=x
 ·subst q
  rw [if_pos rfl,SeqAt.Reads.unique _ _ _ _ _ ce ry rx,rf]
 ·have z:∃ d',d'.canLay0=true/\d'.depth≤32/\∃ as,Reads h y d' as:=⟨e,ce,dp,bs,ry⟩
  rw [if_neg q,dif_pos z]
  obtain⟨c,_,cs,r⟩:=z.choose_spec
  rw [SeqAt.Reads.unique _ _ _ _ _ ce ry r]
def o9 (ds:List PyData):Prop:=∀ e∈ds,e.canLay0=true/\e.depth≤32
theorem m8 {X:Cx} {pins:List (Addr×Obj)} {σ:L2.St} {H:Hp} {s:Shared} (I:Inv X pins σ H s) {v:Value} {d:PyData} {as:List Addr} (rx:Reads s.heap v d as) (cd:d.canLay0=true) (rf:PyData.eqv d d=true) :
  ∀ {xs:List V} {us:List Value} {ds:List PyData},aZ xs us->bu X.K H xs ds->o9 ds->us.map (jE s.heap v d)=ds.map fun e=>PyData.eqv e d
 | _,_,_,.nil,.nil,_=>rfl
 | _,_,_,.cons r t,.cons h k,l=>by
  obtain⟨bs,ry⟩:=bW.reads I h r
  obtain⟨ce,dp⟩:=l _ List.mem_cons_self
  rw [List.map_cons,List.map_cons,BO rx ry cd ce dp rf,m8 I rx cd rf t k fun e he=>l e (List.mem_cons_of_mem _ he)]
theorem bu.known {K:PySem.W.Frag} {H:Hp}:∀ {xs:List V} {ds:List PyData},bu K H xs ds->o9 ds->qx K H xs
 | _,_,.nil,_,x,hx=>by cases hx
 | _,_,.cons h t,l,x,hx=>by
  rcases List.mem_cons.mp hx with rfl | hx
  ·obtain⟨a,b⟩:=l _ List.mem_cons_self
   exact⟨_,h,a,b⟩
  ·exact bu.known t (fun e he=>l e (List.mem_cons_of_mem _ he)) x hx
def Hq (K:PySem.W.Frag):R2:=fun x y H Q=>∃ p xs ds d,y=.ref p/\aR K H p xs/\bu K H xs ds/\o9 ds/\bW K H x d/\d.canLay0=true/\PyData.eqv d d=true/\Q (.bl (ds.any fun e=>PyData.eqv e d)) H
def wZ (K:PySem.W.Frag):R2:=fun x y H Q=>∃ p xs ds d,y=.ref p/\aR K H p xs/\bu K H xs ds/\o9 ds/\bW K H x d/\d.canLay0=true/\PyData.eqv d d=true/\Q (.bl (!ds.any fun e=>PyData.eqv e d)) H
theorem jO {α β:Type} {f:α->Bool} {g:β->Bool}:∀ {l:List α} {m:List β},l.map f=m.map g->l.any f=m.any g
 | [],[],_=>rfl
 | [],_ :: _,h=>by simp at h
 | _ :: _,[],h=>by simp at h
 | a :: l,b :: m,h=>by
  rw [List.map_cons,List.map_cons] at h
  injection h with h1 h2
  rw [List.any_cons,List.any_cons,h1,jO h2]
theorem qX {X:Cx} {k:Nat} (hr:cu k X.A):gB X (compareOp .NotIn) (wZ X.K):=by
 intro pins s σ H x y v u Q I rx ry h
 obtain⟨p,xs,ds,d,rfl,hq,hd,ls,hx,cd,rf,q⟩:=h
 cases ry
 obtain⟨its,r,pl,hz⟩:=I.list hq
 obtain⟨as,ra⟩:=bW.reads I hx rx
 refine SeqAt.notIn_listAt (jE s.heap v d) pl.isList (fun w hw=>vN ra cd (by show X.A.units+1+32 < cLine;have:=hr.units;omega) (iF I r (hd.known ls) w (by simpa using hw))) ⟨_,H,I,?_,q⟩
 show Value.bool (!its.toArray.any (jE s.heap v d))=Value.bool (!ds.any fun e=>PyData.eqv e d)
 rw [List.any_toArray,jO (m8 I ra cd rf r hd ls)]
def F8 (K:PySem.W.Frag):R2:=fun x y H Q=>∃ p xs ds d,y=.ref p/\bo K H p xs/\bu K H xs ds/\o9 ds/\bW K H x d/\d.canLay0=true/\PyData.eqv d d=true/\Q (.bl (ds.any fun e=>PyData.eqv e d)) H
def Eo (K:PySem.W.Frag):V->List V->Hp->VK->Prop:=fun x vs H Q=>∃ p xs ds w d,x=.ref p/\vs=[w]/\aR K H p xs/\bu K H xs ds/\o9 ds/\bW K H w d/\d.canLay0=true/\PyData.eqv d d=true/\(∃ e∈ds,PyData.eqv e d=true)∧
 ∀ (j:Nat) (e:PyData),ds[j]?=some e->PyData.eqv e d=true->(∀ m f,m < j->ds[m]?=some f->PyData.eqv f d=false)->Q (.int j) H
theorem yt {j:Nat} (h:j≤16777216):Builtin.List.listFitsIndex (j:Int)=true:=by
 unfold Builtin.List.listFitsIndex
 have e:(2:Int) ^ 63=9223372036854775808:=by decide
 rw [e,Bool.and_eq_true,decide_eq_true_iff,decide_eq_true_iff]
 omega
theorem rC (l:Addr) (its:Array Value) (n:Nat) (x:Int) (tk:Tok) (u2:Value) (hc:Builtin.List.listFitsIndex x=true) (hsz:its.size≤sizeLine) :
  Meets (Builtin.«list.insert» ⟨[.ref l,.int x tk,u2],[]⟩) (fun _ R s=>s.heap.get? l=some { cls:=.type "list", dict:=none,data:=.seq its n,slots:=#[] }/\R (.ok (.ret Value.none)) { s with heap:=s.heap.update l (Obj.mapSeq fun xs=>have k:=if x < 0 then (x+((xs.size:Nat):Int)).toNat else min x.toNat xs.size;(xs.extract 0 k).push u2++xs.extract k),toks:=s.toks }):=by
 apply AutoListH.list_insert_list_int_val_1
 ·rw [hc];simp
 ·exact hsz
def w4:V->List V->Hp->VK->Prop:=fun x vs H Q=>∃ (l:Addr) (xs:List V) (j:Nat) (y:V),x=.ref l/\vs=[.int j,y]/\H l=some (.lst xs)/\j≤xs.length/\xs.length < sizeLine/\Q .non (upd H l (.lst (xs.take j++y :: xs.drop j)))
theorem kx {X:Cx}:GG X "list.insert" w4:=by
 intro pins s σ H x vs v us Q I rx rv h
 obtain⟨l,xs,j,y,rfl,rfl,hH,hj,hz,q⟩:=h
 cases rx
 obtain⟨u,u2,rfl,ru,ru2⟩:=j7 rv
 obtain⟨tk,rfl⟩:=(show ∃ t,u=Value.int j t from ru)
 obtain⟨z,its,n,r,hl,e⟩:=I.lstM hH
 have hlen:=r.length
 have sl:sizeLine=16777216:=by decide
 have hsz:its.toArray.size≤sizeLine:=by rw [List.size_toArray];omega
 have hfi:Builtin.List.listFitsIndex (j:Int)=true:=yt (show j≤16777216 by omega)
 generalize hx:(j:Int)=x at hfi
 have M:=rC l its.toArray n x tk u2 hfi hsz
 refine call_meets PySem.F.slot_list_insert ⟨_,e,rfl⟩ PySem.F.entry_list_insert (PySem.F.args_list_insert_3 _ _ _) M ⟨e,?_⟩
 have hv:aZ (xs.take j++y :: xs.drop j) (its.take j++u2 :: its.drop j):=(r.take j).append (.cons ru2 (r.drop j))
 refine⟨.non,_,I.lset (its':=its.take j++u2 :: its.drop j) hH e ?_ hv ?_,rfl,q⟩
 ·subst hx
  have e1:¬ ((j:Int) < 0):=by omega
  have e2:min j its.length=j:=by omega
  simp [e1,e2,List.take_of_length_le]
 ·rw [List.length_append,List.length_cons,List.length_take,List.length_drop]
  omega
mutual
def Go:PyData->Bool
 | .int i=>decide (i.natAbs < 2 ^ 230)
 | .tuple ds=>oR ds
 | .list ds=>oR ds
 | .dict _=>false
 | _=>true
def oR:List PyData->Bool
 | []=>true
 | d :: ds=>Go d && oR ds
end
structure Gd (k n:Nat) (d:PyData):Prop where
 sh:Sh k n d
 lay:d.canLay0=true
 bd:Go d=true
def DR:PyData->R
 | .tuple [.int a,.int b]=>(a,b)
 | _=>(0,1)
def Ff:PyData->R×R
 | .tuple [x,y]=>(DR x,DR y)
 | _=>fb
end B
namespace B
open PySem PySem.Spec L2 PyProof.Rows
theorem nC {J:It} {H:Hp} {D:Addr} {n:Nat} (Pv:Nat->List V->Hp->Prop) {src:List (Option Nat)} {σ:L2.St} {g:TG} {tt:TT} {te:TE} {Q:Hp->Prop} (h0:Pv 0 [] (upd H D (.lst [])))
  (go:∀ i ys H',i < n->Pv i ys H'->J.go i H') (stop:∀ ys H',Pv n ys H'->J.stop n H'/\Q H')
  (turn:∀ i ys H' x H'',i < n->Pv i ys H'->J.yld i H' x H''->∀ (R:VK) (E:Hp->Prop),(∀ y H4,H4 D=some (.lst ys)->ys.length < sizeLine->Pv (i+1) (ys++[y]) (upd H4 D (.lst (ys++[y])))->R y H4)->(∀ H3,Pv (i+1) ys H3->E H3)→
   g x (bQ src σ) H'' fun σ2 H2=>hZ (bQ src σ) σ2/\tt σ2 H2 fun ok H3=>if ok=true then te σ2 H3 R else E H3) :
  ∃ W:Nat->Nat->List V->Hp->Prop,(∃ m,W 0 m [] (upd H D (.lst [])))/\∀ i m ys H,W i m ys H->(J.stop i H/\Q H)∨(J.go i H/\∀ x H',J.yld i H x H'→
   g x (bQ src σ) H' fun σ2 H2=>hZ (bQ src σ) σ2/\tt σ2 H2 fun ok H3=>
    if ok=true then te σ2 H3 fun y H4=>H4 D=some (.lst ys)/\ys.length < sizeLine/\∃ m',m' < m/\W (i+1) m' (ys++[y]) (upd H4 D (.lst (ys++[y]))) else ∃ m',m' < m/\W (i+1) m' ys H3):=by
 refine⟨fun i m ys H'=>i≤n/\m=n - i/\Pv i ys H',⟨_,Nat.zero_le _,rfl,h0⟩,?_⟩
 rintro i m ys H1 ⟨hi,rfl,p⟩
 by_cases hix:i < n
 ·refine .inr ⟨go i ys H1 hix p,fun x H2 y=>?_⟩
  refine turn i ys H1 x H2 hix p y _ _ (fun y H4 a b c=>⟨a,b,n - (i+1),by omega,hix,rfl,c⟩) fun H3 c=>⟨n - (i+1),by omega,hix,rfl,c⟩
 ·have e:i=n:=by omega
  subst e
  exact .inl (stop ys H1 p)
def EO (t:TS):TS:=fun D σ H=>∃ M:L2.St->Hp->Prop,t { D with nx:=M } σ H/\∀ σ' H',M σ' H'->D.nx σ' H'
theorem oo {X:Cx} {st:Stmt} {t:TS} (h:QS X st t):QS X st (EO t):=⟨by
 intro pins s σ H D I q
 obtain⟨M,q,k⟩:=q
 refine bX (h.p pins s σ H _ I q) fun f s' z=>?_
 cases f with
 | next=>obtain⟨σ',H',I',m⟩:=z;exact⟨σ',H',I',k _ _ m⟩
 | brk=>exact z
 | cont=>exact z
 | ret u=>exact z⟩
end B
namespace B
abbrev Ln:=Nat×Nat
inductive yN (es:List Ln):Nat->Nat->Prop where
 | one {a b:Nat} (h:(a,b)∈es):yN es a b
 | step {a b c:Nat} (h:(a,b)∈es) (t:yN es b c):yN es a c
def Ir (n:Nat) (es:List Ln):Prop:=∀ e∈es,e.1 < n/\e.2 < n
def IW (n:Nat) (es:List Ln) (L:Nat->Nat->Bool):Prop:=∀ i j,i < n->j < n->(L i j=true↔yN es j i)
def HR (L:Nat->Nat->Bool) (a b:Nat):Nat->Nat->Bool:=fun i j=>L i j || ((decide (i=b) || L i b) && (decide (j=a) || L a j))
structure Rx (n:Nat) (es:List Ln) (v:Nat->Int) (ps:Nat->Nat) (r k:Nat) (F:Nat->Int):Prop where
 bas:∀ i,i < n->v i≤F i
 att:∀ i,i < n->∃ j,j < n/\(j=i∨yN es j i)/\F i=v j
 don:∀ i,i < n->ps i < r->∀ j,j < n->(j=i∨yN es j i)->v j≤F i
 cur:∀ m a b,m < k->es[m]?=some (a,b)->ps b≤r->∀ j,j < n->(j=a∨yN es j a)->v j≤F b
def Hg (F:Nat->Int) (a b:Nat):Nat->Int:=fun i=>if i=b then max (F b) (F a) else F i
structure IS (n:Nat) (es:List Ln) (v:Nat->Int) (F:Nat->Int):Prop where
 up:∀ i j,i < n->j < n->(j=i∨yN es j i)->v j≤F i
 att:∀ i,i < n->∃ j,j < n/\(j=i∨yN es j i)/\F i=v j
def ID (es:List Ln):List Ln:=es.map fun e=>(e.2,e.1)
end B
namespace B
open PySem PySem.Spec L2 PyProof.Rows
def Ed (r r' r'':R2) (ta tb tc td:TE):TE:=fun σ H Q=>ta σ H fun x H1=>tb σ H1 fun y H2=>r x y H2 fun z H3=>∃ k,z=.bl k∧
 (if k=true then tc σ H3 fun w' H4=>r' y w' H4 fun z' H5=>∃ k',z'=.bl k'/\(if k'=true then td σ H5 fun u' H6=>r'' w' u' H6 Q else Q (.bl false) H5) else Q (.bl false) H3)
theorem BX {t p:Addr} {H:Hp} {o:HO} (g:H p=none) (h:∃ xs,H t=some (.lst xs)):jU (upd H p o) t p=some o:=by
 have n:p≠t:=fun z=>by subst z;obtain⟨xs,e⟩:=h;rw [g] at e;cases e
 unfold jU
 rw [if_neg n,ag]
theorem qj {xs:List V} {n:Nat}:fy xs none (some (n:Int))=xs.take n:=by
 by_cases h:n≤xs.length
 ·exact lR h
 ·unfold fy
  rw [HT.sIx_nat,HT.sIx_none,Nat.sub_zero,List.drop_zero,Nat.min_eq_right (by omega),List.take_of_length_le (Nat.le_refl _),List.take_of_length_le (by omega)]
section
variable {prog:Program} {w:World} {A:Around} {E:Value->Shared->Prop} {s:Shared}
end
def GT (K:PySem.W.Frag) (te:TE):TE:=fun σ H Q=>te σ H fun x H1=>∃ a xs,x=.ref a/\bo K H1 a xs/\∀ p,H1 p=none->Q (.ref p) (upd H1 p (.tup xs.reverse))
end B
namespace B
theorem nF {b:Int} (h:0 < b):(0:Rat) < (b:Rat):=by
 have:=Rat.intCast_lt_intCast.mpr h
 exact this
theorem fA {r q:R} (hr:0 < r.2) (hq:0 < q.2):aD r q=true↔val r < val q:=by
 rw [dF,← Rat.intCast_lt_intCast,Rat.intCast_mul,Rat.intCast_mul]
 have h1:=nF hr
 have h2:=nF hq
 have e1:(r.1:Rat)=val r * (r.2:Rat):=by
  have:=bV hr
  unfold val
  generalize (r.1:Rat)=x at *
  generalize (r.2:Rat)=y at *
  grind
 have e2:(q.1:Rat)=val q * (q.2:Rat):=by
  have:=bV hq
  unfold val
  generalize (q.1:Rat)=x at *
  generalize (q.2:Rat)=y at *
  grind
 rw [e1,e2]
 generalize val r=x at *
 generalize val q=y at *
 generalize (r.2:Rat)=u at *
 generalize (q.2:Rat)=v at *
 have c:0 < u * v:=Rat.mul_pos h1 h2
 constructor
 ·intro h
  have h':x * (u * v) < y * (u * v):=by grind
  by_cases w:x < y
  ·exact w
  ·have z:y≤x:=Rat.not_lt.mp w
   have:=Rat.mul_le_mul_of_nonneg_right z (Rat.le_of_lt c)
   grind
 ·intro h
  have:=Rat.mul_lt_mul_of_pos_right h c
  grind
theorem dP {r q:R} (hr:0 < r.2) (hq:0 < q.2):aD r q=false↔val q≤val r:=by
 have a:=fA hr hq
 cases c:aD r q with
 | true=>
  have:=a.mp c
  constructor
  ·intro z;cases z
  ·intro z;grind
 | false=>
  constructor
  ·intro _
   by_cases w:val r < val q
   ·rw [a.mpr w] at c;cases c
   ·exact Rat.not_lt.mp w
  ·intro _;rfl
end B
namespace B
open PySem PySem.Spec L2 PyProof.Rows
theorem ix {α:Type} {K:PySem.W.Frag} {H:Hp} {D a:Addr} {xs:List V} {ds:List α} {P:Hp->V->α->Prop} {p:α->Bool} {src:List (Option Nat)} {σ:L2.St} {g:TG} {tt:TT} {te:TE} {Q:Hp->Prop}
  (mono:∀ H H' v d,ax K H H'->P H v d->P H' v d) (hD:H D=none) (hS:aR K H a xs) (als:bG (P H) xs ds) (hn:ds.length≤1000)
  (turn:∀ (i:Nat) (x:V) (d:α) (H':Hp),xs[i]?=some x->ds[i]?=some d->aS H H'->P H' x d->∀ (R:VK) (E:Hp->Prop),(∀ H'',aS H' H''->p d=true->R x H'')->(∀ H'',aS H' H''->p d=false->E H'')→
   g x (bQ src σ) H' fun σ2 H2=>hZ (bQ src σ) σ2/\tt σ2 H2 fun ok H3=>if ok=true then te σ2 H3 R else E H3)
  (fin:∀ H' ys,aS H H'->H' D=some (.lst ys)->bG (P H') ys (ds.filter p)->Q H') :
  ∃ W:Nat->Nat->List V->Hp->Prop,(∃ m,W 0 m [] (upd H D (.lst [])))/\∀ i m ys H,W i m ys H->((sd K a).stop i H/\Q H)∨((sd K a).go i H/\∀ x H',(sd K a).yld i H x H'→
   g x (bQ src σ) H' fun σ2 H2=>hZ (bQ src σ) σ2/\tt σ2 H2 fun ok H3=>
    if ok=true then te σ2 H3 fun y H4=>H4 D=some (.lst ys)/\ys.length < sizeLine/\∃ m',m' < m/\W (i+1) m' (ys++[y]) (upd H4 D (.lst (ys++[y]))) else ∃ m',m' < m/\W (i+1) m' ys H3):=by
 refine⟨fun i m ys H'=>i≤ds.length/\m=ds.length - i/\H' D=some (.lst ys)/\aS H H'/\bG (P H') ys ((ds.take i).filter p),⟨_,Nat.zero_le _,rfl,ag,ai hD _,.nil⟩,?_⟩
 rintro i m ys H1 ⟨hi,rfl,d1,s1,al1⟩
 have hS1:aR K H1 a xs:=s1.seq hS
 by_cases hix:i < ds.length
 ·have hx0:xs[i]?=some (xs[i]'(by rw [als.len];exact hix)):=List.getElem?_eq_getElem _
  refine .inr ⟨⟨xs,_,hS1,hx0⟩,?_⟩
  rintro x H2 ⟨rfl,hy⟩
  have hx:=hy xs hS1
  obtain⟨d,hd,pd⟩:=als.at hx
  have tk:ds.take (i+1)=ds.take i++[d]:=by rw [List.take_add_one,hd];rfl
  refine turn i x d _ hx hd s1 (mono _ _ _ _ (ax.same s1) pd) _ _ (fun H3 s3 o3=>?_) fun H3 s3 n3=>?_
  ·have d3:H3 D=some (.lst ys):=s3 _ _ d1
   have tm:ax K H2 (upd H3 D (.lst (ys++[x]))):=(ax.same s3).trans (ax.up d3 _)
   have ly:ys.length≤1000:=by
    rw [al1.len]
    exact Nat.le_trans (List.length_filter_le _ _) (by rw [List.length_take];omega)
   refine⟨d3,aV ly,ds.length - (i+1),by omega,hix,rfl,ag,fun b o q=>?_,?_⟩
   ·rw [av (aA q hD)]
    exact s3 _ _ (s1 _ _ q)
   ·rw [tk,List.filter_append,List.filter_cons_of_pos o3,List.filter_nil]
    exact (al1.mono fun v d p=>mono _ _ _ _ tm p).snoc (mono _ _ _ _ ((ax.same s1).trans tm) pd)
  ·refine⟨ds.length - (i+1),by omega,hix,rfl,s3 _ _ d1,s1.trans s3,?_⟩
   rw [tk,List.filter_append,List.filter_cons_of_neg (by rw [n3];decide),List.filter_nil,List.append_nil]
   exact al1.mono fun v d p=>mono _ _ _ _ (ax.same s3) p
 ·have e:i=ds.length:=by omega
  subst e
  rw [List.take_length] at al1
  exact .inl ⟨⟨xs,hS1,by rw [als.len];exact Nat.le_refl _⟩,fin H1 ys s1 d1 al1⟩
def Cs (zs:List R):Prop:=zs.Pairwise fun a b=>aD a b=true
theorem AE {zs:List R} {s:R} (hz:∀ z∈zs,cF z) (hs:cF s) (pw:Cs zs) {j:Nat} {z:R} (e:zs[j]?=some z):aD z s=decide (j < (zs.filter (aD · s)).length):=by
 have inc:EA (zs.map fun z=>(z,z)):=List.pairwise_map.mpr pw
 have al:yR (zs.map fun z=>(z,z)):=fun r hr=>by
  obtain⟨z,hm,rfl⟩:=List.mem_map.mp hr
  exact (hz z hm).pos
 have e':(zs.map fun z=>(z,z))[j]?=some (z,z):=by rw [List.getElem?_map,e];rfl
 have c:=kH hs.pos inc al e'
 have n:dN (zs.map fun z=>(z,z)) s=(zs.filter (aD · s)).length:=by
  unfold dN
  rw [List.countP_map,List.countP_eq_length_filter]
  rfl
 rw [n] at c
 exact c
theorem yf {z s:R} (hz:cF z) (hs:cF s) (n:aD z s=false) (ne:z≠s):aD s z=true:=by
 have le:=(dP hz.pos hs.pos).mp n
 refine (fA hs.pos hz.pos).mpr ?_
 have nv:val z≠val s:=fun q=>ne (dC hz hs q)
 grind
theorem wX {zs:List R} {s:R} (hz:∀ z∈zs,cF z) (hs:cF s) (pw:Cs zs) (no:¬ s∈zs):Cs (zs.take (zs.filter (aD · s)).length++s :: zs.drop (zs.filter (aD · s)).length):=by
 have at_:=fun j z=>AE (j:=j) (z:=z) hz hs pw
 generalize (zs.filter (aD · s)).length=n at at_
 have lo:∀ a∈zs.take n,aD a s=true:=fun a ha=>by
  obtain⟨j,hj⟩:=List.getElem?_of_mem ha
  rw [List.getElem?_take] at hj
  split at hj
  ·rename_i c
   rw [at_ j a hj,decide_eq_true c]
  ·cases hj
 have hi:∀ a∈zs.drop n,aD s a=true:=fun a ha=>by
  have ma:=List.mem_of_mem_drop ha
  obtain⟨j,hj⟩:=List.getElem?_of_mem ha
  rw [List.getElem?_drop] at hj
  have c:=at_ (n+j) a hj
  rw [decide_eq_false (by omega)] at c
  exact yf (hz a ma) hs c fun q=>no (by rw [← q];exact ma)
 have both:(zs.take n++zs.drop n).Pairwise fun a b=>aD a b=true:=by rw [List.take_append_drop];exact pw
 obtain⟨p1,p2,p3⟩:=List.pairwise_append.mp both
 refine List.pairwise_append.mpr ⟨p1,List.pairwise_cons.mpr ⟨hi,p2⟩,fun a ha b hb=>?_⟩
 rcases List.mem_cons.mp hb with rfl | hb
 ·exact lo a ha
 ·exact p3 a ha b hb
theorem B5 {zs:List R} {s:R}:((zs.map dR).any fun e=>PyData.eqv e (dR s))=decide (s∈zs):=by
 rw [List.any_map]
 by_cases c:s∈zs
 ·rw [decide_eq_true c,List.any_eq_true]
  exact⟨s,c,gW s⟩
 ·rw [decide_eq_false c,List.any_eq_false]
  intro z hz
  show ¬ PyData.eqv (dR z) (dR s)=true
  rw [qc,decide_eq_true_iff]
  intro q
  exact c (by rw [← q];exact hz)
theorem yh (zs:List R):o9 (zs.map dR):=fun e he=>by
 obtain⟨z,_,rfl⟩:=List.mem_map.mp he
 exact⟨iu z,nw z⟩
theorem bG.take {α:Type} {P:V->α->Prop}:∀ {xs:List V} {ds:List α} (n:Nat),bG P xs ds->bG P (xs.take n) (ds.take n)
 | _,_,0,_=>by rw [List.take_zero,List.take_zero];exact .nil
 | _,_,_+1,.nil=>.nil
 | _,_,n+1,.cons h t=>.cons h (bG.take n t)
theorem bG.drop {α:Type} {P:V->α->Prop}:∀ {xs:List V} {ds:List α} (n:Nat),bG P xs ds->bG P (xs.drop n) (ds.drop n)
 | _,_,0,h=>h
 | _,_,_+1,.nil=>.nil
 | _,_,n+1,.cons _ t=>bG.drop n t
theorem bG.join {α:Type} {P:V->α->Prop}:∀ {xs ys:List V} {ds es:List α},bG P xs ds->bG P ys es->bG P (xs++ys) (ds++es)
 | _,_,_,_,.nil,k=>k
 | _,_,_,_,.cons h t,k=>.cons h (bG.join t k)
end B
namespace L2
open PySem PySem.Spec PyProof.Rows
structure fw (k:Nat) (A:Around):Prop where
 dp:A.depth+3 * k+5 < recursionLimit
 un:A.units+16 * k+200 < cLine
 gd:A.guards=some []
theorem fw.depth {k:Nat} {A:Around} (r:fw k A):A.depth < recursionLimit:=by have:=r.dp;omega
theorem fw.deeper {k:Nat} {A:Around} (r:fw (k+1) A) (env:Env):fw k (A.deeper env):=
 ⟨by have:=r.dp;show A.depth+1+3 * k+5 < _;omega,by have:=r.un;show A.units+3+16 * k+200 < _;omega,r.gd⟩
theorem cu.inM {j k:Nat} {A:Around} {v:Option Value} (r:cu k A) (h:j≤k):fw j (A.mark v):=
 ⟨by have:=r.dp;show A.depth+3 * j+5 < _;omega,by have:=r.un;show A.units+16 * j+200 < _;omega,r.gd⟩
structure kP (P:Program) (w:World) (K:PySem.W.Frag) (mg:Str->Option Value) (base:Heap) (CX:l5) (k:Nat) (f:Addr) (fd:FuncData) (ps:List Str) (sp:Sp):Prop where
 len:∀ vs H Q E,sp vs H Q E->vs.length=ps.length
 run:∀ (A:Around) (outer:List Env) (s:Shared) (H:Hp) (args:Args) (us:List Value) (vs:List V) (Q:VK) (E:XK),fw k A->jW P w K mg base A outer s H->BindsTo s fd args (ps.zip us)->aZ vs us->sp vs H Q E→
  codeAny (model P w) A (.call (.ref f) args) (CR CX outer P w H s Q E) s
def DT (CX:l5) (P:Program) (w:World) (K:PySem.W.Frag) (mg:Str->Option Value) (base:Heap) (N:List Str) (qual:Str) (scope:Scope) (f:Addr) (cd:Value) (A:Around) (outer:List Env) (s:Shared) (H:Hp) (E:XK):Cx:={ bw CX P w K mg base N qual scope f cd A outer s H E with calm:=false }
theorem oQ {CX:l5} {P:Program} {w:World} {K:PySem.W.Frag} {mg:Str->Option Value} {base:Heap} {N ps:List Str} {qual:Str} {scope:Scope} {f:Addr} {cd:Value} {A:Around} {outer:List Env} {s s1:Shared} {H:Hp} {E:XK} {us:List Value} {vs:List V}
  (S:aH N ps scope) (e0:jW P w K mg base A outer s H) (hl:vs.length=ps.length) (r:aZ vs us)
  (x:InCallC s s.heap.objs.size (bindL (envOfC qual scope s.heap.objs.size f cd).kindOf (ps.zip us) fun _=>none) (cellsFrom (s.heap.objs.size+1) scope.names []) (bindC (envOfC qual scope s.heap.objs.size f cd).kindOf (ps.zip us) fun _=>none) s1) :
  Inv (DT CX P w K mg base N qual scope f cd A outer s H E) [] (d6 N vs) H s1:=by
 have e1:jW P w K mg base { A with handled:=none } outer s H:=⟨e0.frames,e0.mod,e0.bs,e0.bsz,e0.funs,e0.frf,e0.hok,e0.bare⟩
 have I:=kC (CX:=CX) (E:=E) S rfl e1 hl r x
 exact⟨⟨I.ok.mod,I.ok.kind,I.ok.glob,I.ok.blt,I.ok.above,I.ok.inj,I.ok.has,I.ok.cab,(fun z=>nomatch z),I.ok.frames,I.ok.stk,I.ok.exf,I.ok.bs,I.ok.bsz,I.ok.noex,I.ok.exfs,I.ok.funs,I.ok.frf⟩,I.os,I.bare,I.base,I.loc,I.cell,I.free,I.freeC,I.pin,I.hok,I.len⟩
theorem BR {CX:l5} {P:Program} {w:World} {K:PySem.W.Frag} {mg:Str->Option Value} {base:Heap} {k:Nat} {f:Addr} {name qual:Str} {params:Arguments} {body:List Stmt} {scope:Scope} {dV kV doc pm cdv ct oc:Value} {an od:Option Addr}
  {osl:Array (Option Value)} {N ps:List Str} {sp:Sp} (lk:K.lookup f=some ⟨oc,od,.func (PySem.W.fnOf name qual params body scope dV kV doc pm an cdv ct),osl⟩) (hcd:PySem.W.codeIn K cdv qual=true) (S:aH N ps scope)
  (len:∀ vs H Q E,sp vs H Q E->vs.length=ps.length)
  (hbody:∀ (A:Around) (outer:List Env) (s:Shared) (H:Hp) (vs:List V) (Q:VK) (E:XK),fw k (A.deeper (envOfC qual scope s.heap.objs.size f cdv))->sp vs H Q E→
   ∃ t,jV (DT CX P w K mg base N qual scope f cdv A outer s H E) body t/\t { nx:=fun _ H'=>Q .non H',rt:=Q } (d6 N vs) H) :
  kP P w K mg base CX (k+1) f (PySem.W.fnOf name qual params body scope dV kV doc pm an cdv ct) ps sp:=by
 refine⟨len,fun A outer s H args us vs Q E hr e0 hb r hsp=>?_⟩
 have hl:=len _ _ _ _ hsp
 have KX:K.In s.heap:=e0.mod.kin.keeps fun b o e=>(e0.bs b o e).1
 have lim:s.heap.NoLimit:=e0.mod.nolimit.keeps fun b o e=>(e0.bs b o e).1
 have hkind:∀ y∈ps.zip us,scope.names.lookup y.1=some .local∨(scope.names.lookup y.1=some .cell/\((cellsFrom (s.heap.objs.size+1) scope.names []).lookup y.1).isSome=true):=fun⟨n,v⟩ hy=>by
  rcases S.par n (List.of_mem_zip hy).1 with q | q
  ·exact .inl q
  ·exact .inr ⟨q,PySem.W.cellsFrom_some _ _ _ (.inl q)⟩
 refine codeAny_call_function hr.depth (KX _ _ lk) rfl S.co S.gen rfl (PySem.W.codeRec_of KX hcd) (hb _ _ _ _ ?_)
 refine wpAny_newFunctionEnv_cells S.kind hkind fun env he s1 x=>?_
 subst he
 refine⟨lim.keeps x.toInCall.keep,codeAny_func ?_⟩
 obtain⟨t,ht,hq⟩:=hbody A outer s H vs Q E (hr.deeper _) hsp
 have I:Inv (DT CX P w K mg base N qual scope f cdv A outer s H E) [] (d6 N vs) H s1:=oQ S e0 hl r x
 refine wpAny_mono (ht [] s1 (d6 N vs) H _ I hq) (fun fl s' hs=>?_) fun e s' hs=>hs
 have fin:∀ {σ':St} {H':Hp} {v:V} {u:Value},Inv (DT CX P w K mg base N qual scope f cdv A outer s H E) [] σ' H' s'->aY v u->Q v H'->CE outer P w H s Q u s':=
  fun {σ' H' v u} J rv q=>⟨v,H',J.os,J.bare,J.base,J.hok,rv,q⟩
 cases fl with
 | ret u=>
  obtain⟨v,σ',H',J,rv,q⟩:=hs
  exact fin J rv q
 | next=>
  obtain⟨σ',H',J,q⟩:=hs
  exact fin (v:=V.non) (u:=Value.none) J rfl q
 | brk=>
  obtain⟨_,_,_,q⟩:=hs
  exact False.elim q
 | cont=>
  obtain⟨_,_,_,q⟩:=hs
  exact False.elim q
section
variable {X:Cx} {CX:l5} {k:Nat} {f C:Addr} {fd:FuncData} {ps:List Str} {sp:Sp} {dvs:List V} {ds:List Value} {E:XK} {x m:Str} {p pos apos:Pos} {e o:Expr} {es:List Expr} {ta:TE} {t:TA}
theorem wV {pins:List (Addr×Obj)} {σ:St} {H:Hp} {s:Shared} {Q:VK} {us:List Value} {vs:List V} (F:kP X.prog X.w X.K X.mg X.base CX k f fd ps sp) (hr:fw k X.A) (hb:aP X.K fd ps ds) (hd:aZ dvs ds) (hx:eM CX X E)
  (I:Inv X pins σ H s) (r:aZ vs us) (h:sp (vs++dvs) H Q E):wpAny (model X.prog X.w) X.A (call (.ref f) us) (EP X pins σ Q) X.xe s:=by
 have r2:aZ (vs++dvs) (us++ds):=r.append hd
 have hl:(us++ds).length=ps.length:=by rw [← r2.length];exact F.len _ _ _ _ h
 refine wpAny_call (codeAny_mono (F.run X.A X.stack s H ⟨us,[]⟩ (us++ds) (vs++dvs) Q E hr I.env0 (hb s us I.kIn hl) r2 h) fun r s' hq=>?_)
 cases r with
 | error e=>exact hx pins σ H s e s' I hq
 | ok fl=>
  cases fl with
  | ret u=>exact I.after hq
  | next=>exact False.elim hq
  | brk=>exact False.elim hq
  | cont=>exact False.elim hq
theorem uY (F:kP X.prog X.w X.K X.mg X.base CX k f fd ps sp) (hr:fw k X.A) (hg:Gl X x) (hm:X.mg x=some (.ref f)) (hk:PySem.W.keepIn X.K (.ref f)=true) (hb:aP X.K fd ps ds) (hd:aZ dvs ds) (hx:eM CX X E)
  (ha:PA X (e :: es) t) (hdb:(x == ("__debug__" : Str))=false:=by decide) (he:starEach (e :: es) X.env=(false,eval e X.env) :: starEach es X.env:=by rfl) (hpl:(backTo pos (starEach es X.env)).any (·.1)=false:=by rfl) :
  PE X (.Call (.Name x p) (e :: es) [] pos) (ml sp dvs E t):=by
 intro pins s σ H Q I h
 refine wpAny_Call_Name_kw (gT I hg hm ?_ hdb)
 refine PySem.W.callWith_K (h₀:=X.base) I.ok.mod.kin hk (bX (ha pos pins s σ H _ I h) fun us s1 ⟨vs,H1,I1,r,q⟩=>⟨I1.kIn,?_⟩) he hpl
 exact wV F hr hb hd hx I1 r q
end
section
variable {P:Program} {w:World} {K:PySem.W.Frag} {mg:Str->Option Value} {base:Heap}
theorem Fun.okM {x qual:Str} {st:Stmt} {f:Addr} {fd:FuncData} {N ps:List Str} {k:Nat} {sp:Sp} (F:Fun K x qual st f fd) (S:aH N ps (au st)) (len:∀ vs H Q E,sp vs H Q E->vs.length=ps.length)
  (hbody:∀ (cdv:Value) (A:Around) (outer:List Env) (s:Shared) (H:Hp) (vs:List V) (Q:VK) (E:XK),fw k (A.deeper (envOfC qual (au st) s.heap.objs.size f cdv))->sp vs H Q E→
   ∃ t,jV (DT dk P w K mg base N qual (au st) f cdv A outer s H E).nox (cI st) t/\t { nx:=fun _ H'=>Q .non H',rt:=Q } (d6 N vs) H):kP P w K mg base dk (k+1) f fd ps sp:=by
 obtain⟨oc,od,kV,doc,pm,an,cdv,ct,osl,rfl,lk,hcd⟩:=F.ex
 refine BR lk hcd S len fun A outer s H vs Q E hr hsp=>?_
 obtain⟨t,h,q⟩:=hbody cdv A outer s H vs Q E hr hsp
 exact⟨t,h.nox,q⟩
end
end L2
namespace B
open PySem PySem.Spec L2 PyProof.Rows
section
set_option autoImplicit true
set_option relaxedAutoImplicit true
theorem uD {X:Cx} {CX:l5} {k:Nat} {f:Addr} {fd:FuncData} {ps:List Str} {sp:Sp} {dvs:List V} {ds:List Value} {E:XK} {x:Str} {p pos:Pos} {e:Expr} {es:List Expr} {t:TA} (F:kP X.prog X.w X.K X.mg X.base CX k f fd ps sp) (hr:fw k X.A) (hg:Gl X x) (hm:X.mg x=some (.ref f)) (hk:PySem.W.keepIn X.K (.ref f)=true) (hb:aP X.K fd ps ds) (hd:aZ dvs ds) (hx:eM CX X E) (ha:QA X (e :: es) t) (hdb:(x == ("__debug__" : Str))=false:=by decide) (he:starEach (e :: es) X.env=(false,eval e X.env) :: starEach es X.env:=by rfl) (hpl:(backTo pos (starEach es X.env)).any (·.1)=false:=by rfl):QE X (.Call (.Name x p) (e :: es) [] pos) (ml sp dvs E t):=⟨uY F hr hg hm hk hb hd hx ha.p hdb he hpl⟩
end
def D8 (d:Addr) (ob:Obj) (kvs:List (cJ×V)):It:=
 ⟨fun i H=>H d=some (.frz ob (.dK kvs))/\i < kvs.length,
  fun i H x H'=>∃ p k v,H p=none/\x=.ref p/\kvs[i]?=some (k,v)/\H'=upd H p (.tup [kV k,v]),
  fun i H=>H d=some (.frz ob (.dK kvs))/\kvs.length≤i⟩
theorem KV.get:∀ {kvs:List (cJ×V)} {vs:List (cJ×Value)},KV kvs vs->∀ {i:Nat} {k:cJ} {v:V},kvs[i]?=some (k,v)->∃ u,vs[i]?=some (k,u)/\aY v u
 | _,_,.nil,i,k,v,h=>by simp at h
 | (a,b) :: r,(c,d) :: t,.cons h z,0,k,v,e=>by
  have e':(a,b)=(k,v):=by simpa using e
  cases e'
  obtain⟨h1,h2⟩:=h
  have h1':a=c:=h1
  subst h1'
  exact⟨d,rfl,h2⟩
 | _ :: r,_ :: t,.cons h z,i+1,k,v,e=>by
  obtain⟨u,q,w⟩:=KV.get z (i:=i) (by simpa using e)
  exact⟨u,by simpa using q,w⟩
theorem DB {k:cJ} {u:Value} (h:jD k u=true):aY (kV k) u:=by
 rcases bO h with ⟨i,t,rfl,rfl⟩ | ⟨x,t,rfl,rfl⟩
 ·exact⟨t,rfl⟩
 ·exact⟨t,rfl⟩
theorem BV:entryFor table "dict_itemiterator.__iter__" = some Builtin.«dict_keyiterator.__iter__»:=
 entryFor_alias (by kernel_rfl) (by first | rfl | decide +kernel | (unfold String.splitOn;simp +decide [String.splitOnAux])) (by decide +kernel) (by kernel_rfl) (id' := "dict_keyiterator.__iter__")
theorem nS {P:Program} {w:World} {K:PySem.W.Frag} {elts:List Expr} {x1} {pos:Pos} {it d:Addr} {ob:Obj} {kvs:List (cJ×V)} {es:Array DictEntry} {ep:Nat} (hob:ob.data=.dict es ep) :
  wx P w K (.Tuple elts x1 pos) (D8 d ob kvs) [it] it (fun i h=>∃ ok ov,IsItemIter h it d i kvs.length ep ok ov) where
 mem:=by simp
 obj:=fun i h st c hc=>by
  obtain⟨ok,ov,e⟩:=st
  rw [List.mem_singleton] at hc
  subst hc
  exact⟨_,e,fun v q=>by cases (show Data.fields _=Data.cell v from q)⟩
 keep:=fun i h h' ⟨ok,ov,e⟩ k=>⟨ok,ov,k it (by simp) _ e⟩
 item:=by
  intro X hP hw hK hc i pins s σ H E I hf st hg
  subst hP hw hK
  obtain⟨hd,hi⟩:=hg
  obtain⟨ok,ov,e⟩:=st
  obtain⟨q0,z,hds,vs,rel,o,es',ep',d1,d2,d3,d4⟩:=(show ObjOk X.prog X.w H s.heap d (.frz ob (.dK kvs)) from I.hok d _ hd)
  have eo:o=ob:=Option.some.inj (d1.symm.trans q0)
  subst eo
  rw [hob] at d3
  cases d3
  have dat:s.heap.DictAt (bL X.prog X.w) d vs ep:=⟨o,es,d1,d2,hob,d4⟩
  obtain⟨k,v,hkv'⟩:∃ k v,kvs[i]?=some (k,v):=⟨(kvs[i]'hi).1,(kvs[i]'hi).2,List.getElem?_eq_getElem hi⟩
  obtain⟨u,hu,ru⟩:=KV.get rel hkv'
  have ndi:it≠d:=fun q=>by rw [q] at hf;have:=(hf d (by simp)).1;rw [hd] at this;cases this
  have itl:it < s.heap.objs.size:=Heap.lt_size e
  rw [rel.length] at e
  refine wpAny_pyNext_items_item e dat hu fun key h1 hkey eo tup hz hk=>⟨_,rfl,wpAny_letOwnedTupleGo_items eo fun h2 e2 sb=>?_⟩
  have nt:s.heap.objs.size≠it:=Nat.ne_of_gt itl
  have P:ObjOk X.prog X.w (upd H s.heap.objs.size (.tup [kV k,v])) h2 s.heap.objs.size (.tup [kV k,v]):=
   ⟨by show 2≤sizeLine;decide,[key,u],.cons (DB hkey) (.cons ru .nil),⟨_,sb.extBut _ _ nt tup,rfl,_,rfl⟩⟩
  have I2:Inv X pins σ (upd H s.heap.objs.size (.tup [kV k,v])) { s with heap:=h2,toks:=s.toks }:=wK I (fun c o' n q=>by
   have n':c≠it:=fun r=>n (by simp [r])
   exact sb.extBut _ _ n' (hk c o' n' q)) hf (Nat.le_refl _) P
  refine⟨.ref s.heap.objs.size,_,I2,rfl,⟨_,k,v,I.fresh,rfl,hkv',rfl⟩,⟨key,u,by rw [rel.length];exact e2⟩,fun c hc=>?_⟩
  have hc':c=it:=by simpa using hc
  rw [hc',av (Ne.symm nt)]
  exact (hf it (by simp)).1
 done:=by
  intro X hP hw hK hc i pins s σ H E I hf st hg
  subst hP hw hK
  obtain⟨hd,hi⟩:=hg
  obtain⟨ok,ov,e⟩:=st
  obtain⟨q0,z,hds,vs,rel,o,es',ep',d1,d2,d3,d4⟩:=(show ObjOk X.prog X.w H s.heap d (.frz ob (.dK kvs)) from I.hok d _ hd)
  have eo:o=ob:=Option.some.inj (d1.symm.trans q0)
  subst eo
  rw [hob] at d3
  cases d3
  have dat:s.heap.DictAt (bL X.prog X.w) d vs ep:=⟨o,es,d1,d2,hob,d4⟩
  have hh:X.A.in1.handled=none:=I.ok.hd hc
  rw [rel.length] at e hi
  refine wpAny_pyNext_items_end hh e dat (List.getElem?_eq_none hi) fun h1 ex=>⟨rfl,?_⟩
  exact wL (t':=s.toks) I (fun c o' n q=>ex c o' (fun r=>n (by simp [r])) q) hf
 self:=fun A i s Q E st h=>by
  obtain⟨ok,ov,e⟩:=st
  have hT:s.TypeIs (.ref it) "dict_itemiterator" := ⟨_,e,rfl⟩
  refine wpAny_pyIter_slot hT PySem.F.slot_dict_itemiterator_iter (wpAny_call_entry PySem.F.slot_dict_itemiterator_iter hT BV ?_ (PySem.F.args_dict_itemiterator_iter_1 _))
  show wpAny _ _ (ret (.ref it)) _ _ s
  exact wpAny_pure ⟨_,rfl, "dict_itemiterator", _,hT,PySem.F.slot_dict_itemiterator_next.lookup,h⟩
def vL (td:TE):TI:=fun σ H R=>td σ H fun x H1=>∃ d kvs,x=.ref d/\H1 d=some (.dK kvs)/\∀ ob,R (D8 d ob kvs) (upd H1 d (.frz ob (.dK kvs)))
theorem uP {X:Cx} {elts:List Expr} {x1} {tp apos pos:Pos} {o:Expr} {td:TE} (ho:PE X o td) (hb:attributeBase o "items" X.env (eval o X.env)=eval o X.env:=by rfl) (hl:(apos.endLine == pos.line)=true:=by rfl) :
  PI X (.Tuple elts x1 tp) (.Call (.Attribute o "items" apos) [] [] pos) (vL td):=by
 intro pins s σ H R I h
 refine wpAny_Call_method (T := "dict") (id := "dict.items") hb rfl hl PySem.F.plainAttrs_dict PySem.F.slot_dict_items PySem.F.type_dict_items (bX (ho pins s σ H _ I h) fun u s1 ⟨x,H1,I1,rx,d,kvs,ex,e,q⟩=>?_)
 subst ex
 obtain rfl:u=Value.ref d:=rx
 obtain⟨z,hds,vs,rel,dd⟩:=zw I1.hok e
 obtain⟨t1,t2,_⟩:=vI I1 (.inl ⟨kvs,.inl e⟩)
 refine⟨t1,t2,?_⟩
 show wpAny _ _ (callWith pos (.builtin "dict.items") [.ref d] [] []) _ _ _
 refine method_meetsIn PySem.F.slot_dict_items PySem.F.entry_dict_items rfl (PySem.evalArgs_none ⟨rfl,t1,PySem.F.args_dict_items_1 _,_,meets_dict_items (bL X.prog X.w) d hds,⟨vs,dd⟩,?_⟩)
 obtain⟨o',es,ep,d1,d2,d3,d4⟩:=id dd
 have dat:s1.heap.DictAt (bL X.prog X.w) d vs ep:=⟨o',es,d1,d2,d3,d4⟩
 refine wpAny_pyIter_items (d:=d) (kvs:=vs) (ep:=ep) ⟨_,Heap.get?_push_size _ rfl,rfl,rfl⟩ (dat.push _) ?_
 have sz:(s1.heap.push { cls:=.type "dict_items", data:=.fields #[.ref d] }).objs.size=s1.heap.objs.size+1:=Heap.size_push ..
 have I2:=I1.kept (t':=s1.toks) (h':=(s1.heap.push { cls:=.type "dict_items", data:=.fields #[.ref d] }).push { cls:=.type "dict_itemiterator", data:=.fields #[.none,.bool false,.ref d,.int 0 0,.int vs.length 0,.int ep 0,.none,.none] }) fun b o q=>Heap.get?_push_of_some _ (Heap.get?_push_of_some _ q)
 have hit:=Heap.get?_push_size (s1.heap.push { cls:=.type "dict_items", data:=.fields #[.ref d] }) (o:={ cls:=.type "dict_itemiterator", data:=.fields #[.none,.bool false,.ref d,.int 0 0,.int vs.length 0,.int ep 0,.none,.none] }) rfl
 have dl:d < s1.heap.objs.size:=Heap.lt_size d1
 have k2:∀ b o,s1.heap.get? b=some o->((s1.heap.push { cls:=.type "dict_items", data:=.fields #[.ref d] }).push { cls:=.type "dict_itemiterator", data:=.fields #[.none,.bool false,.ref d,.int 0 0,.int vs.length 0,.int ep 0,.none,.none] }).get? b=some o:=fun b o q=>Heap.get?_push_of_some _ (Heap.get?_push_of_some _ q)
 generalize (s1.heap.push { cls:=.type "dict_items", data:=.fields #[.ref d] }).push { cls:=.type "dict_itemiterator", data:=.fields #[.none,.bool false,.ref d,.int 0 0,.int vs.length 0,.int ep 0,.none,.none] }=hE at I2 hit k2 ⊢
 rw [sz] at hit ⊢
 have I3:=lQ (h':=hE) (t':=s1.toks) (ob:=.frz o' (.dK kvs)) I2 (by rw [e];exact True.intro) ⟨rfl,fun _ _=>rfl⟩ ⟨_,k2 _ _ d1⟩ ⟨k2 _ _ d1,z,hds,vs,rel,o',es,ep,k2 _ _ d1,d2,d3,d4⟩
 have nd:s1.heap.objs.size+1≠d:=Nat.ne_of_gt (Nat.lt_succ_of_lt dl)
 refine⟨_,[s1.heap.objs.size+1],_,_,_,rfl,I3,nS d3,⟨.none,.none,by rw [rel.length];exact hit⟩,fun c hc=>?_,q o'⟩
 have hc':c=s1.heap.objs.size+1:=by simpa using hc
 subst hc'
 exact I1.fpOk (Nat.le_succ _) (by rw [av nd];exact I1.hok.fresh (Nat.le_succ _))
theorem rG {d:Addr} {ob:Obj} {kvs:List (cJ×V)} {g:TG} {tb:TS} {D:iA} {σ:L2.St} {H:Hp} (Pv:Nat->L2.St->Hp->Prop) (h0:Pv 0 σ H)
  (hl:∀ i σ H,Pv i σ H->H d=some (.frz ob (.dK kvs)))
  (hs:∀ i k v p σ H,kvs[i]?=some (k,v)->Pv i σ H->H p=none->g (.ref p) σ (upd H p (.tup [kV k,v])) fun σ2 H2=>tb { D with nx:=Pv (i+1),ct:=Pv (i+1),bk:=D.nx } σ2 H2) (hd:∀ σ H,Pv kvs.length σ H->D.nx σ H) :
  ∃ W:Nat->Nat->L2.St->Hp->Prop,(∃ m,W 0 m σ H)/\∀ i m σ H,W i m σ H→
   ((D8 d ob kvs).stop i H/\D.nx σ H)∨((D8 d ob kvs).go i H/\∃ N:L2.St->Hp->Prop,(∀ σ' H',N σ' H'->∃ m',m' < m/\W (i+1) m' σ' H')/\∀ x H',(D8 d ob kvs).yld i H x H'->g x σ H' fun σ2 H2=>tb { D with nx:=N,ct:=N,bk:=D.nx } σ2 H2):=by
 refine⟨fun i m σ H=>m=kvs.length - i/\i≤kvs.length/\Pv i σ H,⟨_,rfl,Nat.zero_le _,h0⟩,?_⟩
 rintro i m σ H ⟨rfl,hi,p⟩
 have q:=hl i σ H p
 by_cases hlt:i < kvs.length
 ·refine .inr ⟨⟨q,hlt⟩,Pv (i+1),fun σ' H' p'=>⟨kvs.length - (i+1),by omega,rfl,hlt,p'⟩,fun x H' y=>?_⟩
  obtain⟨pp,k,v,hp,rfl,hkv,rfl⟩:=y
  exact hs i k v pp σ _ hkv p hp
 ·have e:i=kvs.length:=by omega
  subst e
  exact .inl ⟨⟨q,Nat.le_refl _⟩,hd σ H p⟩
def oX (ps:List (Int×Int)):List (cJ×V):=ps.map fun p=>(Sum.inl p.1,V.int p.2)
def qD:List (Int×Int)->Int->Int
 | [],_=>0
 | (c,u) :: r,b=>if c=b then u else qD r b
def eX:List (Int×Int)->Int->Int->List (Int×Int)
 | [],b,t=>[(b,0+t)]
 | (c,u) :: r,b,t=>if c=b then (c,u+t) :: r else (c,u) :: eX r b t
theorem uE {p:cJ×V} {r:List (cJ×V)} {k:cJ} {v:V} (e:p.1=k) (n:∀ q∈r,q.1≠k):fg (p :: r) k v=(k,v) :: r:=by
 unfold fg
 rw [if_pos (by simp [e]),List.map_cons,if_pos e,e]
 congr 1
 exact (List.map_congr_left (g:=id) (fun q hq=>by rw [if_neg (n q hq)];rfl)).trans (List.map_id r)
theorem qR {p:cJ×V} {r:List (cJ×V)} {k:cJ} {v:V} (e:¬ p.1=k):fg (p :: r) k v=p :: fg r k v:=by
 unfold fg
 rw [List.any_cons,decide_eq_false e,Bool.false_or]
 split
 ·rw [List.map_cons,if_neg e]
 ·rfl
theorem qa:∀ (ps:List (Int×Int)) (b:Int),(h7 (oX ps) (Sum.inl b)).getD (V.int 0)=V.int (qD ps b)
 | [],b=>rfl
 | (c,u) :: r,b=>by
  show (h7 ((Sum.inl c,V.int u) :: oX r) (Sum.inl b)).getD (V.int 0)=V.int (if c=b then u else qD r b)
  by_cases e:c=b
  ·rw [if_pos e,gD (by rw [e])];rfl
  ·rw [if_neg e,gE (fun z=>e (by injection z)),qa r b]
theorem pK:∀ (ps:List (Int×Int)) (b t:Int),(ps.map (·.1)).Nodup->fg (oX ps) (Sum.inl b) (V.int (qD ps b+t))=oX (eX ps b t)
 | [],b,t,_=>rfl
 | (c,u) :: r,b,t,nd=>by
  have nd':=List.nodup_cons.mp nd
  show fg ((Sum.inl c,V.int u) :: oX r) (Sum.inl b) (V.int ((if c=b then u else qD r b)+t))=oX (if c=b then (c,u+t) :: r else (c,u) :: eX r b t)
  by_cases e:c=b
  ·rw [if_pos e,if_pos e,uE (by rw [e]) (fun q hq z=>?_)]
   ·show _=(Sum.inl c,V.int (u+t)) :: oX r
    rw [e]
   ·obtain⟨p,hp,rfl⟩:=List.mem_map.mp hq
    have z':p.1=b:=by injection z
    exact nd'.1 (List.mem_map.mpr ⟨p,hp,z'.trans e.symm⟩)
  ·rw [if_neg e,if_neg e,qR (fun z=>e (by injection z)),pK r b t nd'.2]
   rfl
def gG:List (Int×Int)->Rat
 | []=>0
 | p :: r=>(p.2:Rat) / (p.1:Rat)+gG r
theorem yL {a b c:Rat}:(a+b) / c=a / c+b / c:=by rw [Rat.div_def,Rat.div_def,Rat.div_def,Rat.add_mul]
theorem mv:∀ (ps:List (Int×Int)) (b t:Int),gG (eX ps b t)=gG ps+(t:Rat) / (b:Rat)
 | [],b,t=>by
  show ((0+t:Int):Rat) / (b:Rat)+0=0+(t:Rat) / (b:Rat)
  rw [Int.zero_add];grind
 | (c,u) :: r,b,t=>by
  show gG (if c=b then (c,u+t) :: r else (c,u) :: eX r b t)=(u:Rat) / (c:Rat)+gG r+(t:Rat) / (b:Rat)
  by_cases e:c=b
  ·rw [if_pos e]
   show ((u+t:Int):Rat) / (c:Rat)+gG r=_
   rw [Rat.intCast_add,yL,e]
   grind
  ·rw [if_neg e]
   show (u:Rat) / (c:Rat)+gG (eX r b t)=_
   rw [mv r b t]
   grind
theorem ka:∀ (ps:List (Int×Int)) (p:Int×Int),gG (ps++[p])=gG ps+(p.2:Rat) / (p.1:Rat)
 | [],p=>by show (p.2:Rat) / (p.1:Rat)+0=0+_;grind
 | q :: r,p=>by
  show (q.2:Rat) / (q.1:Rat)+gG (r++[p])=(q.2:Rat) / (q.1:Rat)+gG r+_
  rw [ka r p];grind
structure iN (n i:Nat) (ps:List (Int×Int)):Prop where
 nd:(ps.map (·.1)).Nodup
 len:ps.length≤i
 bot:∀ p∈ps,0 < p.1/\p.1.natAbs < 2 ^ n
 top:∀ p∈ps,p.2.natAbs≤i * 2 ^ n
theorem hV:∀ (ps:List (Int×Int)) (b t:Int) (c:Int),c∈(eX ps b t).map (·.1)↔c∈ps.map (·.1)∨c=b
 | [],b,t,c=>by simp [eX]
 | (d,u) :: r,b,t,c=>by
  show c∈(if d=b then (d,u+t) :: r else (d,u) :: eX r b t).map (·.1)↔_
  by_cases e:d=b
  ·rw [if_pos e]
   constructor
   ·intro h;exact .inl h
   ·rintro (h | h)
    ·exact h
    ·exact List.mem_cons.mpr (.inl (h.trans e.symm))
  ·rw [if_neg e,List.map_cons,List.map_cons,List.mem_cons,List.mem_cons,hV r b t c]
   exact or_assoc.symm
theorem ww:∀ (ps:List (Int×Int)) (b t:Int),(ps.map (·.1)).Nodup->((eX ps b t).map (·.1)).Nodup
 | [],b,t,_=>by simp [eX]
 | (d,u) :: r,b,t,nd=>by
  have nd':=List.nodup_cons.mp nd
  show ((if d=b then (d,u+t) :: r else (d,u) :: eX r b t).map (·.1)).Nodup
  by_cases e:d=b
  ·rw [if_pos e];exact nd
  ·rw [if_neg e,List.map_cons,List.nodup_cons]
   refine⟨fun z=>?_,ww r b t nd'.2⟩
   rcases (hV r b t d).mp z with h | h
   ·exact nd'.1 h
   ·exact e h
theorem qu:∀ (ps:List (Int×Int)) (b t:Int),(eX ps b t).length≤ps.length+1
 | [],b,t=>Nat.le_refl 1
 | (d,u) :: r,b,t=>by
  show (if d=b then (d,u+t) :: r else (d,u) :: eX r b t).length≤_
  split
  ·exact Nat.le_succ _
  ·exact Nat.succ_le_succ (qu r b t)
theorem qt:∀ (ps:List (Int×Int)) (b t:Int) (M N:Nat),(∀ p∈ps,p.2.natAbs≤M)->t.natAbs≤N->∀ p∈eX ps b t,p.2.natAbs≤M+N
 | [],b,t,M,N,_,ht,p,hp=>by
  have e:p=(b,0+t):=by simpa [eX] using hp
  rw [e]
  show (0+t).natAbs≤M+N
  omega
 | (d,u) :: r,b,t,M,N,h,ht,p,hp=>by
  have hu:u.natAbs≤M:=h (d,u) List.mem_cons_self
  have hr:∀ q∈r,q.2.natAbs≤M:=fun q hq=>h q (List.mem_cons_of_mem _ hq)
  have hp':p∈(if d=b then (d,u+t) :: r else (d,u) :: eX r b t):=hp
  split at hp'
  ·rcases List.mem_cons.mp hp' with e | e
   ·rw [e]
    show (u+t).natAbs≤M+N
    omega
   ·have:=hr p e
    omega
  ·rcases List.mem_cons.mp hp' with e | e
   ·rw [e]
    show u.natAbs≤M+N
    omega
   ·exact qt r b t M N hr ht p e
theorem iN.add {n i:Nat} {ps:List (Int×Int)} (h:iN n i ps) {r:R} (w:Wf n r):iN n (i+1) (eX ps r.2 r.1) where
 nd:=ww ps r.2 r.1 h.nd
 len:=Nat.le_trans (qu ps r.2 r.1) (Nat.succ_le_succ h.len)
 bot:=fun p hp=>by
  rcases (hV ps r.2 r.1 p.1).mp (List.mem_map.mpr ⟨p,hp,rfl⟩) with z | z
  ·obtain⟨q,hq,e⟩:=List.mem_map.mp z
   rw [← e]
   exact h.bot q hq
  ·rw [z];exact⟨w.pos,w.bot⟩
 top:=fun p hp=>by
  have:=qt ps r.2 r.1 (i * 2 ^ n) (2 ^ n) h.top (Nat.le_of_lt w.top) p hp
  rw [Nat.add_mul,Nat.one_mul]
  exact this
theorem iN.nil (n:Nat):iN n 0 []:=⟨List.nodup_nil,Nat.le_refl _,(fun _ h=>nomatch h),(fun _ h=>nomatch h)⟩
theorem iN.wf {n i:Nat} {ps:List (Int×Int)} (h:iN n i ps) (hi:i≤255) {p:Int×Int} (hp:p∈ps):Wf (n+8) (cK p.2 p.1):=by
 refine gu (h.bot p hp).1 ?_ (Nat.lt_of_lt_of_le (h.bot p hp).2 (Nat.pow_le_pow_right (by decide) (by omega)))
 have a:=h.top p hp
 have b:i * 2 ^ n≤255 * 2 ^ n:=Nat.mul_le_mul_right _ hi
 have c:0 < 2 ^ n:=Nat.pow_pos (by decide)
 rw [Nat.pow_add]
 omega
def fx:List R->Rat
 | []=>0
 | r :: t=>val r+fx t
theorem jZ:∀ (rs:List R) (r:R),fx (rs++[r])=fx rs+val r
 | [],r=>by show val r+0=0+val r;grind
 | q :: t,r=>by show val q+fx (t++[r])=val q+fx t+val r;rw [jZ t r];grind
theorem me:∀ (rs:List R) (acc:R),cF acc->(∀ r∈rs,cF r)->cF (rs.foldl aQ acc)/\val (rs.foldl aQ acc)=val acc+fx rs
 | [],acc,ha,_=>⟨ha,by show val acc=val acc+0;grind⟩
 | r :: t,acc,ha,h=>by
  have hr:=h r List.mem_cons_self
  obtain⟨a,b⟩:=me t (aQ acc r) (jt ha hr) fun q hq=>h q (List.mem_cons_of_mem _ hq)
  refine⟨a,?_⟩
  rw [List.foldl_cons,b,dZ ha.pos hr.pos]
  show val acc+val r+fx t=val acc+(val r+fx t)
  grind
theorem fX:val (0,1)=0:=by decide +kernel
theorem on:cF (0,1):=⟨by decide,by decide⟩
theorem cZ {rs:List R} (h:∀ r∈rs,cF r):cF (bR rs)/\val (bR rs)=fx rs:=by
 obtain⟨a,b⟩:=me rs (0,1) on h
 refine⟨a,b.trans ?_⟩
 rw [fX];grind
theorem zZ {rs:List R} {x:R} (h:∀ r∈rs,cF r) (hx:cF x) (e:val x=fx rs):x=bR rs:=
 dC hx (cZ h).1 (e.trans (cZ h).2.symm)
theorem Wf.red {n:Nat} {r:R} (h:Wf n r):cF r:=⟨h.pos,h.cop⟩
section
set_option autoImplicit true
set_option relaxedAutoImplicit true
theorem uB   : QE X (.Dict [] [] pos) sx:=⟨uV ⟩
theorem uC  (hu:X.A.units+1 < cLine) (ho:QE X o td) (he:QE X e ty) (hf:QE X f tx) (m:M2 X o "get" apos e f cpos):QE X (.Call (.Attribute o "get" apos) [e,f] [] cpos) (sC td ty tx):=⟨uW hu ho.p he.p hf.p m⟩
theorem w9  (hu:X.A.units+1 < cLine) (ho:QE X o td) (hi:QE X i ty) (hv:QE X value tv) (hs:swapsWith value (some (.Subscript o i pos')) pos.line X.env=pure false):QS X (.Assign [.Subscript o i pos'] value pos) (zg td ty tv):=⟨xz hu ho.p hi.p hv.p hs⟩
theorem ux  {X:Cx} {elts:List Expr} {x1} {tp apos pos:Pos} {o:Expr} {td:TE} (ho:QE X o td) (hb:attributeBase o "items" X.env (eval o X.env)=eval o X.env:=by rfl) (hl:(apos.endLine == pos.line)=true:=by rfl):QI X (.Tuple elts x1 tp) (.Call (.Attribute o "items" apos) [] [] pos) (vL td):=⟨uP ho.p hb hl⟩
end
end B
namespace B
abbrev Pl:=Nat×Nat
def yg (p:Pl):Int:=(p.2:Int) - p.1+1
def Cl (p q:Pl):Prop:=p.1 < q.1∨(p.1=q.1/\q.2≤p.2)
structure IY (S:Pl->Prop) (L:Pl->Int) (p:Pl):Prop where
 inn:S p
 all:∀ q,S q->L q * yg p < L p * yg q∨(L q * yg p=L p * yg q/\Cl p q)
def GC (n:Nat) (p:Pl):Prop:=p.1≤p.2/\p.2 < n
def GB (n b e:Nat) (p:Pl):Prop:=GC n p/\(p.1 < b∨(p.1=b/\e≤p.2))
def GA (n b e:Nat) (p:Pl):Prop:=GC n p/\(p.1 < b∨(p.1=b/\p.2 < e))
abbrev Wn:=Option (Nat×Nat)
def DF (b e:Nat):Wn->Bool
 | none=>false
 | some (x,y)=>decide (b≤x) && decide (y≤e)
def DG (ws:List Wn) (p:Pl):List Nat:=(List.range ws.length).filter fun i=>DF p.1 p.2 (ws.getD i none)
def Gi (ws:List Wn) (A:Nat->Int) (p:Pl):Int:=((DG ws p).map A).sum
end B
namespace B
open PySem PySem.Spec L2 PyProof.Rows
def lF (ns:List Int):List Int:=ns.foldl step_dedup []
def F5 (K:PySem.W.Frag):List V->Hp->VK->Prop:=fun xs H Q=>∃ p ns,xs=[.ref p]/\aR K H p (ns.map V.int)/\ns.length≤1000/\∀ l,H l=none->Q (.ref l) (upd H l (.set (fun k=>(lF ns).any (· == k)) (lF ns).length))
def F7:List V->Hp->VK->Prop:=fun xs H Q=>∃ p S n,xs=[.ref p]/\H p=some (.set S n)/\Q (.int n) H
def Fl (xs:Array Nat):Prop:=∀ i j (_:i < j) (hj:j < xs.size),xs[i]'(by omega) < xs[j]
def Fk (t:SetTable):Prop:=t.plain=true->t.dummies=#[]/\Fl t.place
section
variable {prog:Program} {w:World} {A:Around} {E:Value->Shared->Prop} {s:Shared}
def EI:Value->Int
 | .int n _=>n
 | _=>0
def Ch (w:World) (h:Heap) (a:Addr) (ks:List Int):Prop:=∃ o es ep t,h.get? a=some o/\o.ExactSet/\o.data=.set es ep t/\(∀ e∈es.toList,∃ n u,e=(hashInt n,Value.int n u))∧
 (es.toList.map fun e=>EI e.2).Perm ks/\t.fits es.size=true/\Fk t/\t.led=!w.params.followText "set-order"
end
section
variable {prog:Program} {w:World} {A:Around} {E:Value->Shared->Prop} {s:Shared}
def Cn (w:World):Obj:={ cls:=.type "set", dict:=none,data:=.set #[] 0 (.fresh 0 0 (!w.params.followText "set-order")) }
variable {R:Result->Shared->Prop} {I:Addr} {fp wr:List Addr} {G:Array GenState->Array GenState->Prop} {n:Nat} {P:Nat->Value->Prop} {St:Nat->Shared->Prop}
end
section
variable {prog:Program} {w:World} {A:Around} {E:Value->Shared->Prop} {s:Shared}
end
namespace FS
end FS
section
variable {prog:Program} {w:World} {A:Around} {E:Value->Shared->Prop} {s:Shared}
def He (first:Value) (i:Nat) (a:Addr) (n ep:Nat):Obj:={ cls:=.type "set_iterator", data:=.fields #[first,.int i 0,.ref a,.int n 0,.int ep 0] }
end
end B
namespace B
open PySem PySem.Spec L2 PyProof.Rows
section
variable {prog:Program} {w:World} {A:Around} {E:Value->Shared->Prop} {s:Shared}
end
section
variable {prog:Program} {w:World} {A:Around} {E:Value->Shared->Prop} {s:Shared}
def Fj (prog:Program) (w:World) (a:Addr) (ks:List Int) (s:Shared) (It:Addr) (s1:Shared):Prop:=
 ∃ (fp:List Addr) (items:Array Value) (St:Nat->Shared->Prop),(∀ A':Around,A'.handled=none->WalksS prog w A' It fp [It] (fun a b=>b=a) items.size (fun i v=>items[i]?=some v) St)/\St 0 s1/\It∈fp/\(∀ b∈fp,b < s1.heap.objs.size/\(b=a∨s.heap.objs.size≤b))∧
  s.heap.objs.size≤It/\∃ ms,IntsAre items.toList ms/\ms.Perm ks
def FY (t:SetTable):Nat->Nat
 | 0=>0
 | k+1=>t.place.getD k 0+1
end
def Ga (K:PySem.W.Frag):V->List V->Hp->VK->Prop:=fun x vs H Q=>∃ l b xs zs,x=.ref l/\vs=[.ref b]/\H l=some (.lst xs)/\bo K H b zs/\xs.length+zs.length≤1000/\Q .non (upd H l (.lst (xs++zs)))
def F2 (K:PySem.W.Frag):List V->Hp->VK->Prop:=fun xs H Q=>∃ p ns,xs=[.ref p]/\(aR K H p (ns.map V.int)∨bo K H p (ns.map V.int))/\ns.length < 64/\∀ (l:Addr) (ms:List Int),ms.Perm ns->ms.Pairwise (·≤·)->H l=none->Q (.ref l) (upd H l (.lst (ms.map V.int)))
section
variable {prog:Program} {w:World} {A:Around} {E:Value->Shared->Prop} {s:Shared}
end
def CW (w:World) (a:Addr) (ks:List Int):HO:=.ext fun h=>Ch w h a ks
def F4 (w:World) (K:PySem.W.Frag):List V->Hp->VK->Prop:=fun xs H Q=>∃ p ns,xs=[.ref p]/\(aR K H p (ns.map V.int)∨bo K H p (ns.map V.int))/\ns.length≤1000/\∀ l,H l=none->Q (.ref l) (upd H l (CW w l (lF ns)))
def ET (w:World):List V->Hp->VK->Prop:=fun xs H Q=>∃ p ks,xs=[.ref p]/\H p=some (CW w p ks)/\ks.length < 64/\∀ (l:Addr) (ms:List Int),ms.Perm ks->ms.Pairwise (·≤·)->H l=none->Q (.ref l) (upd H l (.lst (ms.map V.int)))
def FJ (ta:TA):TE:=fun σ H Q=>ta σ H fun vs H1=>∃ i j:Int,vs=[.int i,.int j]/\∀ p,H1 p=none->Q (.ref p) (upd H1 p (.rng i j))
def Em:R2:=fun x y H Q=>∃ (i:Int) (p:Addr) (lo hi:Int),x=.int i/\y=.ref p/\H p=some (.rng lo hi)/\Q (.bl (!(decide (lo≤i) && decide (i < hi)))) H
section
set_option autoImplicit true
set_option relaxedAutoImplicit true
end
def DL (lo n:Nat):List Nat:=(List.range n).map fun i=>lo+i
def Hm:List V->Hp->VK->Prop:=fun xs H Q=>∃ p,∃ lo n:Nat,xs=[.ref p]/\H p=some (.rng (lo:Int) ((lo+n:Nat):Int))/\lo+n≤1000/\∀ l,H l=none->Q (.ref l) (upd H l (.lst ((DL lo n).map fun i:Nat=>V.int i)))
theorem kG {α β:Type} {K:PySem.W.Frag} {H:Hp} {D a:Addr} {xs:List V} {ds:List α} {P:Hp->V->β->Prop} {f:α->β} {src:List (Option Nat)} {σ:L2.St} {g:TG} {tt:TT} {te:TE} {Q:Hp->Prop}
  (mono:∀ H H' v d,ax K H H'->P H v d->P H' v d) (hD:H D=none) (hS:aR K H a xs) (hl:xs.length=ds.length) (hn:ds.length≤1000)
  (turn:∀ (i:Nat) (x:V) (d:α) (H':Hp),xs[i]?=some x->ds[i]?=some d->aS H H'->∀ (R:VK) (E:Hp->Prop),(∀ v H'',aS H' H''->P H'' v (f d)->R v H'')→
   g x (bQ src σ) H' fun σ2 H2=>hZ (bQ src σ) σ2/\tt σ2 H2 fun ok H3=>if ok=true then te σ2 H3 R else E H3)
  (fin:∀ H' ys,aS H H'->H' D=some (.lst ys)->bG (P H') ys (ds.map f)->Q H') :
  ∃ W:Nat->Nat->List V->Hp->Prop,(∃ m,W 0 m [] (upd H D (.lst [])))/\∀ i m ys H,W i m ys H->((sd K a).stop i H/\Q H)∨((sd K a).go i H/\∀ x H',(sd K a).yld i H x H'→
   g x (bQ src σ) H' fun σ2 H2=>hZ (bQ src σ) σ2/\tt σ2 H2 fun ok H3=>
    if ok=true then te σ2 H3 fun y H4=>H4 D=some (.lst ys)/\ys.length < sizeLine/\∃ m',m' < m/\W (i+1) m' (ys++[y]) (upd H4 D (.lst (ys++[y]))) else ∃ m',m' < m/\W (i+1) m' ys H3):=by
 refine⟨fun i m ys H'=>i≤ds.length/\m=ds.length - i/\H' D=some (.lst ys)/\aS H H'/\bG (P H') ys ((ds.take i).map f),⟨_,Nat.zero_le _,rfl,ag,ai hD _,.nil⟩,?_⟩
 rintro i m ys H1 ⟨hi,rfl,d1,s1,al1⟩
 have hS1:aR K H1 a xs:=s1.seq hS
 by_cases hix:i < ds.length
 ·have hx0:xs[i]?=some (xs[i]'(by omega)):=List.getElem?_eq_getElem _
  refine .inr ⟨⟨xs,_,hS1,hx0⟩,?_⟩
  rintro x H2 ⟨rfl,hy⟩
  have hx:=hy xs hS1
  obtain⟨d,hd⟩:∃ d,ds[i]?=some d:=⟨_,List.getElem?_eq_getElem hix⟩
  refine turn i x d _ hx hd s1 _ _ fun v H3 s3 p3=>?_
  have d3:H3 D=some (.lst ys):=s3 _ _ d1
  have tm:ax K H2 (upd H3 D (.lst (ys++[v]))):=(ax.same s3).trans (ax.up d3 _)
  refine⟨d3,aV (by rw [al1.len,List.length_map,List.length_take];omega),ds.length - (i+1),by omega,hix,rfl,ag,fun b o q=>?_,?_⟩
  ·rw [av (aA q hD)]
   exact s3 _ _ (s1 _ _ q)
  ·rw [List.take_add_one,hd,List.map_append]
   exact (al1.mono fun v d p=>mono _ _ _ _ tm p).snoc (mono _ _ _ _ (ax.up d3 _) p3)
 ·have e:i=ds.length:=by omega
  subst e
  rw [List.take_length] at al1
  exact .inl ⟨⟨xs,hS1,by omega⟩,fin H1 ys s1 d1 al1⟩
def FX (te:TE) (i:Nat):TS:=fun D σ H=>te σ H fun x H1=>∃ σ',σ.set i (some x)=σ'/\D.nx σ' H1
theorem Bz {h:Heap} {a:Addr} {m m':Str->Option Value} (x:h.Ns a m) (y:h.Ns a m'):m=m':=by
 obtain⟨o,es,ep,e1,e2,_,e3⟩:=x
 obtain⟨o',es',ep',f1,f2,_,f3⟩:=y
 rw [e1] at f1;cases f1
 rw [e2] at f2;cases f2
 funext n
 rw [← e3,← f3]
theorem B3 {X:Cx} {pins:List (Addr×Obj)} {σ:L2.St} {H:Hp} {s:Shared} {h':Heap} {t':Nat} {ch:List Addr} (I:Inv X pins σ H s) (hch:∀ b∈ch,eG X pins H b)
  (k:∀ b o,b≠X.env.locals->b∉ch->s.heap.get? b=some o->h'.get? b=some o) (ns:∃ m,s.heap.Ns X.env.locals m/\h'.Ns X.env.locals m):Inv X pins σ H { s with heap:=h',toks:=t' }:=by
 have nch:∀ b u,H b=some u->b∉ch:=fun b u e z=>by rw [(hch b z).1] at e;cases e
 have nl:∀ b u,H b=some u->b≠X.env.locals:=fun b u e z=>by rw [z,I.free] at e;cases e
 refine I.step (g':=s.gens) (d':=s.drawn) (ch:=ch) (fun b hb=>?_) (fun b o hL _ hc e _=>k b o hL hc e) (fun b o hL _ hc e _=>⟨o.slots,k b o hL hc e⟩) (fun _ _ _ _ n=>n) (fun b o hc e=>?_) (fun _ _ e=>e) (fun _ _ _ e=>e) (fun b ps e=>⟨#[],by rw [e];simp⟩) (fun m hm=>?_) (fun b u e=>?_) I.bare
 ·obtain⟨_,f2,_,f4,f5,f6⟩:=hch b hb
  exact⟨f4,f2,f5,f6⟩
 ·by_cases z:b=X.env.locals
  ·obtain⟨m,_,o',es,ep,ho,_⟩:=ns
   exact⟨o',by rw [z];exact ho⟩
  ·exact⟨o,k b o z hc e⟩
 ·obtain⟨m0,n1,n2⟩:=ns
  rw [Bz hm n1]
  exact n2
 ·refine (I.hok b u e).stay (fun c v hc q=>?_) (fun _ q=>q) fun _ _ q=>q
  rcases hc with z | z
  ·exact k c v (by rw [z];exact nl b u e) (by rw [z];exact nch b u e) q
  ·exact k c v (nl c _ z) (nch c _ z) q
section
variable {prog:Program} {w:World} {A:Around} {E:Value->Shared->Prop} {s:Shared}
theorem lM {Q:List Value->Shared->Prop} {r:Addr} {a b c:Int} {t u v:Tok} {n:Nat} (hh:A.handled=none) (hr:IsRange s.heap r a b c t u v) (hs:Builtin.Range.small a b c=true) (hn:Builtin.Range.rangeSize a b c=n) (hl:n≤2 ^ 24)
  (hQ:∀ h' tk acc,(∀ b o,s.heap.get? b=some o->h'.get? b=some o)->ItemsOf (fun i v=>∃ t,v=.int (a+i * c) t) acc n->Q acc.toList { s with heap:=h',toks:=tk }) :
  wpAny (model prog w) A (collect (.ref r)) Q E s:=by
 unfold collect
 refine wpAny_bind (wpAny_runValue (codeAny_builtin F.entry_proto_collect ?_))
 rw [Around.under_plainId F.plain_proto_collect _]
 show wpAny (model prog w) A.in1 (newList [] >>= fun l=>again (.builtin "list.__iadd__" ⟨[l,.ref r],[]⟩)) _ _ s
 refine wpAny_bind (wpAny_newObj_type (wpAny_pure ⟨plainId_quiet F.plain_list_iadd _,codeAny_builtin F.entry_list_iadd ?_⟩))
 rw [Around.under_plainId F.plain_list_iadd _]
 show wpAny (model prog w) A.in1 (Builtin.List.listExtendWith (.ref s.heap.objs.size) (.ref r) (.ref s.heap.objs.size)) _ _ _
 have hS:(s.heap.push { cls:=.type "list", data:=.seq ([]:List Value).toArray }).get? s.heap.objs.size=some { cls:=.type "list", data:=.seq #[] }:=Heap.get?_push_size _ rfl
 refine wpAny_extend_range (R:=fun r s'=>match r with | .ok (.ret v)=>wpAny (model prog w) A (match v with | .ref a=>(do let o ← load a;match o.data with | .seq xs _=>pure xs.toList | _=>unsupported "internal:collect") | _=>unsupported "internal:collect") Q E s' | .ok _=>False | .error e=>E e s') (s:={ s with heap:=s.heap.push { cls:=.type "list", data:=.seq ([]:List Value).toArray } }) hh (Heap.get?_push_of_some _ hr) hs hn hl s.heap.objs.size (.ref s.heap.objs.size) _ hS fun h' tk acc' c' hk hS' hacc=>?_
 show wpAny (model prog w) A (load s.heap.objs.size >>= _) _ _ _
 refine wpAny_bind (wpAny_load hS' (wpAny_pure (hQ h' tk acc' (fun b o e=>hk b o (Nat.ne_of_lt (Heap.lt_size e)) (Heap.get?_push_of_some _ e)) hacc)))
end
section
variable {X:Cx} {pins:List (Addr×Obj)} {σ:L2.St} {H:Hp} {A:Around} {E:Value->Shared->Prop} {a kS:Addr} {vs:List Value} {kz:List Int} {f:Value} {e1:Nat}
theorem xG {s:Shared} {oa ok:Obj} (I:Inv X pins σ H s) (fa:eG X pins H a) (fk:eG X pins H kS) (ha:s.heap.get? a=some oa) (hk:s.heap.get? kS=some ok) (ca:∀ v,oa.data≠.cell v) (ck:∀ v,ok.data≠.cell v):Inv X ((a,oa) :: (kS,ok) :: pins) σ H s:=by
 refine I.pins_of fun p hp=>?_
 rcases List.mem_cons.mp hp with rfl | hp
 ·exact⟨ha,fa.1,fa.2.1,fa.2.2.1,ca⟩
 rcases List.mem_cons.mp hp with rfl | hp
 ·exact⟨hk,fk.1,fk.2.1,fk.2.2.1,ck⟩
 ·exact I.pin p (List.mem_append_right _ hp)
theorem qC {s:Shared} {oa ok:Obj} (I:Inv X ((a,oa) :: (kS,ok) :: pins) σ H s):Inv X pins σ H s/\s.heap.get? a=some oa/\s.heap.get? kS=some ok:=by
 refine⟨I.pins_of fun p hp=>I.pin p (List.mem_append_right _ (List.mem_cons_of_mem _ (List.mem_cons_of_mem _ hp))),(I.pin (a,oa) ?_).1,(I.pin (kS,ok) ?_).1⟩
 ·exact List.mem_append_right _ List.mem_cons_self
 ·exact List.mem_append_right _ (List.mem_cons_of_mem _ List.mem_cons_self)
def qy (X:Cx) (σ:L2.St) (H:Hp) (A:Around) (f:Value) (vs:List Value) (kz:List Int):Prop:=
 ∀ (i:Nat) (v:Value) (k:Int),vs[i]?=some v->kz[i]?=some k->∀ (pins:List (Addr×Obj)) (s:Shared),Inv X pins σ H s→
  wpAny (model X.prog X.w) A (call f [v]) (fun u s2=>(∃ t,u=.int k t)/\Inv X pins σ H s2) (fun _ _=>False) s
theorem vF {s:Shared} {P:Fin->Shared->Prop} (I:Inv X pins σ H s) (fa:eG X pins H a) (fk:eG X pins H kS) (hka:kS≠a) (ha:s.heap.get? a=some (seqObj "list" #[] e1)) (hk:s.heap.get? kS=some (seqObj "list" #[] 0))
  (hlen:kz.length=vs.length) (h64:vs.length < 64) (turn:qy X σ H A f vs kz)
  (h:∀ s' out c,Inv X pins σ H s'->s'.heap.get? a=some (seqObj "list" out c)->KskOut false kz vs out.toList->P (.done (.ret .none)) s') :
  wpAny (model X.prog X.w) A (ksk_rest a f false vs.toArray e1 (.ref kS)) P E s:=by
 unfold ksk_rest
 refine wpAny_bind (wpAny_rule ?_)
 rw [List.forIn_toArray]
 refine wpAny_bind (ksk_fold (fun i s'=>∃ kA e,Inv X pins σ H s'/\s'.heap.get? kS=some (seqObj "list" kA e)/\s'.heap.get? a=some (seqObj "list" #[] e1)/\IntsAre kA.toList (kz.take i)) vs 0 s ⟨#[],0,I,hk,ha,by simpa using IntsAre.nil⟩ ?_ ?_)
 ·rintro j x s' hx ⟨kA,e,I',k',a',hi⟩
  simp only [Nat.zero_add] at hi ⊢
  have hj:j < vs.length:=(List.getElem?_eq_some_iff.mp hx).1
  obtain⟨k,hkj⟩:∃ k,kz[j]?=some k:=⟨_,List.getElem?_eq_getElem (by omega)⟩
  have hz:kA.size≤vs.length:=by
   have:=hi.length
   rw [Array.length_toList,List.length_take] at this
   omega
  refine wpAny_bind (wpAny_attempt (wpAny_mono (turn j x k hx hkj _ s' (xG I' fa fk a' k' (fun v q=>nomatch q) fun v q=>nomatch q)) (fun u s2 he=>?_) fun _ _ hF=>hF.elim))
  obtain⟨⟨t2,rfl⟩,I2⟩:=he
  obtain⟨I3,a3,k3⟩:=qC I2
  obtain⟨c2,hc2⟩:∃ c2,(s2.heap.update kS (Obj.mapSeq (·.push (.int k t2)))).get? kS=some (seqObj "list" (kA.push (.int k t2)) c2):=⟨_,get?_update_seq k3 (·.push (.int k t2))⟩
  have ek:kz.take (j+1)=kz.take j++[k]:=by rw [List.take_add_one,hkj];rfl
  have ea:(kA.push (Value.int k t2)).toList=kA.toList++[.int k t2]:=by simp
  refine wpAny_bind (listUpdate_at k3 rfl (wpAny_pure ⟨rfl,kA.push (.int k t2),c2,?_,hc2,?_,by rw [ek,ea];exact ksk_snoc hi⟩) (by rw [sizeLine_eq];omega) (Nat.le_trans (Nat.le_of_eq (Array.size_push ..)) (by rw [sizeLine_eq];omega)))
  ·exact I3.turned (t':=s2.toks) (it:=kS) (fun b o n q=>(Heap.get?_update_other _ _ (Ne.symm n)).trans q) fk.1 fk.2.1 fk.2.2.2.1 fk.2.2.2.2.1 fk.2.2.2.2.2
  ·exact (Heap.get?_update_other _ _ hka).trans a3
 ·rintro s' ⟨kA,e,I',k',a',hi⟩
  have hi':IntsAre kA.toList kz:=by
   have e3:kz.take (0+vs.length)=kz:=List.take_of_length_le (by omega)
   rw [e3] at hi
   exact hi
  refine wpAny_bind (listItems_at k' rfl ?_)
  obtain⟨m,hm,_⟩:=id I'.loc
  have hmem:∀ p,p∈(hU (Att.noObjs s'.heap) s'.heap X.env.locals).filter (fun p=>decide (p.1≠kS/\p.1≠a))↔p.1≠X.env.locals/\s'.heap.get? p.1=some p.2/\p.1≠kS/\p.1≠a:=fun p=>by
   rw [List.mem_filter]
   constructor
   ·rintro⟨x,y⟩
    obtain⟨z1,_,z3⟩:=jv x
    exact⟨z1,z3,of_decide_eq_true y⟩
   ·rintro⟨x,y,z⟩
    exact⟨mZ x (Att.noObjs_get _ _) y,decide_eq_true z⟩
  refine ksk_end_ (h₀:=Att.noObjs s'.heap) (L:=X.env.locals) (m:=m) (e:=e) (news:=(hU (Att.noObjs s'.heap) s'.heap X.env.locals).filter (fun p=>decide (p.1≠kS/\p.1≠a))) (Att.fr_all hm) (fun p hp=>?_) hka (fun p hp=>((hmem p).mp hp).2.2.1) (fun p hp=>((hmem p).mp hp).2.2.2) hi' hlen h64 fun h3 tk3 out c F3 N3 k3=>?_
  ·rcases List.mem_append.mp hp with hp | hp
   ·obtain⟨z1,z2,_⟩:=(hmem p).mp hp
    exact⟨z2,z1,Att.noObjs_get _ _⟩
   rcases List.mem_cons.mp hp with rfl | hp
   ·exact⟨k',fk.2.1,Att.noObjs_get _ _⟩
   ·rw [List.mem_singleton.mp hp]
    exact⟨a',fa.2.1,Att.noObjs_get _ _⟩
  ·refine h _ out c (B3 (ch:=[kS,a]) I' (fun b hb=>?_) (fun b o hL hb e=>?_) ⟨m,hm,F3.ns⟩) (N3.get List.mem_cons_self) k3
   ·rcases List.mem_cons.mp hb with z | z
    ·rw [z];exact fk
    ·rw [List.mem_singleton.mp z];exact fa
   ·refine N3.get (List.mem_cons_of_mem _ ((hmem (b,o)).mpr ⟨hL,e,fun z=>hb (by simp [show b=kS from z]),fun z=>hb (by simp [show b=a from z])⟩))
theorem vE {s:Shared} {n:Nat} {P:Fin->Shared->Prop} (I:Inv X pins σ H s) (fa:eG X pins H a) (ho:s.heap.get? a=some (seqObj "list" vs.toArray n)) (hlen:kz.length=vs.length) (h64:vs.length < 64) (turn:qy X σ H A f vs kz)
  (h:∀ s' out c,Inv X pins σ H s'->s'.heap.get? a=some (seqObj "list" out c)->KskOut false kz vs out.toList->P (.done (.ret .none)) s') :
  wpAny (model X.prog X.w) A (ksk_tree a f false) P E s:=by
 obtain⟨e1,ho1⟩:∃ e1,(s.heap.update a (Obj.mapSeq fun _=>(#[]:Array Value))).get? a=some (seqObj "list" #[] e1):=⟨_,get?_update_seq ho fun _=>#[]⟩
 have I1:Inv X pins σ H { s with heap:=s.heap.update a (Obj.mapSeq fun _=>(#[]:Array Value)),toks:=s.toks }:=I.turned (it:=a) (fun b o n q=>(Heap.get?_update_other _ _ (Ne.symm n)).trans q) fa.1 fa.2.1 fa.2.2.2.1 fa.2.2.2.2.1 fa.2.2.2.2.2
 unfold ksk_tree
 refine wpAny_bind (listItems_at ho rfl (wpAny_bind (listUpdate_at ho rfl ?_ (by rw [List.size_toArray,sizeLine_eq];omega) (Nat.zero_le _))))
 refine wpAny_bind (seqEpoch_at ho1 rfl (wpAny_bind (wpAny_newTuple (wpAny_bind (wpAny_newList (wpAny_holding ?_) (Nat.zero_le _))) (by show vs.length≤sizeLine;rw [sizeLine_eq];omega))))
 generalize s.heap.update a (Obj.mapSeq fun _=>(#[]:Array Value))=h1 at ho1 I1 ⊢
 have la:a < h1.objs.size:=Heap.lt_size ho1
 have I2:=I1.kept (t':=s.toks) (h':=(h1.push (seqObj "tuple" vs.toArray 0)).push (seqObj "list" #[] 0)) fun b o e=>Heap.get?_push_of_some _ (Heap.get?_push_of_some _ e)
 have sz:(h1.push (seqObj "tuple" vs.toArray 0)).objs.size=h1.objs.size+1:=Heap.size_push ..
 exact vF (kS:=(h1.push (seqObj "tuple" vs.toArray 0)).objs.size) I2 fa (I1.fpOk (by rw [sz];exact Nat.le_succ _) (I1.hok.fresh (by rw [sz];exact Nat.le_succ _))) (by rw [sz];exact Nat.ne_of_gt (Nat.lt_succ_of_lt la)) (Heap.get?_push_of_some _ (Heap.get?_push_of_some _ ho1)) (Heap.get?_push_size _ rfl) hlen h64 turn h
end
theorem B6 {X:Cx} {pins:List (Addr×Obj)} {σ:L2.St} {H:Hp} {s:Shared} {p:Addr} {v:HO} (I:Inv X pins σ H s) (f:eG X pins H p) (new:ObjOk X.prog X.w (upd H p v) s.heap p v):Inv X pins σ (upd H p v) s:=by
 have old:∀ b u,H b=some u->upd H p v b=some u:=fun b u e=>by rw [av (aA e f.1)];exact e
 refine I.step (h':=s.heap) (t':=s.toks) (g':=s.gens) (d':=s.drawn) (ch:=[p]) (fun b hb=>?_) (fun b o _ _ hc e _=>e) (fun b o _ _ hc e _=>⟨o.slots,e⟩) (fun b o hc e n=>?_)
  (fun b o hc e=>⟨o,e⟩) (fun b xs e=>old b _ e) (fun b o u e=>old b _ e) (fun b ps e=>⟨#[],by rw [old b _ e];simp⟩) (fun m hm=>hm) (fun b u e=>?_) I.bare
 ·rw [List.mem_singleton] at hb
  subst hb
  obtain⟨_,f1,_,f3,f4,f5⟩:=f
  exact⟨f3,f1,f4,f5⟩
 ·rw [av (fun z=>hc (by simp [z]))];exact n
 ·by_cases hb:b=p
  ·subst hb;rw [ag] at e;cases e;exact new
  ·rw [av hb] at e
   exact (I.hok b u e).stay (fun c v hc q=>q) (fun c q=>old c _ q) fun c xs q=>old c _ q
theorem uR {α β:Type} {g:α->β}:∀ {ps l2:List β},ps.Perm l2->∀ l:List α,l2=l.map g->∃ ms:List α,ms.Perm l/\ps=ms.map g:=by
 intro ps l2 h
 induction h with
 | nil=>
  intro l e
  cases l with
  | nil=>exact⟨[],.nil,rfl⟩
  | cons a l=>simp at e
 | cons x p ih=>
  intro l e
  cases l with
  | nil=>simp at e
  | cons a l=>
   rw [List.map_cons] at e
   injection e with e1 e2
   obtain⟨ms,h1,h2⟩:=ih l e2
   exact⟨a :: ms,h1.cons a,by rw [List.map_cons,← e1,h2]⟩
 | swap x y t=>
  intro l e
  match l,e with
  | a :: b :: l,e=>
   rw [List.map_cons,List.map_cons] at e
   injection e with e1 e2
   injection e2 with e2 e3
   exact⟨b :: a :: l,.swap a b l,by rw [List.map_cons,List.map_cons,← e1,← e2,← e3]⟩
 | trans p1 p2 ih1 ih2=>
  intro l e
  obtain⟨m2,h1,h2⟩:=ih2 l e
  obtain⟨ms,h3,h4⟩:=ih1 m2 h2
  exact⟨ms,h3.trans h1,h4⟩
def AG (sp:Sp) (key:Nat->Int):List V->Hp->VK->Prop:=fun xs H Q=>∃ (p:Addr) (n:Nat),xs=[.ref p]/\H p=some (.rng 0 n)/\n < 64/\(∀ i < n,∀ (Qk:VK),Qk (.int (key i)) H->sp [.int (i:Nat)] H Qk fun _ _ _=>False)∧
 ∀ (l:Addr) (ms:List Nat),ms.Perm (List.range n)->ms.Pairwise (fun a b=>key a≤key b)->H l=none->Q (.ref l) (upd H l (.lst (ms.map fun i:Nat=>V.int i)))
def EK (sp:Sp) (key:Nat->Int) (t:TA):TE:=fun σ H Q=>t σ H fun vs H1=>AG sp key vs H1 Q
def F6:V->List V->Hp->VK->Prop:=fun x vs H Q=>∃ (l:Addr) (ns:List Nat) (j k:Nat),x=.ref l/\vs=[.int (k:Int)]/\H l=some (.lst (ns.map fun i:Nat=>V.int i))/\ns[j]?=some k/\(∀ m,m < j->ns[m]?≠some k)/\Q .non (upd H l (.lst ((ns.eraseIdx j).map fun i:Nat=>V.int i)))
def IL (k:Int):Value->Bool
 | .int i _=>i == k
 | _=>false
def IQ (X:Cx) (N':List Str) (scope:Scope) (y:Str) (cl:List (Str×Addr)) (C:Addr) (fp:List Addr) (pins:List (Addr×Obj)) (s:Shared) (H:Hp):Cx:=
 { X with N:=N',s₀:=s,H₀:=H,env:=compEnvC scope ((y,C+1) :: cl) C X.env,outer:=X.stack,stack:=X.stack,ex:=fp,fn:=fun z=>z == y,pn:=X.pn++pins,xe:=fun _ _=>False }
structure Fz (X:Cx) (scope:Scope) (y:Str) (cl:List (Str×Addr)):Prop where
 has:∀ x,((compEnvC scope cl 0 X.env).kindOf x=some .cell∨(compEnvC scope cl 0 X.env).kindOf x=some .free)->x=y∨∃ c,cl.lookup x=some c
 up:∀ x c,cl.lookup x=some c->X.env.cells.lookup x=some c
 no:cl.lookup y=none
section
variable {M:Model} {A:Around} {E:Value->Shared->Prop} {s:Shared}
end
section
variable {X:Cx} {N':List Str} {scope:Scope} {y:Str} {cl:List (Str×Addr)} {src:List (Option Nat)} {pins:List (Addr×Obj)} {σ:L2.St} {H:Hp} {s:Shared} {fp:List Addr}
end
section
variable {X:Cx} {N':List Str} {scope:Scope} {y:Str} {cl:List (Str×Addr)} {src:List (Option Nat)} {tg iter elt:Expr} {ifs:List Expr} {wi:TI} {g:TG} {tt:TT} {te:TE} {pos:Pos}
end
section
variable {X:Cx} {N':List Str} {scope:Scope} {y:Str} {cl:List (Str×Addr)} {src:List (Option Nat)} {tg iter elt:Expr} {ifs:List Expr} {wi:TI} {g:TG} {tt:TT} {te:TE} {pos:Pos}
end
structure dM (K:PySem.W.Frag) (n:Str) (st:Stmt) (f:Addr) (d:FuncData):Prop where
 p:PySem.W.nsIn K mainGlobals n=some (some (.ref f))
 F:Fun K n n st f d
section
variable {K:PySem.W.Frag} {n:Str} {st:Stmt} {f:Addr} {d:FuncData}
theorem isF {oc:Value} {od an:Option Addr} {sl:Array (Option Value)} {kV dc pm cd ct:Value} (p:PySem.W.nsIn K mainGlobals n=some (some (.ref f)))
  (l:K.lookup f=some ⟨oc,od,.func (PySem.W.fnOf n n (dS st) (cI st) (au st) .none kV dc pm an cd ct),sl⟩) (c:PySem.W.codeIn K cd n=true) (k:PySem.W.keepIn K (.ref f)=true) :
  dM K n st f (PySem.W.fnOf n n (dS st) (cI st) (au st) .none kV dc pm an cd ct):=⟨p,vU l c k⟩
abbrev BA (n:Str) (st:Stmt) (us:List Value) (ps:List Str):Prop:=∀ (kV dc pm:Value) (an:Option Addr) (cd ct:Value),bindArgs (PySem.W.fnOf n n (dS st) (cI st) (au st) .none kV dc pm an cd ct) ⟨us,[]⟩=pure (ps.zip us)
theorem dM.b1 {x:Str} (I:dM K n st f d) (h:∀ u,BA n st [u] [x]:=by exact fun _ _ _ _ _ _ _=>rfl):aP K d [x] []:=I.F.binds fun a b c e g i us hl=>match us,hl with | [u],_=>h u a b c e g i
theorem dM.b2 {x y:Str} (I:dM K n st f d) (h:∀ u v,BA n st [u,v] [x,y]:=by exact fun _ _ _ _ _ _ _ _=>rfl):aP K d [x,y] []:=I.F.binds fun a b c e g i us hl=>match us,hl with | [u,v],_=>h u v a b c e g i
theorem dM.b3 {x y z:Str} (I:dM K n st f d) (h:∀ u v w,BA n st [u,v,w] [x,y,z]:=by exact fun _ _ _ _ _ _ _ _ _=>rfl):aP K d [x,y,z] []:=I.F.binds fun a b c e g i us hl=>match us,hl with | [u,v,w],_=>h u v w a b c e g i
theorem dM.b4 {x y z t:Str} (I:dM K n st f d) (h:∀ u v w r,BA n st [u,v,w,r] [x,y,z,t]:=by exact fun _ _ _ _ _ _ _ _ _ _=>rfl):aP K d [x,y,z,t] []:=I.F.binds fun a b c e g i us hl=>match us,hl with | [u,v,w,r],_=>h u v w r a b c e g i
end
theorem af {X:Cx} {st:Stmt} {cr:List Stmt} {t u:TS} (h1:QS X st t) (h2:cY X cr u):cY X (st :: cr) (let Uq:=u;zX t Uq):=uu h1 h2
def D6 (K:PySem.W.Frag) (a b:Addr):It:=
 ⟨fun i H=>∃ xs ys x y,aR K H a xs/\bo K H b ys/\xs[i]?=some x/\ys[i]?=some y,
  fun i H v H'=>∃ p x y,H p=none/\v=.ref p/\H'=upd H p (.tup [x,y])/\(∀ xs,aR K H a xs->xs[i]?=some x)/\∀ ys,bo K H b ys->ys[i]?=some y,
  fun i H=>∃ xs ys,aR K H a xs/\bo K H b ys/\(xs.length≤i∨ys.length≤i)⟩
def Gw (z TI TO i1 i2 a b:Addr) (i:Nat) (h:Heap):Prop:=IsZip h z TI TO .none/\IsPair h TI (.ref i1) (.ref i2)/\(∃ u v,IsPair h TO u v)/\h.IsListIter i1 a i/\h.IsTupleIter i2 b i
abbrev CA (h:Heap) (a:Addr):Heap:=h.push { cls:=.type "list_iterator", data:=.fields #[.ref a,.int 0 0] }
abbrev Cy (h:Heap) (a b:Addr):Heap:=(CA h a).push { cls:=.type "tuple_iterator", data:=.fields #[.ref b,.int 0 0] }
abbrev Cu (h:Heap) (a b:Addr):Heap:=(Cy h a b).push { cls:=.type "tuple", data:=.seq #[.ref h.objs.size,.ref (CA h a).objs.size] }
abbrev ED (h:Heap) (a b:Addr):Heap:=(Cu h a b).push { cls:=.type "tuple", data:=.seq #[.none,.none] }
abbrev GK (h:Heap) (a b:Addr):Heap:=(ED h a b).push { cls:=.type "zip", data:=.fields #[.none,.bool false,.bool false,.ref (Cy h a b).objs.size,.ref (Cu h a b).objs.size] }
def Fc (K:PySem.W.Frag) (ta:TA):TI:=fun σ H R=>ta σ H fun vs H1=>∃ a b,vs=[.ref a,.ref b]/\(∃ xs,aR K H1 a xs)/\(∃ ys,bo K H1 b ys)/\R (D6 K a b) H1
def D7 (K:PySem.W.Frag) (a b:Addr):It:=
 ⟨fun i H=>∃ xs ys x y,aR K H a xs/\aR K H b ys/\xs[i]?=some x/\ys[i]?=some y,
  fun i H v H'=>∃ p x y,H p=none/\v=.ref p/\H'=upd H p (.tup [x,y])/\(∀ xs,aR K H a xs->xs[i]?=some x)/\∀ ys,aR K H b ys->ys[i]?=some y,
  fun i H=>∃ xs ys,aR K H a xs/\aR K H b ys/\(xs.length≤i∨ys.length≤i)⟩
def Gx (z TI TO i1 i2 a b:Addr) (i:Nat) (h:Heap):Prop:=IsZip h z TI TO .none/\IsPair h TI (.ref i1) (.ref i2)/\(∃ u v,IsPair h TO u v)/\h.IsListIter i1 a i/\h.IsListIter i2 b i
abbrev CB (h:Heap) (a:Addr):Heap:=h.push { cls:=.type "list_iterator", data:=.fields #[.ref a,.int 0 0] }
abbrev Cz (h:Heap) (a b:Addr):Heap:=(CB h a).push { cls:=.type "list_iterator", data:=.fields #[.ref b,.int 0 0] }
abbrev Cw (h:Heap) (a b:Addr):Heap:=(Cz h a b).push { cls:=.type "tuple", data:=.seq #[.ref h.objs.size,.ref (CB h a).objs.size] }
abbrev EE (h:Heap) (a b:Addr):Heap:=(Cw h a b).push { cls:=.type "tuple", data:=.seq #[.none,.none] }
abbrev GL (h:Heap) (a b:Addr):Heap:=(EE h a b).push { cls:=.type "zip", data:=.fields #[.none,.bool false,.bool false,.ref (Cz h a b).objs.size,.ref (Cw h a b).objs.size] }
def Fd (K:PySem.W.Frag) (ta:TA):TI:=fun σ H R=>ta σ H fun vs H1=>∃ a b,vs=[.ref a,.ref b]/\(∃ xs,aR K H1 a xs)/\(∃ ys,aR K H1 b ys)/\R (D7 K a b) H1
abbrev wC (h:Heap) (T:Addr) (a b c:Value):Prop:=h.get? T=some { cls:=.type "tuple", data:=.seq #[a,b,c] }
structure IT (z TI TO i1 i2 i3:Addr):Prop where
 a1:TI≠z
 a2:TO≠z
 a3:i1≠z
 a4:i2≠z
 a0:i3≠z
 a5:TI≠TO
 a6:TI≠i1
 a7:TI≠i2
 c7:TI≠i3
 a8:TO≠i1
 a9:TO≠i2
 c9:TO≠i3
 b1:i1≠i2
 b2:i1≠i3
 b3:i2≠i3
section
variable {prog:Program} {w:World} {A:Around} {E:Value->Shared->Prop} {s:Shared}
end
def Fs (K:PySem.W.Frag) (a b c:Addr):It:=
 ⟨fun i H=>∃ xs ys zs x y z,bo K H a xs/\bo K H b ys/\aR K H c zs/\xs[i]?=some x/\ys[i]?=some y/\zs[i]?=some z,
  fun i H v H'=>∃ p x y z,H p=none/\v=.ref p/\H'=upd H p (.tup [x,y,z])/\(∀ xs,bo K H a xs->xs[i]?=some x)/\(∀ ys,bo K H b ys->ys[i]?=some y)/\∀ zs,aR K H c zs->zs[i]?=some z,
  fun i H=>∃ xs,bo K H a xs/\xs.length≤i⟩
def HS (z TI TO i1 i2 i3 a b c:Addr) (i:Nat) (h:Heap):Prop:=IsZip h z TI TO .none/\wC h TI (.ref i1) (.ref i2) (.ref i3)/\(∃ u v w,wC h TO u v w)/\h.IsTupleIter i1 a i/\h.IsTupleIter i2 b i/\h.IsListIter i3 c i
abbrev zL (h:Heap) (a:Addr):Heap:=h.push { cls:=.type "list_iterator", data:=.fields #[.ref a,.int 0 0] }
abbrev yB (h:Heap) (a b c:Addr):Heap:=zL (zA (zA h a) b) c
abbrev yC (h:Heap) (a b c:Addr):Heap:=(yB h a b c).push { cls:=.type "tuple", data:=.seq #[.ref h.objs.size,.ref (zA h a).objs.size,.ref (zB h a b).objs.size] }
abbrev yD (h:Heap) (a b c:Addr):Heap:=(yC h a b c).push { cls:=.type "tuple", data:=.seq #[.none,.none,.none] }
abbrev yE (h:Heap) (a b c:Addr):Heap:=(yD h a b c).push { cls:=.type "zip", data:=.fields #[.none,.bool false,.bool false,.ref (yB h a b c).objs.size,.ref (yC h a b c).objs.size] }
def Gp (K:PySem.W.Frag) (ta:TA):TI:=fun σ H R=>ta σ H fun vs H1=>∃ a b c,vs=[.ref a,.ref b,.ref c]/\(∃ xs,bo K H1 a xs)/\(∃ ys,bo K H1 b ys)/\(∃ zs,aR K H1 c zs)/\R (Fs K a b c) H1
section
variable {X:Cx} {pos:Pos}
def F9 (K:PySem.W.Frag):V->V->Hp->VK->Prop:=fun x y H Q=>∃ (p:Addr) (xs:List V) (i:Nat) (v:V),x=.ref p/\y=.int (i:Nat)/\aR K H p xs/\xs[i]?=some v/\Q v H
end
section
variable {prog:Program} {w:World} {A:Around} {E:Value->Shared->Prop}
end
section
variable {prog:Program} {w:World} {A:Around} {E:Value->Shared->Prop} {s:Shared}
end
structure DX (K:PySem.W.Frag) (H:Hp) (ys:List V) (kvs:List (List cJ×V)):Prop where
 len:ys.length=kvs.length
 row:∀ (i:Nat) (kv:List cJ×V),kvs[i]?=some kv->∃ r b,ys[i]?=some (.ref r)/\bo K H r [.ref b,kv.2]/\H b=some (.tup (kv.1.map kV))
 nd:(kvs.map (·.1)).Nodup
def E3 (K:PySem.W.Frag):List V->Hp->VK->Prop:=fun vs H Q=>∃ (p:Addr) (ob:Obj) (ys:List V) (kvs:List (List cJ×V)),vs=[.ref p]/\H p=some (.frz ob (.tup ys))/\ob.dict=none/\DX K H ys kvs/\∀ l,H l=none->Q (.ref l) (upd H l (.dT kvs))
def F1 (K:PySem.W.Frag):List V->Hp->VK->Prop:=fun vs H Q=>∃ (p:Addr) (ys:List V),vs=[.ref p]/\aR K H p ys/\∀ (l:Addr) (ob:Obj),H l=none->ob.dict=none->Q (.ref l) (upd H l (.frz ob (.tup ys)))
section
variable {X:Cx} {K:PySem.W.Frag}
end
def IJ (x y:Int×Int):Bool:=decide (x.1 < y.1) || (decide (x.1=y.1) && decide (x.2 < y.2))
def IN (x y:Int×Int):Bool:=decide (x.1 > y.1) || (decide (x.1=y.1) && decide (x.2 > y.2))
section
variable {prog:Program} {w:World} {A:Around} {E:Value->Shared->Prop} {s:Shared} {a b:Addr} {x y:Int×Int} {t1 t2 t3 t4:Tok}
end
section
variable {prog:Program} {w:World} {A:Around} {R:Result->Shared->Prop} {I:Addr} {fp wr:List Addr} {n:Nat} {P:Nat->Value->Prop} {St:Nat->Heap->Prop}
def Ix (prog:Program) (w:World) (A:Around) (op:CmpOp) (h0:Heap) (wr:List Addr) (S:Addr) (P:Nat->Value->Prop) (bt:Nat->Nat->Bool):Prop:=
 ∀ i j vi vj (s:Shared) (Q:Value->Shared->Prop) (E:Value->Shared->Prop),(∀ b o,b∉wr->b≠S->h0.get? b=some o->s.heap.get? b=some o)->P i vi->P j vj->Q (.bool (bt i j)) s->wpAny (model prog w) A (richCompare op vi vj) Q E s
end
section
variable {prog:Program} {w:World} {A:Around} {E:Value->Shared->Prop} {s:Shared}
end
section
variable {prog:Program} {w:World} {A:Around} {R:Result->Shared->Prop} {I:Addr} {fp wr:List Addr} {n:Nat} {P:Nat->Value->Prop} {St:Nat->Heap->Prop}
end
section
variable {prog:Program} {w:World} {A:Around} {E:Value->Shared->Prop} {s:Shared}
end
def GD (K:PySem.W.Frag) (H:Hp) (v:V) (p:Int×Int):Prop:=∃ a,v=.ref a/\bo K H a [.int p.1,.int p.2]
section
variable {X:Cx} {pins:List (Addr×Obj)} {σ:L2.St} {H:Hp} {s:Shared}
end
def IF (f:Int×Int->Int×Int->Bool) (K:PySem.W.Frag):R2:=fun x y H Q=>∃ p q,GD K H x p/\GD K H y q/\Q (.bl (f p q)) H
def Hu (ps:List (Int×Int)) (i:Nat):Int×Int:=ps.getD i (0,0)
def Es (k:Int):Value->Bool
 | .int n _=>n == k
 | _=>false
def Hs (K:PySem.W.Frag):V->List V->Hp->VK->Prop:=fun x vs H Q=>∃ (l:Addr) (ns:List Int) (n:Int),x=.ref l/\vs=[.int n]/\aR K H l (ns.map V.int)/\Q (.int (ns.count n:Nat)) H
end B
namespace B
def Ge (rows:List (R×R)) (s:R):R:=if dN rows s=0 then (rows.getD 0 fb).2 else aQ (rows.getD (dN rows s - 1) fb).2 (aC (bU (rows.getD (dN rows s - 1) fb) (rows.getD (dN rows s) fb)) (aj s (rows.getD (dN rows s - 1) fb).1))
def Sv (rows:List (R×R)) (i:Nat):Rat:=val (rows.getD i fb).1
def Pv (rows:List (R×R)) (i:Nat):Rat:=val (rows.getD i fb).2
def Iv (rows:List (R×R)):Prop:=∀ j,j+2 < rows.length->sl (Sv rows) (Pv rows) j≤sl (Sv rows) (Pv rows) (j+1)
def Cv (rows:List (R×R)) (x:Rat):Prop:=Iv rows/\∀ j,j+2=rows.length->sl (Sv rows) (Pv rows) j≤x
end B
namespace B
open PySem PySem.Spec PySem.Calls L2 PyProof.Rows
def Eu (X:Cx) (A:Around) (N':List Str) (qual:Str) (scope:Scope) (f:Addr) (cd:Value) (cl:List (Str×Addr)) (s:Shared) (H:Hp):Cx where
 prog:=X.prog
 w:=X.w
 K:=X.K
 mg:=X.mg
 base:=X.base
 A:=A.deeper (PySem.W.envX qual scope s.heap.objs.size f cd cl)
 N:=N'
 s₀:=s
 H₀:=H
 env:=PySem.W.envX qual scope s.heap.objs.size f cd cl
 outer:=X.stack
 stack:=PySem.W.envX qual scope s.heap.objs.size f cd cl :: X.stack
 ex:=[]
 fn:=fun _=>false
 calm:=true
 pn:=[]
 xe:=fun _ _=>False
structure nL (scope:Scope) (p y:Str):Prop where
 kind:scope.kind=.function
 co:scope.isCoroutine=false
 gen:scope.isGenerator=false
 loc:scope.names.lookup p=some .local
 fre:scope.names.lookup y=some .free
 all:(scope.names.all fun z=>z.2 != .cell && (z.2 != .free || z.1 == y))=true
theorem Er {x y:Str} {c c':Addr} (h:([(y,c)]:List (Str×Addr)).lookup x=some c'):x=y/\c'=c:=by
 rw [List.lookup_cons] at h
 cases e:x == y with
 | true=>rw [e] at h;cases h;exact⟨eq_of_beq e,rfl⟩
 | false=>rw [e] at h;cases h
theorem Gj {y:Str} {c:Addr}:([(y,c)]:List (Str×Addr)).lookup y=some c:=by
 rw [List.lookup_cons,beq_self_eq_true]
section
variable {X:Cx} {pins:List (Addr×Obj)} {σ:L2.St} {H:Hp} {s:Shared} {A:Around} {p y:Str} {qual:Str} {scope:Scope} {f c:Addr} {cd:Value} {h₁:Heap} {tk:Nat} {j:Nat} {v:V} {u:Value}
theorem nL.only (S:nL scope p y) {x:Str} (h:scope.names.lookup x=some .cell∨scope.names.lookup x=some .free):x=y:=by
 have key:∀ k:NameKind,scope.names.lookup x=some k->(k=.cell∨k=.free)->x=y:=fun k e hk=>by
  have q:=List.all_eq_true.mp S.all _ (mem_of_lookup e)
  rcases hk with rfl | rfl
  ·exact absurd (show (false && _)=true from q) (by simp)
  ·have q':(true && (false || (x == y)))=true:=q
   simpa using q'
 rcases h with h | h
 ·exact key _ h (.inl rfl)
 ·exact key _ h (.inr rfl)
theorem yk (I:L2.Inv X pins σ H s) (S:nL scope p y) (hA:A.frames=some X.stack) (hd:A.handled=none) (hj:X.N[j]?=some y) (hk:X.env.kindOf y=some .cell) (hc:X.env.cells.lookup y=some c)
  (hns:h₁.Ns s.heap.objs.size (fun x=>[(p,u)].reverse.lookup x)) (keep:∀ b o,s.heap.get? b=some o->h₁.get? b=some o) (r:aY v u) :
  L2.Inv (Eu X A [p,y] qual scope f cd [(y,c)] s H) [] [some v,(σ[j]?).getD none] H { s with heap:=h₁,toks:=tk } where
 ok:={
     mod:=I.ok.mod,kind:=S.kind,glob:=rfl,blt:=rfl,above:=Nat.le_refl _
     inj:=fun x z c' e1 e2=>by rw [(Er e1).1,(Er e2).1]
     has:=fun x h=>by
      have e:=S.only h
      subst e
      exact⟨c,Gj⟩
     cab:=fun x c z=>nomatch z
     hd:=fun _=>hd,frames:=Around.frames_deeper hA,stk:=.inr ⟨rfl,rfl⟩
     exf:=fun b z=>absurd (show b∈([]:List Addr) from z) (by simp)
     bs:=I.bs,bsz:=Nat.le_trans I.ok.bsz I.sz
     noex:=fun b o _ z=>absurd (show b∈([]:List Addr) from z) (by simp)
     exfs:=fun b z=>absurd (show b∈([]:List Addr) from z) (by simp)
     funs:=I.stack,frf:=I.stkFree }
 os:=rfl
 bare:=I.bare
 base:=Un.kept keep
 loc:=⟨_,hns,fun i x v' e1 e2 _=>by
  match i,e1,e2 with
  | 0,e1,e2=>
   cases e1
   cases e2
   exact⟨u,r,.inl ⟨S.loc,by show ([(p,u)]:List (Str×Value)).lookup p=some u;rw [List.lookup_cons,beq_self_eq_true]⟩⟩
  | 1,e1,e2=>
   cases e1
   have e3:σ[j]?=some (some v'):=by
    have e2':some ((σ[j]?).getD none)=some (some v'):=e2
    injection e2' with e2'
    cases z:σ[j]? with
    | none=>rw [z] at e2';cases e2'
    | some o=>rw [z] at e2';exact congrArg some e2'
   obtain⟨m0,hn0,hl0⟩:=I.loc
   obtain⟨u',r',l⟩:=hl0 j y v' hj e3 (Or.inr (Or.inl hk))
   refine⟨u',r',?_⟩
   rcases l with ⟨k,_⟩ | ⟨k,c',e,o,ho,hd⟩
   ·rw [hk] at k;cases k
   ·rw [hc] at e
    cases e
    exact .inr ⟨.inr S.fre,c,Gj,o,keep c o ho,hd⟩
  | i+2,e1,_=>cases e1⟩
 cell:=fun x c' e=>by
  obtain⟨_,rfl⟩:=Er e
  obtain⟨v,o,ho,hd⟩:=I.cell y c' hc
  exact⟨v,o,keep _ _ ho,hd⟩
 free:=I.hok.fresh (Nat.le_refl _)
 freeC:=fun x c' e=>by
  obtain⟨_,rfl⟩:=Er e
  exact I.freeC y c' hc
 pin:=fun q hq=>absurd (show q∈([]:List (Addr×Obj)) from hq) (by simp)
 hok:=I.hok.kept keep
 len:=rfl
theorem vC {params:Arguments} {body:Expr} {pm ctv:Value} {nm:Str} {te:TE} {Qk:VK} {c':Addr} (I:L2.Inv X pins σ H s) (S:nL scope p y) (hA:A.frames=some X.stack) (hd:A.handled=none) (hroom:A.depth < recursionLimit)
  (hj:X.N[j]?=some y) (hk:X.env.kindOf y=some .cell) (hc:X.env.cells.lookup y=some c)
  (hf:s.heap.get? f=some (PySem.W.kla_obj nm qual params body scope [(y,c)] pm c' ctv)) (hcd:s.heap.CodeRec (.ref c') qual)
  (bind:∀ w:Value,bindArgs (PySem.W.kla_fn nm qual params body scope [(y,c)] pm (.ref c') ctv) ⟨[w],[]⟩=pure [(p,w)])
  (hb:PE (Eu X A [p,y] qual scope f (.ref c') [(y,c)] s H) body te) (r:aY v u) (h:te [some v,(σ[j]?).getD none] H Qk) :
  codeAny (model X.prog X.w) A (.call (.ref f) ⟨[u],[]⟩) (CR dk X.stack X.prog X.w H s Qk (fun _ _ _=>False)) s:=by
 refine PySem.W.kla_callFunE hroom hf rfl S.co S.gen rfl hcd ?_
 rw [bind]
 refine wpAny_pure (wpAny_newFunctionEnv (fun x hx z=>?_) (fun x hx=>?_) (fun h₁ hns hsb=>⟨(I.nolimit).fresh _ hsb,?_⟩) S.kind)
 ·have q:=List.all_eq_true.mp S.all _ hx
  rw [z] at q
  exact absurd (show (false && _)=true from q) (by simp)
 ·have e:x=(p,u):=by simpa using hx
  rw [e]
  exact S.loc
 have keep:∀ b o,s.heap.get? b=some o->h₁.get? b=some o:=fun b o e=>hsb.extBut b o (Nat.ne_of_lt (Heap.lt_size e)) (Heap.get?_push_of_some _ e)
 have J:L2.Inv (Eu X A [p,y] qual scope f (.ref c') [(y,c)] s H) [] [some v,(σ[j]?).getD none] H { s with heap:=h₁,toks:=s.toks+1 }:=yk I S hA hd hj hk hc hns keep r
 refine PySem.W.kla_codeExpr (wpAny_mono (hb [] _ _ H Qk J h) (fun u' s' ⟨v',H',J',r',q'⟩=>?_) fun _ _ z=>False.elim z)
 exact⟨v',H',J'.os,J'.bare,J'.base,J'.hok,r',q'⟩
end
abbrev lV:HO:=.ext fun _=>True
def o6 (H:Hp) (T:Addr) (qual:Str) (lp:Pos):Prop:=
 H T=some (.tbl #[])∨∃ (c:Addr) (o:Obj) (vs:Array Value) (t:Tok),H T=some (.tbl #[rawInt lp.line,rawInt lp.col,.ref c])/\H c=some (.frz o lV)/\o.data=.fields vs/\vs[1]?=some (.str qual t)
def cN (T:Addr) (H H':Hp):Prop:=∀ b o,b≠T->H b=some o->H' b=some o
theorem o6.code {X:Cx} {pins:List (Addr×Obj)} {σ:L2.St} {H:Hp} {s:Shared} {c:Addr} {o:Obj} {vs:Array Value} {t:Tok} {q:Str} (I:L2.Inv X pins σ H s) (hc:H c=some (.frz o lV)) (d:o.data=.fields vs) (e:vs[1]?=some (.str q t)):s.heap.CodeRec (.ref c) q:=
 ⟨c,o,vs,t,rfl,(I.hok c _ hc).1,d,e⟩
theorem wo {lp:Pos} {v:Value}:codeAmong lp #[rawInt lp.line,rawInt lp.col,v].toList=some v:=codeAmong_snoc (pos:=lp) (c:=v) [] trivial rfl
section
variable {X:Cx} {pins:List (Addr×Obj)} {σ:L2.St} {H:Hp} {s:Shared} {c T:Addr} {params:Arguments} {body:Expr} {scope:Scope} {lp:Pos} {clos:List (Str×Addr)} {Q:Value->Shared->Prop} {E:Value->Shared->Prop}
theorem vD (I:L2.Inv X pins σ H s) (hcode:X.env.code=.ref c) (hc:PySem.W.codeHdIn X.K c T=true) (hT:o6 H T (X.env.qual ++ "<lambda>") lp) (hB:X.base.BuiltinsAt X.mg T) (hcl:closureFor scope X.env=pure clos) (hdef:defaultsOf params X.env=([],[]))
  (h:∀ (f:Addr) (H':Hp) (s':Shared) (c':Addr) (ctv:Value) (o:Obj) (vs:Array Value) (t:Tok),L2.Inv X pins σ H' s'->cN T H H'->o6 H' T (X.env.qual ++ "<lambda>") lp->H f=none→
   H' f=some (.frz (PySem.W.kla_obj "<lambda>" (X.env.qual ++ "<lambda>") params body scope clos ((X.mg "__name__").getD .none) c' ctv) lV)->H' c'=some (.frz o lV)->o.data=.fields vs->vs[1]?=some (.str (X.env.qual ++ "<lambda>") t)->Q (.ref f) s') :
  wpAny (model X.prog X.w) X.A (eval (.Lambda params body scope lp) X.env) Q E s:=by
 refine PySem.W.kla_eval hdef ?_
 have hg:s.heap.Ns mainGlobals X.mg:=I.mod.glob.keeps I.bk
 have C:PySem.W.CodeHd s.heap c T:=PySem.W.codeHd_of_K I.kIn hc
 obtain⟨bm,ob,b1,b2,b3,b4,b5,b6⟩:=hB
 have hB':s.heap.BuiltinsAt X.mg T:=⟨bm,ob,b1,b2,b3,b4,I.bk _ _ b5,b6⟩
 rcases hT with hT | ⟨c',o,vs,t,hT,hc',d,e⟩
 ·have hP:s.heap.get? T=some (PySem.W.tabObj #[]):=I.hok T _ hT
  have hgT:mainGlobals≠T:=fun q=>by
   obtain⟨o,es,ep,e,hd,_⟩:=hg
   rw [q,hP] at e;cases e;cases hd
  refine PySem.W.kla_makeFunction hcl I.ok.glob hg hcode C hP trivial rfl hgT hB' fun c' ctv h' tk hx hge hlt hrec htb=>?_
  obtain⟨c₂,oc,vs,t,e2,hoc,hd,hv⟩:=hrec
  cases e2
  have nc:H c'=none:=I.hok.fresh hge
  have szf:s.heap.objs.size≤h'.objs.size:=Nat.le_trans hge (Nat.le_of_lt hlt)
  have nf:H h'.objs.size=none:=I.hok.fresh szf
  have fT:h'.objs.size≠T:=fun z=>by rw [z,hT] at nf;cases nf
  have cT:c'≠T:=fun z=>by rw [z,hT] at nc;cases nc
  have cf:c'≠h'.objs.size:=Nat.ne_of_lt hlt
  have ff:(PySem.W.kla_obj "<lambda>" (X.env.qual ++ "<lambda>") params body scope clos ((X.mg "__name__").getD .none) c' ctv).isFreed=false:=rfl
  generalize hfo:PySem.W.kla_obj "<lambda>" (X.env.qual ++ "<lambda>") params body scope clos ((X.mg "__name__").getD .none) c' ctv=fo at ff
  generalize hH':upd (upd (upd H T (.tbl (#[]++#[rawInt lp.line,rawInt lp.col,.ref c']))) c' (.frz oc lV)) h'.objs.size (.frz fo lV)=H'
  have hf':H' h'.objs.size=some (.frz fo lV):=by rw [← hH',ag]
  have hc2:H' c'=some (.frz oc lV):=by rw [← hH',av cf,ag]
  have hT':H' T=some (.tbl (#[]++#[rawInt lp.line,rawInt lp.col,.ref c'])):=by rw [← hH',av (Ne.symm fT),av (Ne.symm cT),ag]
  have old:∀ b u,b≠T->H b=some u->H' b=some u:=fun b u n q=>by
   rw [← hH',av (aA q nf),av (aA q nc),av n];exact q
  have kp:∀ b o,b≠T->s.heap.get? b=some o->(h'.push fo).get? b=some o:=fun b o n q=>Heap.get?_push_of_some _ (hx b o n q)
  have un:Un X.fs [] H H' s.heap (h'.push fo):=by
   refine⟨fun b o q n _ _=>kp b o (fun z=>by rw [z,hT] at n;cases n) q,fun b o q n _ _=>⟨o.slots,kp b o (fun z=>by rw [z,hT] at n;cases n) q⟩,fun b o q n _=>?_,fun b o q _=>?_,fun b xs q=>old b _ (fun z=>by rw [z,hT] at q;cases q) q,fun b o u q=>old b _ (fun z=>by rw [z,hT] at q;cases q) q,fun b ps q=>?_⟩
   ·have l:=Heap.lt_size q
    rw [← hH',av (Nat.ne_of_lt (Nat.lt_of_lt_of_le l szf)),av (Nat.ne_of_lt (Nat.lt_of_lt_of_le l hge)),av (fun z=>by rw [z,hT] at n;cases n)]
    exact n
   ·by_cases z:b=T
    ·exact⟨_,by rw [z];exact Heap.get?_push_of_some _ htb⟩
    ·exact⟨o,kp b o z q⟩
   ·by_cases z:b=T
    ·rw [z,hT] at q
     cases q
     exact⟨_,by rw [z];exact hT'⟩
    ·exact⟨#[],by rw [old b _ z q];simp⟩
  have hok:fP X.prog X.w H' (h'.push fo):=fun b u q=>by
   by_cases z1:b=h'.objs.size
   ·rw [z1,hf'] at q
    cases q
    rw [z1]
    exact⟨Heap.get?_push_size _ ff,trivial,⟨_,Heap.get?_push_size _ ff⟩,fun _ _ _ _=>trivial⟩
   by_cases z2:b=c'
   ·rw [z2,hc2] at q
    cases q
    rw [z2]
    exact⟨Heap.get?_push_of_some _ hoc,trivial,⟨_,Heap.get?_push_of_some _ hoc⟩,fun _ _ _ _=>trivial⟩
   by_cases z3:b=T
   ·rw [z3,hT'] at q
    cases q
    rw [z3]
    exact Heap.get?_push_of_some _ htb
   ·rw [← hH',av z1,av z2,av z3] at q
    refine (I.hok b u q).stay (fun a v ha e=>kp a v (fun z=>?_) e) (fun a e=>old a _ (fun z=>by rw [z,hT] at e;cases e) e) (fun a xs e=>old a _ (fun z=>by rw [z,hT] at e;cases e) e)
    rcases ha with ha | ha
    ·exact z3 (ha.symm.trans z)
    ·rw [z,hT] at ha;cases ha
  have J:L2.Inv X pins σ H' { s with heap:=h'.push fo,toks:=tk }:=I.un un hok
  subst hfo
  exact h _ H' _ c' ctv oc vs t J old (.inr ⟨c',oc,vs,t,by rw [hT'];rfl,hc2,hd,hv⟩) nf hf' hc2 hd hv
 ·have hP:s.heap.get? T=some (PySem.W.tabObj #[rawInt lp.line,rawInt lp.col,.ref c']):=I.hok T _ hT
  refine PySem.W.kla_makeFunctionHit hcl I.ok.glob hg hcode C hP trivial wo hB' fun ctv h' tk hk hsz=>?_
  have nf:H h'.objs.size=none:=I.hok.fresh hsz
  have old:∀ (u:HO) b v,H b=some v->upd H h'.objs.size u b=some v:=fun u b v q=>by rw [av (aA q nf)];exact q
  refine h _ _ _ c' ctv o vs t (I.laid (o:=.frz (PySem.W.kla_obj "<lambda>" (X.env.qual ++ "<lambda>") params body scope clos ((X.mg "__name__").getD .none) c' ctv) lV) (t':=tk) (fun b u q=>Heap.get?_push_of_some _ (hk b u q)) hsz ⟨Heap.get?_push_size _ rfl,trivial,⟨_,Heap.get?_push_size _ rfl⟩,fun _ _ _ _=>trivial⟩) (fun b v _ q=>old _ b v q) (.inr ⟨c',o,vs,t,old _ _ _ hT,old _ _ _ hc',d,e⟩) nf ag (old _ _ _ hc') d e
end
theorem oZ {X:Cx} {f:Addr} {key:Nat->Int} {pins:List (Addr×Obj)} {s:Shared} {σ:L2.St} {H:Hp} {p:Addr} {n:Nat} {us:List Value} {Q:VK} (hc:X.calm=true)
  (I:L2.Inv X pins σ H s) (r:aZ [.ref p] us) (hp:H p=some (.rng 0 n)) (h64:n < 64)
  (turn:∀ (i:Nat) (t:Tok),i < n->∀ (pins:List (Addr×Obj)) (s:Shared),L2.Inv X pins σ H s->wpAny (model X.prog X.w) X.A.in1.in1 (call (.ref f) [.int (i:Int) t]) (fun u s2=>(∃ t,u=.int (key i) t)/\L2.Inv X pins σ H s2) (fun _ _=>False) s)
  (q:∀ (l:Addr) (ms:List Nat),ms.Perm (List.range n)->ms.Pairwise (fun a b=>key a≤key b)->H l=none->Q (.ref l) (upd H l (.lst (ms.map fun i:Nat=>V.int i)))) :
  wpAny (model X.prog X.w) X.A (call (.builtin "sorted") us [(Str.ofString "key", .ref f)]) (EP X pins σ Q) X.xe s:=by
 obtain⟨u,rfl,rx⟩:=fz r
 cases rx
 obtain⟨t,u,w,e⟩:=(show ObjOk X.prog X.w H s.heap p (.rng 0 n) from I.hok p _ hp)
 have hh:X.A.in1.handled=none:=I.ok.hd hc
 refine call_function_entry_kw kind_sorted plain_sorted entry_sorted (ksk_s1 _ _) ?_
 unfold Builtin.«sorted»
 refine wpAny_bind (m:=checkCount "sorted" 1 1 _) (wpAny_pure (wpAny_bind (lM (n:=n) hh (show IsRange s.heap p 0 (n:Int) 1 t u w from e) (small_one (by omega) (by omega) (by omega) (by omega)) (by rw [rangeSize_one];split <;> omega) (by omega) fun h1 tk acc kp hi=>?_)))
 obtain⟨hl,ha⟩:=hi
 have ll:acc.toList.length=n:=by rw [Array.length_toList,hl]
 have ha':∀ (i:Nat) (v:Value),acc.toList[i]?=some v->∃ t,v=.int (i:Int) t:=fun i v e=>by
  obtain⟨t,q⟩:=ha i v (by rw [← Array.getElem?_toList];exact e)
  exact⟨t,by rw [q,Int.mul_one,Int.zero_add]⟩
 refine wpAny_bind (wpAny_newList ?_ (by rw [ll,sizeLine_eq];omega))
 have I1:L2.Inv X pins σ H { s with heap:=h1,toks:=tk }:=I.kept kp
 have I2:L2.Inv X pins σ H { s with heap:=h1.push (seqObj "list" acc.toList.toArray 0),toks:=tk }:=I1.kept (t':=tk) fun b o e=>Heap.get?_push_of_some _ e
 have hoL:(h1.push (seqObj "list" acc.toList.toArray 0)).get? h1.objs.size=some (seqObj "list" acc.toList.toArray 0):=Heap.get?_push_size _ rfl
 have fp:eG X pins H h1.objs.size:=I1.fpOk (Nat.le_refl _) I1.fresh
 show wpAny _ _ _ _ _ { s with heap:=h1.push (seqObj "list" acc.toList.toArray 0),toks:=tk }
 refine wpAny_bind (wpAny_holding (wpAny_call_entry_kw slot_list_sort ⟨_,hoL,rfl⟩ entry_list_sort ?_ (ksk_l1 _ _)))
 show wpAny _ X.A.in1.in1 (Builtin.«list.sort» ⟨[.ref h1.objs.size],[(Str.ofString "key", .ref f)]⟩) _ _ _
 rw [ksk_t1]
 refine vE (kz:=(List.range n).map key) I2 fp hoL (by rw [List.length_map,List.length_range,ll]) (by rw [ll];exact h64) (fun i v kk hv hk pins' s' I'=>?_) fun s' out c I' ho hout=>⟨_,rfl,wpAny_pure ⟨_,rfl,?_⟩⟩
 ·have hi:i < n:=by rw [← ll];exact (List.getElem?_eq_some_iff.mp hv).1
  obtain⟨t',rfl⟩:=ha' i v hv
  rw [List.getElem?_map,List.getElem?_range hi] at hk
  have ek:key i=kk:=Option.some.inj hk
  subst ek
  exact turn i t' hi pins' s' I'
 ·obtain⟨ps,hperm,eout,hsort⟩:=hout
  have zl:((List.range n).map key).zip acc.toList=(List.range n).map fun i=>(key i,acc.toList.getD i .none):=by
   refine List.ext_getElem (by rw [List.length_zip,List.length_map,List.length_map,List.length_range,ll,Nat.min_self]) fun i h1 h2=>?_
   rw [List.length_map,List.length_range] at h2
   rw [List.getElem_zip,List.getElem_map,List.getElem_map,List.getElem_range]
   rw [List.getD_eq_getElem?_getD,List.getElem?_eq_getElem (by omega)]
   rfl
  rw [zl] at hperm
  obtain⟨ms,hms,eps⟩:∃ ms:List Nat,ms.Perm (List.range n)/\ps=ms.map fun i=>(key i,acc.toList.getD i .none):=by
   exact uR hperm _ rfl
  have inr:∀ i∈ms,i < n:=fun i hi=>List.mem_range.mp (hms.mem_iff.mp hi)
  have hv:aZ (ms.map fun i:Nat=>V.int i) out.toList:=by
   rw [eout,eps,List.map_map]
   have go:∀ l:List Nat,(∀ i∈l,i < n)->aZ (l.map fun i:Nat=>V.int i) (l.map (Prod.snd ∘ fun i=>(key i,acc.toList.getD i Value.none))):=by
    intro l
    induction l with
    | nil=>intro _;exact .nil
    | cons i l ih=>
     intro hl
     have hi:=hl i List.mem_cons_self
     have e:acc.toList[i]?=some (acc.toList[i]'(by omega)):=List.getElem?_eq_getElem _
     obtain⟨t,q⟩:=ha' i _ e
     refine .cons ⟨t,?_⟩ (ih fun j hj=>hl j (List.mem_cons_of_mem _ hj))
     show acc.toList.getD i Value.none=_
     rw [List.getD_eq_getElem?_getD,e,Option.getD_some,q]
   exact go ms inr
  have hso:ms.Pairwise (fun a b=>key a≤key b):=by
   rw [eps,List.pairwise_map] at hsort
   exact hsort.imp fun {a b} h=>h
  have hsz:(ms.map fun i:Nat=>V.int i).length≤sizeLine:=by rw [List.length_map,hms.length_eq,List.length_range,sizeLine_eq];omega
  have I4:L2.Inv X pins σ (upd H h1.objs.size (.lst (ms.map fun i:Nat=>V.int i))) s':=B6 I' fp ⟨hsz,out.toList,c,hv,by simpa using ho⟩
  exact⟨.ref h1.objs.size,_,I4,rfl,q _ ms hms hso fp.1⟩
def zW (T:Addr) (qual:Str) (lp:Pos) (j:Nat) (te:TE) (t:TA):TE:=fun σ H Q=>t σ H fun vs H1=>∃ (p:Addr) (n:Nat) (key:Nat->Int),vs=[.ref p]/\H1 p=some (.rng 0 n)/\n < 64/\o6 H1 T qual lp∧
 (∀ (i:Nat) (H':Hp) (Qk:VK),i < n->cN T H1 H'->Qk (.int (key i)) H'->te [some (.int i),(σ[j]?).getD none] H' Qk)∧
 ∀ (l:Addr) (ms:List Nat) (H':Hp),ms.Perm (List.range n)->ms.Pairwise (fun a b=>key a≤key b)->cN T H1 H'->o6 H' T qual lp->H' l=some (.lst (ms.map fun i:Nat=>V.int i))->H1 l=none->Q (.ref l) H'
theorem uy {X:Cx} {c c0 T:Addr} {x y:Str} {p kp pos lp:Pos} {e body:Expr} {params:Arguments} {scope:Scope} {t:TA} {te:TE} {j:Nat} (hcode:X.env.code=.ref c0) (hch:PySem.W.codeHdIn X.K c0 T=true) (hB:X.base.BuiltinsAt X.mg T) (hr:cu 2 X.A) (hc:X.calm=true)
  (S:nL scope x y) (hj:X.N[j]?=some y) (hk:X.env.kindOf y=some .cell) (hcy:X.env.cells.lookup y=some c) (hcl:closureFor scope X.env=pure [(y,c)]) (hdef:defaultsOf params X.env=([],[]))
  (bind:∀ (pm cv ctv w:Value),bindArgs (PySem.W.kla_fn "<lambda>" (X.env.qual ++ "<lambda>") params body scope [(y,c)] pm cv ctv) ⟨[w],[]⟩=pure [(x,w)])
  (hb:∀ A f cd s H,QE (Eu X A [x,y] (X.env.qual ++ "<lambda>") scope f cd [(y,c)] s H) body te)
  (hg:Gl X "sorted") (hm:X.mg "sorted" = none) (ha:QA X [e] t) (hs:starEach [e] X.env=[(false,eval e X.env)]:=by rfl) :
  QE X (.Call (.Name "sorted" p) [e] [⟨some "key", .Lambda params body scope lp,kp⟩] pos) (zW T (X.env.qual ++ "<lambda>") lp j te t):=by
 refine⟨fun pins s σ H Q I h=>?_⟩
 refine wpAny_Call_Name_kw (fF I hg hm PyProof.Rows.boot_sorted ?_)
 refine callWith_kw (bX (ha.p pos pins s σ H _ I h) fun us s1 ⟨vs,H1,I1,r1,q1⟩=>?_) (by rw [hs];rfl) (by rw [hs];rfl)
 obtain⟨p,n,key,rfl,hp,h64,hT,hbody,q⟩:=q1
 have nT:p≠T:=fun z=>by
  rcases hT with hT | ⟨_,_,_,_,hT,_⟩
  ·rw [z,hT] at hp;cases hp
  ·rw [z,hT] at hp;cases hp
 refine kws_cons (vD I1 hcode hch hT hB hcl hdef fun f H2 s2 c' ctv o vs' t' I2 sm tb nf hf2 hc2 od ov=>kws_nil ?_)
 refine oZ (key:=key) hc I2 r1 (sm p _ nT hp) h64 (fun i t hi pins' s' I'=>?_) fun l ms hms hso hl=>?_
 ·have hA:X.A.in1.in1.frames=some X.stack:=I1.ok.frames
  refine wpAny_call (codeAny_mono (vC (v:=.int (i:Nat)) (Qk:=fun v H'=>v=.int (key i)/\H'=H2) I' S hA (I1.ok.hd hc) hr.in1.in1.depth hj hk hcy (I'.hok f _ hf2).1 (o6.code I' hc2 od ov) (bind _ _ _) (hb _ _ _ _ _).p ⟨t,rfl⟩ (hbody i H2 _ hi sm ⟨rfl,rfl⟩)) fun r s2 hq=>?_)
  cases r with
  | error e=>exact hq.elim
  | ok fl=>
   cases fl with
   | ret u=>
    obtain⟨v2,H3,I3,rv2,rfl,rfl⟩:=I'.after hq
    obtain⟨t3,rfl⟩:=rv2
    exact⟨⟨t3,rfl⟩,I3⟩
   | next=>exact False.elim hq
   | brk=>exact False.elim hq
   | cont=>exact False.elim hq
 ·have k2:∀ b u,H2 b=some u->upd H2 l (.lst (ms.map fun i:Nat=>V.int i)) b=some u:=fun b u e=>by rw [av (aA e hl)];exact e
  refine q l ms _ hms hso (fun b u nb e=>k2 b u (sm b u nb e)) ?_ ag ?_
  ·rcases tb with tb | ⟨c,o,vs,t,h1,h2,h3⟩
   ·exact .inl (k2 _ _ tb)
   ·exact .inr ⟨c,o,vs,t,k2 _ _ h1,k2 _ _ h2,h3⟩
  ·cases e:H1 l with
   | none=>rfl
   | some u=>
    by_cases z:l=T
    ·rcases tb with tb | ⟨_,_,_,_,tb,_⟩
     ·rw [z,tb] at hl;cases hl
     ·rw [z,tb] at hl;cases hl
    ·rw [sm l u z e] at hl;cases hl
end B
namespace B
open PySem PySem.Spec L2 PyProof.Rows
def D4 (H:Hp) (T:Addr):Prop:=∀ b,H b=none∨(∃ o xs,H b=some (.frz o (.lst xs)))∨(b=T/\H b=some (.tbl #[]))
theorem rj {P:Program} {w:World} {K:PySem.W.Frag} {mg mb:Str->Option Value} {CX:l5} {k:Nat} {fa a c T:Addr} {fd:FuncData} {x:Str} {sp:Sp} {s₁:Shared} {vs:List Value} {ns:List Int}
  (KX:K.In s₁.heap) (hns:s₁.heap.Ns mainGlobals mg) (hb:s₁.heap.Ns builtinsNs mb) (hbb:∀ x:Str,x ≠ "__name__" -> mb x=bootBuiltins x) (hlim:s₁.heap.NoLimit) (hg:s₁.gens=#[])
  (hT:s₁.heap.get? T=some (PySem.W.tabObj #[])) (hC:PySem.W.codeHdIn K c T=true) (hnt:PySem.W.noTabs K=true) (hbm:s₁.heap.BuiltinsAt mg T)
  (ha:s₁.heap.get? a=some { cls:=.type "list", data:=.seq vs.toArray }) (hi:IntsAre vs ns) (hl:ns.length≤sizeLine) (hr:cu k callerA)
  (F:∀ base:Heap,K.In base->base.Ns mainGlobals mg->base.BuiltinsAt mg T->bB P w K mg base CX k fa fd [x] sp) (hbind:∀ (s:Shared) (u:Value),BindsTo s fd ⟨[u],[]⟩ [(x,u)])
  (hsp:∀ H:Hp,H T=some (.tbl #[])->aR K H a (ns.map V.int)->sp [.ref a] H (fun v _=>v=.bl true) fun _ _ _=>False)
  (hCX:∀ H e s',CX [] H s₁ (fun _ _ _=>False) e s'->False) :
  codeAny (model P w) callerA (.call (.ref fa) ⟨[.ref a],[]⟩) (fun r s'=>r=.ok (.ret (.bool true))/\OldK s₁.heap s'.heap/\s'.os=s₁.os/\AllBare s'.gens) s₁:=by
 have rv:=j6 hi
 have lenV:=hi.length
 have aT:a≠T:=fun z=>by rw [z,hT] at ha;cases ha
 have kT:∀ {o:Obj},K.lookup T≠some o:=fun {o} e=>by
  have h2:=List.all_eq_true.mp hnt (T,o) (PySem.W.mem_of_lookupK e)
  have e2:=KX T o e
  rw [hT] at e2
  cases e2
  exact absurd (show false=true from h2) Bool.false_ne_true
 have core:∀ H:Hp,D4 H T->H T=some (.tbl #[])->aR K H a (ns.map V.int)->fP P w H s₁.heap->(∀ b,H b≠none->b=a∨b=T)->(H a≠none->K.lookup a=none)→
   codeAny (model P w) callerA (.call (.ref fa) ⟨[.ref a],[]⟩) (fun r s'=>r=.ok (.ret (.bool true))/\OldK s₁.heap s'.heap/\s'.os=s₁.os/\AllBare s'.gens) s₁:=by
  intro H hO hHT hS hok hA hK
  have base_of:∀ {b:Addr} {o:Obj},s₁.heap.get? b=some o->H b=none->(jT s₁.heap H).get? b=some o:=fun e n=>vP e n
  have noA:∀ {b:Addr} {o:Obj},s₁.heap.get? b=some o->(∀ v e,o.data≠.seq v e)->(∀ v,o.data≠.fields v)->H b=none:=fun {b o} e d1 d2=>by
   cases q:H b with
   | none=>rfl
   | some u=>
    rcases hA b (by rw [q];simp) with e' | e'
    ·subst e'
     rw [ha] at e;cases e
     exact absurd rfl (d1 _ _)
    ·subst e'
     rw [hT] at e;cases e
     exact absurd rfl (d2 _)
  have nsK:∀ {b:Addr} {m:Str->Option Value},s₁.heap.Ns b m->(jT s₁.heap H).Ns b m:=fun {b m} ⟨o,es,ep,e,d,r⟩=>⟨o,es,ep,base_of e (noA e (fun v e z=>by rw [d] at z;cases z) fun v z=>by rw [d] at z;cases z),d,r⟩
  have hKb:K.In (jT s₁.heap H):=fun b o e=>base_of (KX b o e) (by
   cases q:H b with
   | none=>rfl
   | some u=>
    rcases hA b (by rw [q];simp) with e' | e'
    ·subst e'
     rw [hK (by rw [q];simp)] at e;cases e
    ·subst e'
     exact absurd e kT)
  have hM:Mod K mg (jT s₁.heap H):=⟨hKb,nsK hns,⟨mb,nsK hb,hbb⟩,let ⟨mc,h1,h2⟩:=hlim;⟨mc,nsK h1,h2⟩⟩
  have hbm':(jT s₁.heap H).BuiltinsAt mg T:=by
   obtain⟨bm,ob,b1,b2,b3,b4,b5,b6,b7,b8⟩:=hbm
   exact⟨bm,ob,b1,b2,b3,b4,base_of b5 (noA b5 (fun v e z=>by rw [b8] at z;cases z) fun v z=>by rw [b8] at z;cases z),b6,b7,b8⟩
  have e0:jW P w K mg (jT s₁.heap H) callerA [] s₁ H:=⟨rfl,hM,fun b o e=>xX e,Nat.le_of_eq (rE _ _),trivial,fun b hb=>absurd (show b∈([]:List Addr) from hb) (by simp),hok,.of_eq hg⟩
  refine codeAny_mono ((F _ hKb (nsK hns) hbm').run callerA [] s₁ H ⟨[.ref a],[]⟩ [.ref a] [.ref a] _ _ hr e0 (hbind s₁ (.ref a)) (.cons rfl .nil) (hsp H hHT hS)) fun r s' h=>?_
  cases r with
  | error e=>exact (hCX H e s' h).elim
  | ok fl=>
   cases fl with
   | next=>exact False.elim h
   | brk=>exact False.elim h
   | cont=>exact False.elim h
   | ret u=>
    obtain⟨v,H',os,bare,un,hok',r',q⟩:=h
    have q':v=.bl true:=q
    subst q'
    obtain rfl:u=Value.bool true:=r'
    have was:∀ b o,s₁.heap.get? b=some o->b≠T->s'.heap.get? b=some o:=fun b o e nb=>by
     cases q:H b with
     | none=>exact un.keep b o e q (by intro z;exact absurd (show b∈([]:List Addr) from z) (by simp)) (by simp)
     | some u=>
      rcases hO b with z | ⟨ob,xs,z⟩ | ⟨z,_⟩
      ·rw [q] at z;cases z
      ·have z2:=un.frzs b ob _ z
       obtain⟨e1,_⟩:=hok b _ z
       obtain⟨e2,_⟩:=hok' b _ z2
       rw [e] at e1;cases e1
       exact e2
      ·exact absurd z nb
    obtain⟨more,eT⟩:=un.tbls T _ hHT
    have eT':s'.heap.get? T=some { cls:=.none,data:=.fields (#[]++more) }:=hok' T _ eT
    refine⟨rfl,⟨fun b o e=>?_,fun b o e=>?_⟩,os,bare⟩
    ·by_cases z:b=T
     ·subst z
      rw [hT] at e
      cases e
      exact .inr (.inl ⟨((PySem.W.codeHd_of_K KX hC).tab hT).isCodeTable,rfl,#[],more,rfl,eT'⟩)
     ·exact .inl (was b o e z)
    ·by_cases z:b=T
     ·subst z;exact⟨_,eT'⟩
     ·exact⟨o,was b o e z⟩
 cases hk:K.lookup a with
 | some o=>
  have e:=KX a o hk
  rw [ha] at e
  cases e
  refine core (fun b=>if b=T then some (.tbl #[]) else none) (fun b=>?_) (if_pos rfl) (.inr ⟨_,vs.toArray,_,hk,rfl,rfl,rfl,by rw [List.size_toArray,lenV];exact hl,by simpa using rv⟩) (fun b u z=>?_) (fun b z=>?_) fun z=>absurd (if_neg aT) z
  ·by_cases hb:b=T
   ·exact .inr (.inr ⟨hb,if_pos hb⟩)
   ·exact .inl (if_neg hb)
  ·by_cases hb:b=T
   ·have z':=(if_pos hb).symm.trans z
    cases z'
    subst hb
    exact hT
   ·have z':=(if_neg hb).symm.trans z
    cases z'
  ·by_cases hb:b=T
   ·exact .inr hb
   ·exact absurd (if_neg hb) z
 | none=>
  refine core (fun b=>if b=T then some (.tbl #[]) else if b=a then some (.frz { cls:=.type "list", data:=.seq vs.toArray } (.lst (ns.map V.int))) else none) (fun b=>?_) (if_pos rfl) (.inl (.inr ⟨{ cls:=.type "list", data:=.seq vs.toArray },(if_neg aT).trans (if_pos rfl)⟩)) (fun b u z=>?_) (fun b z=>?_) fun _=>hk
  ·by_cases hb:b=T
   ·exact .inr (.inr ⟨hb,if_pos hb⟩)
   by_cases ha:b=a
   ·exact .inr (.inl ⟨_,_,(if_neg hb).trans (if_pos ha)⟩)
   ·exact .inl ((if_neg hb).trans (if_neg ha))
  ·by_cases hb:b=T
   ·have z':=(if_pos hb).symm.trans z
    cases z'
    subst hb
    exact hT
   by_cases h2:b=a
   ·have z':=((if_neg hb).trans (if_pos h2)).symm.trans z
    cases z'
    subst h2
    exact⟨ha,by rw [List.length_map];exact hl,vs,_,rv,ha⟩
   ·have z':=((if_neg hb).trans (if_neg h2)).symm.trans z
    cases z'
  ·by_cases hb:b=T
   ·exact .inr hb
   by_cases h2:b=a
   ·exact .inl h2
   ·exact absurd ((if_neg hb).trans (if_neg h2)) z
theorem walk_ofT {l:PySem.W.OpenLaw} {n k:Nat} {q:Program} {loose:List Str} {XP:(Str->Option Value)->Heap->Prop} {YP:World->Heap->Prop} {d:DefRec} {K:Params->PySem.W.Frag} {CX:World->l5} {c T:Addr} {sp:World->Sp} {x:Str}
  (hn:l.most=some n) (hn2:n≤sizeLine) (hdf:d.params.defaults=[]) (hr:cu k callerA)
  (hY:∀ (w:World) (h:Heap),YP w h->(K w.params).In h/\h.get? T=some (PySem.W.tabObj #[]))
  (hC:∀ w:World,PySem.W.codeHdIn (K w.params) c T=true) (hnt:∀ w:World,PySem.W.noTabs (K w.params)=true)
  (F:∀ (w:World) (mg:Str->Option Value) (fa:Addr) (h:Heap),(K w.params).In h->h.Ns mainGlobals mg->mg d.name=some (.ref fa)→
   ∃ fd:FuncData,(∀ (s:Shared) (u:Value),BindsTo s fd ⟨[u],[]⟩ [(x,u)])∧
    ∀ base:Heap,(K w.params).In base->base.Ns mainGlobals mg->base.BuiltinsAt mg T->bB l.prog w (K w.params) mg base (CX w) k fa fd [x] (sp w))
  (hsp:∀ (w:World) (H:Hp) (a:Addr) (ns:List Int),ns.length≤n->H T=some (.tbl #[])->aR (K w.params) H a (ns.map V.int)->sp w [.ref a] H (fun v _=>v=.bl true) fun _ _ _=>False)
  (hCX:∀ (w:World) (H:Hp) (s:Shared) (e:Value) (s':Shared),CX w [] H s (fun _ _ _=>False) e s'->False) :
  PySem.W.WalkO q loose XP YP l.row.toRowW d [] (fun f vs=>PySem.call f vs):=by
 refine Att.attach_call hn hdf fun w s₀ s₁ mg mb fa o pm cd doc a vs ns G Y ho hd hcd hmg hobj hints hlen hg=>?_
 obtain⟨KX,hT⟩:=hY w _ Y
 obtain⟨fd,hb,hF⟩:=F w mg fa _ KX G.T.g hmg
 have hbm:s₁.heap.BuiltinsAt mg T:=by
  obtain⟨bm,ob,a1,a2,a3,a4,a5,a6⟩:=G.T.bmain
  refine⟨bm,ob,a1,a2,fun z=>?_,fun z=>?_,a3,a4,a5,a6⟩
  ·obtain⟨o,es,ep,e,hd,_⟩:=G.T.g
   rw [z,e] at a3;cases a3;rw [hd] at a6;cases a6
  ·rw [z,hT] at a3;cases a3;cases a4
 exact rj KX G.T.g G.T.b G.T.builtins G.T.nolimit hg hT (hC w) (hnt w) hbm hobj hints (Nat.le_trans hlen hn2) hr hF hb (fun H hO hS=>hsp w H a ns hlen hO hS) fun H e s'=>hCX w H s₁ e s'
theorem Fun.okC {P:Program} {w:World} {K:PySem.W.Frag} {mg:Str->Option Value} {base:Heap} {x qual:Str} {st:Stmt} {f c:Addr} {fd:FuncData} {N ps:List Str} {k:Nat} {sp:Sp} (F:Fun K x qual st f fd) (hc:fd.code=.ref c) (S:aH N ps (au st)) (len:∀ vs H Q E,sp vs H Q E->vs.length=ps.length)
  (hbody:∀ (A:Around) (outer:List Env) (s:Shared) (H:Hp) (vs:List V) (Q:VK) (E:XK),cu k (A.deeper (envOfC qual (au st) s.heap.objs.size f (.ref c)))->sp vs H Q E→
   ∃ t,jV (bw dk P w K mg base N qual (au st) f (.ref c) A outer s H E).nox (cI st) t/\t { nx:=fun _ H'=>Q .non H',rt:=Q } (d6 N vs) H):bB P w K mg base dk (k+1) f fd ps sp:=by
 obtain⟨oc,od,kV,doc,pm,an,cdv,ct,osl,rfl,lk,hcd⟩:=F.ex
 have hc':cdv=.ref c:=hc
 subst hc'
 refine vV lk hcd S len fun A outer s H vs Q E hr hsp=>?_
 obtain⟨t,h,q⟩:=hbody A outer s H vs Q E hr hsp
 exact⟨t,h.nox,q⟩
theorem iJ {e:Value} {env env':Env} (h:env.frame=env'.frame):noteFrame e env=noteFrame e env':=by
 unfold noteFrame PySem.frameOf
 rw [h]
def HU (X:Cx) (C:Addr) (fp:List Addr) (s:Shared) (H:Hp) (E:XK):Value->Shared->Prop:=fun e s'=>∃ (x B T:Addr) (dx:Option Addr) (H':Hp),e=.ref x/\s'.os=s.os/\AllBare s'.gens/\Un (iW X.stack) fp H H' s.heap s'.heap/\fP X.prog X.w H' s'.heap∧
 s.heap.get? x=none/\s.heap.get? T=none/\H' x=none/\H' T=none/\dB s'.heap x B T dx .none/\E (.ref B) dx H'/\x≠C/\T≠C/\∃ m,s'.heap.Ns C m/\H' C=none
def B2 (X:Cx) (N':List Str) (scope:Scope) (cl:List (Str×Addr)) (C:Addr) (fp:List Addr) (pins q:List (Addr×Obj)) (s:Shared) (H:Hp) (E:XK):Cx:=
 { X with N:=N',s₀:=s,H₀:=H,env:=compEnvC scope cl C X.env,outer:=X.stack,stack:=X.stack,ex:=fp,fn:=fun _=>false,pn:=(X.pn++pins)++q,xe:=HU X C fp s H E }
section
variable {X:Cx} {N':List Str} {scope:Scope} {cl:List (Str×Addr)} {C:Addr} {fp:List Addr} {pins q:List (Addr×Obj)} {s s':Shared} {H H':Hp} {E:XK} {σ:L2.St}
theorem Inv.toX (I:Inv (fq X N' scope cl C fp pins s H) ([]++q) σ H' s'):Inv (B2 X N' scope cl C fp pins q s H E) [] σ H' s':=
 ⟨⟨I.ok.mod,I.ok.kind,I.ok.glob,I.ok.blt,I.ok.above,I.ok.inj,I.ok.has,I.ok.cab,I.ok.hd,I.ok.frames,I.ok.stk,I.ok.exf,I.ok.bs,I.ok.bsz,I.ok.noex,I.ok.exfs,I.ok.funs,I.ok.frf⟩,I.os,I.bare,I.base,I.loc,I.cell,I.free,I.freeC,fun p hp=>I.pin p (by
  have z:p∈((X.pn++pins)++q)++[]:=hp
  rw [List.append_nil] at z;exact z),I.hok,I.len⟩
theorem Inv.ofX (I:Inv (B2 X N' scope cl C fp pins q s H E) [] σ H' s'):Inv (fq X N' scope cl C fp pins s H) ([]++q) σ H' s':=
 ⟨⟨I.ok.mod,I.ok.kind,I.ok.glob,I.ok.blt,I.ok.above,I.ok.inj,I.ok.has,I.ok.cab,I.ok.hd,I.ok.frames,I.ok.stk,I.ok.exf,I.ok.bs,I.ok.bsz,I.ok.noex,I.ok.exfs,I.ok.funs,I.ok.frf⟩,I.os,I.bare,I.base,I.loc,I.cell,I.free,I.freeC,fun p hp=>I.pin p (by
  have z:p∈(X.pn++pins)++([]++q):=hp
  show p∈((X.pn++pins)++q)++[]
  rw [List.append_nil];exact z),I.hok,I.len⟩
theorem zi (hq:∀ b∈fp,∃ o,(b,o)∈q):eM (nP X.prog X.w) (B2 X N' scope cl C fp pins q s H E) E:=by
 intro pins' σ H1 s1 e s2 I hx
 obtain⟨x,B,T,dx,H2,rfl,ho,hb,un,hok,nx,nT,hx2,hT2,tr,hE⟩:=hx
 have I2:Inv (B2 X N' scope cl C fp pins q s H E) pins' σ H2 s2:=I.call' ho un hok hb (fun b hb=>by cases hb)
 have old:∀ b,s1.heap.get? b=none->s.heap.get? b=none:=fun b n=>by
  cases z:s.heap.get? b with
  | none=>rfl
  | some o=>
   exfalso
   by_cases hf:b∈fp
   ·obtain⟨o',ho'⟩:=hq b hf
    have:=(I.pin (b,o') (List.mem_append_left _ (List.mem_append_right _ ho'))).1
    rw [n] at this;cases this
   ·obtain⟨o',e⟩:=I.base.there b o z hf
    rw [n] at e;cases e
 have neC:∀ b,s1.heap.get? b=none->b≠C:=fun b n z=>by
  obtain⟨m,⟨o,_,_,e,_⟩,_⟩:=I.loc
  rw [z] at n
  have e':s1.heap.get? C=some o:=e
  rw [n] at e';cases e'
 obtain⟨m,hm,_⟩:=I2.loc
 exact⟨x,B,T,dx,H2,rfl,I2.os,I2.bare,I2.base,I2.hok,old x nx,old T nT,hx2,hT2,tr,hE,neC x nx,neC T nT,m,hm,I2.free⟩
end
def o4 (X:Cx) (E:XK):Prop:=∀ (pins:List (Addr×Obj)) (σ:L2.St) (H:Hp) (s:Shared) (a C T:Addr) (dx:Option Addr) (fl:Value),L2.Inv X pins σ H s->H a=none->cO X pins a->H T=none->cO X pins T->dB s.heap a C T dx fl->E (.ref C) dx H->X.xe (.ref a) s
section
variable {M:Model} {A:Around} {s:Shared} {e C T:Addr} {dx:Option Addr} {fl:Value} {Ex:Value->Shared->Prop}
theorem yr {fr:Option Addr} {Q:Unit->Shared->Prop} (t:dB s.heap e C T dx fl) (h:∀ h',eF [] [T] s.heap h'->dB h' e C T dx (fr.elim Value.none fun f=>rawInt f)->Q () { s with heap:=h' }):wpAny M A (setFlight (.ref e) fr) Q Ex s:=by
 obtain⟨oe,vs,oT,ts,q1,q2,q3,q4,q5,q6,q7,q8,q9⟩:=t
 have z3:3 < ts.size:=(Array.getElem?_eq_some_iff.mp q9).1
 unfold setFlight
 refine wpAny_bind (wpAny_field q1 q4 q5 ?_)
 rw [if_pos (by simp)]
 refine wpAny_setField q7 q8 z3 (h _ eF.upd ?_)
 have d3:=Obj.data_mapFields q8 (·.setIfInBounds 3 (fr.elim Value.none fun f=>rawInt f))
 exact⟨oe,vs,_,_,(Heap.get?_update_other _ _ q6).trans q1,q2,q3,q4,q5,q6,Heap.get?_update_self _ q7 (Obj.isFreed_of_fields d3),d3,by simp [z3]⟩
theorem xR {what:String} {cenv:Env} {α:Type} {Q:α->Shared->Prop} (t:dB s.heap e C T dx fl) (h:∀ h',eF [] [T] s.heap h'->dB h' e C T dx (cenv.frame.elim Value.none fun f=>rawInt f)->Ex (.ref e) { s with heap:=h' }):wpAny M A (passOn what (.ref e) cenv:Sem α) Q Ex s:=by
 obtain⟨oe,vs,oT,ts,q1,q2,q3,q4,q5,q6,q7,q8,q9⟩:=id t
 unfold PySem.passOn
 refine wpAny_bind (wpAny_field q1 q4 q5 ?_)
 rw [if_neg (by simp)]
 refine wpAny_bind (yr t fun h' k t'=>?_)
 exact wpAny_throw (h h' k t')
theorem xZ {env:Env} {L:Addr} {Q:Unit->Shared->Prop} (hf:env.frame=some L) (t:dB s.heap e C T dx (rawInt L)) (h:Q () s):wpAny M A (noteFrame (.ref e) env) Q Ex s:=by
 obtain⟨oe,vs,oT,ts,q1,q2,q3,q4,q5,q6,q7,q8,q9⟩:=t
 unfold noteFrame
 simp only [hf]
 refine wpAny_bind (wpAny_field q1 q4 q5 ?_)
 rw [if_pos (by simp)]
 refine wpAny_bind (wpAny_field q7 q8 q9 ?_)
 rw [if_pos (by simp)]
 exact wpAny_pure h
end
section
variable {M:Model} {A:Around} {E:Value->Shared->Prop} {s:Shared} {base:Heap} {env:Env} {outer:List Env} {L e C T:Addr} {dx:Option Addr} {fl:Value}
theorem Dx {Q:Unit->Shared->Prop} (hfr:A.frames=some (env :: outer)) (hl:s.heap.FunFrames base (env :: outer)) (hf:env.frame=some L) (t:dB s.heap e C T dx fl) (ne:fl≠rawInt L)
  (h:∀ h' T',eF (iW (env :: outer)) [T,e] s.heap h'->s.heap.get? T'=none->dB h' e C T' dx (rawInt L)->Q () { s with heap:=h' }):wpAny M A (noteFrame (.ref e) env) Q E s:=by
 obtain⟨oe,vs,oT,ts,q1,q2,q3,q4,q5,q6,q7,q8,q9⟩:=t
 unfold noteFrame
 simp only [hf]
 refine wpAny_bind (wpAny_field q1 q4 q5 ?_)
 rw [if_pos (by simp)]
 refine wpAny_bind (wpAny_field q7 q8 q9 ?_)
 rw [if_neg (by simpa using ne)]
 refine wpAny_bind (wpAny_setField q7 q8 (Array.getElem?_eq_some_iff.mp q9).1 ?_)
 have k1:eF (iW (env :: outer)) [T] s.heap (s.heap.update T (Obj.mapFields (·.setIfInBounds 3 Value.none))):=eF.upd
 have nf:∀ b o,s.heap.get? b=some o->(∀ us,o.data≠.fields us)->b∉[T]:=fun b o hb hn z=>by
  rw [List.mem_singleton.mp z,q7] at hb;cases hb;exact hn ts q8
 refine oW (base:=base) hfr (hl.of_keeps fun b o hb hn=>?_) hf ((Heap.get?_update_other _ _ q6).trans q1) q4 (Array.getElem?_eq_some_iff.mp q5).1 q2 q3 fun h' T' k nT t'=>h h' T' (k1.trans k) ?_ t'
 ·obtain⟨sl,z⟩:=k1.slot b o (nf b o hb hn) hb
  exact⟨_,z,rfl⟩
 ·cases q:s.heap.get? T' with
  | none=>rfl
  | some o=>
   exfalso
   by_cases z:T'=T
   ·have d3:=Obj.data_mapFields q8 (·.setIfInBounds 3 Value.none)
    rw [z,Heap.get?_update_self _ q7 (Obj.isFreed_of_fields d3)] at nT;cases nT
   ·rw [Heap.get?_update_other _ _ (Ne.symm z)] at nT;rw [q] at nT;cases nT
end
section
variable {P:Program} {w:World} {K:PySem.W.Frag} {mg:Str->Option Value} {base:Heap} {N:List Str} {qual:Str} {scope:Scope} {f:Addr} {cd:Value} {A:Around} {outer:List Env} {s:Shared} {H:Hp} {E:XK}
theorem sk:o4 (bw (nP P w) P w K mg base N qual scope f cd A outer s H E) E:=by
 intro pins σ H1 s1 a C T dx fl I ha na hT nT tr hE
 show wpAny (model P w) _ (leaving _ _) _ _ s1
 unfold leaving
 by_cases z:fl=rawInt (bw (nP P w) P w K mg base N qual scope f cd A outer s H E).env.locals
 ·subst z
  refine wpAny_bind (xZ rfl tr (gU tr fun h2 k2 t2=>?_))
  have I2:=B.Inv.leftK (tk:=s1.toks) I (fun b hb=>by rw [List.mem_singleton.mp hb];exact⟨hT,nT⟩) k2.any
  exact⟨a,C,T,dx,H1,rfl,I2.os,I2.bare,I2.base,I2.hok,na.st,nT.st,ha,hT,t2,hE⟩
 ·have hfrm:(bw (nP P w) P w K mg base N qual scope f cd A outer s H E).A.frames=some ((bw (nP P w) P w K mg base N qual scope f cd A outer s H E).env :: outer):=I.ok.frames
  refine wpAny_bind (Dx (base:=base) hfrm I.stack rfl tr z fun h1 T' k1 nT' t1=>?_)
  refine gU (s:={ s1 with heap:=h1 }) t1 fun h2 k2 t2=>?_
  have nt:=B.Inv.newAt I rfl nT'
  have hT':=B.Inv.none_of I nT'
  have I2:=B.Inv.leftK (tk:=s1.toks) I (fun b hb=>by
   simp only [List.cons_append,List.nil_append,List.mem_cons,List.not_mem_nil,or_false] at hb
   rcases hb with rfl | rfl | rfl
   ·exact⟨hT,nT⟩
   ·exact⟨ha,na⟩
   ·exact⟨hT',nt⟩) (k1.trans k2.any)
  exact⟨a,C,T',dx,H1,rfl,I2.os,I2.bare,I2.base,I2.hok,na.st,nt.st,ha,hT',t2,hE⟩
end
section
variable {prog:Program} {w:World} {A:Around} {R:Result->Shared->Prop} {s:Shared}
theorem oY {elt target iter:Expr} {ifs:List Expr} {scope:Scope} {pos:Pos} {it acc:Value} {env:Env} (I:Nat->Shared->Prop)
  (turn:∀ n s,I n s->wpAny (model prog w) A (pyNext it) (fun r s₁=>match r with
   | none=>R (.ok .next) s₁
   | some v=>wpAny (model prog w) A (letOwnedTupleGo target it v) (fun _ s₁'=>wpAny (model prog w) A (assign target env v) (fun _ s₂=>
     wpAny (model prog w) A (forIn ifs true fun c r=>if r=true then do let ok ← isTrue c env (eval c env);pure (ForInStep.yield ok) else pure (ForInStep.yield r)) (fun ok s₃=>
      if ok=true then wpAny (model prog w) A (eval elt env) (fun x s₄=>
       wpAny (model prog w) A (call (.builtin "list.append") [acc,x]) (fun _ s₅=>∃ m,m < n/\I m s₅) (fun _ _=>False) s₄) (fun x s'=>wpAny (model prog w) A (noteFrame x env) (fun _ s''=>R (.error x) s'') (fun x s''=>R (.error x) s'') s') s₃
      else ∃ m,m < n/\I m s₃) (fun _ _=>False) s₂) (fun _ _=>False) s₁') (fun _ _=>False) s₁) (fun _ _=>False) s)
  (n:Nat) (h:I n s):codeAny (model prog w) A (.compLoop (.ListComp elt [⟨target,iter,ifs,0⟩] scope pos) 0 it acc env) R s:=by
 refine codeAny_loop rfl I (fun n s hI=>?_) n h
 show wpAny _ A ((compTurn (.ListComp elt [⟨target,iter,ifs,0⟩] scope pos) 0 it acc env).onRaise (fun x=>do noteFrame x env;theTreesLotGoes x)) _ _ s
 refine wpAny_noted ?_
 rw [compTurn_list]
 refine wpAny_bind (wpAny_standAt (wpAny_bind (wpAny_mono (turn n s hI) (fun r s₁ h₁=>?_) fun _ _ h'=>h'.elim)))
 cases r with
 | none=>exact wpAny_pure h₁
 | some v=>
  refine wpAny_bind (wpAny_mono h₁ (fun _ s₁' h₁'=>?_) fun _ _ h'=>h'.elim)
  refine wpAny_bind (wpAny_mono h₁' (fun _ s₂ h₂=>wpAny_bind (wpAny_mono h₂ (fun ok s₃ h₃=>?_) fun _ _ h'=>h'.elim)) fun _ _ h'=>h'.elim)
  cases ok with
  | false=>exact wpAny_pure ⟨rfl,h₃⟩
  | true=>
   exact wpAny_bind (wpAny_bind (wpAny_mono h₃ (fun x s₄ h₄=>wpAny_bind (wpAny_mono h₄ (fun _ s₅ h₅=>wpAny_pure (wpAny_pure ⟨rfl,h₅⟩)) fun _ _ h'=>h'.elim)) fun _ _ h'=>h'))
end
section
variable {X:Cx} {N':List Str} {scope:Scope} {cl:List (Str×Addr)} {src:List (Option Nat)} {tg iter elt:Expr} {ifs:List Expr} {wi:TI} {g:TG} {tt:TT} {te:TE} {pos:Pos} {E:XK}
theorem rM (hc:X.calm=true) (hi:PI X tg iter wi) (hg:∀ C fp pins s H,PG (fq X N' scope cl C fp pins s H) tg g) (ht:∀ C fp pins s H,zH (fq X N' scope cl C fp pins s H) ifs tt)
  (he:∀ C fp pins q s H,(∀ b∈fp,∃ o,(b,o)∈q)->PE (B2 X N' scope cl C fp pins q s H E) elt te) (hex:X.ex=[]) (hst:X.stack=X.env :: X.outer) (hfr:X.env.frame=some X.env.locals) (hfree:cq X scope cl N' src) (hcell:∀ x∈scope.names,x.2≠.cell) (hkind:scope.kind=.function) (hcl:di X scope cl)
  {RR:Value->Addr->Result->Shared->Prop} {pins:List (Addr×Obj)} {s:Shared} {σ:L2.St} {H:Hp} {Q:VK} (I:Inv X pins σ H s) (h:iC wi src g tt te σ H Q)
  (hRE:∀ D C H' s' x B T dx fl,Inv X pins σ H' s'->nK X pins H' C->(∃ m,s'.heap.Ns C m)->cO X pins x->cO X pins T->H' x=none->H' T=none->x≠C->T≠C->dB s'.heap x B T dx fl->E (.ref B) dx H'->RR (.ref D) C (.error (.ref x)) s')
  (hRR:∀ D C H' s',Q (.ref D) H'->(∃ m,s'.heap.Ns C m)->Inv X pins σ H' s'->nK X pins H' C->RR (.ref D) C (.ok .next) s') :
  wpAny (model X.prog X.w) X.A (eval iter X.env) (fun x s₁=>wpAny (model X.prog X.w) X.A (pyIter x) (fun itv s₂=>wpAny (model X.prog X.w) X.A (newList []) (fun acc s₃=>
   wpAny (model X.prog X.w) X.A (newFunctionEnv scope X.env.globals cl [] X.env.qual none .none (some X.env)) (fun cenv s₄=>
    codeAny (model X.prog X.w) X.A (.compStart (.ListComp elt [⟨tg,iter,ifs,0⟩] scope pos) 0 itv acc { cenv with scope:=relabel scope X.env }) (RR acc cenv.locals) s₄) X.xe s₃) X.xe s₂) X.xe s₁) X.xe s:=by
 refine bX (hi pins s σ H _ I h) fun v s1 h1=>bX h1 fun itv s2 h2=>?_
 obtain⟨it,fp,tn,J,H2,e,I2,T,st2,f2,h2⟩:=h2
 subst e
 refine wpAny_newObj_type ?_ (by show 0≤sizeLine;exact Nat.zero_le _)
 have hD:H2 s2.heap.objs.size=none:=I2.fresh
 have I3:Inv X pins σ (upd H2 s2.heap.objs.size (.lst [])) { s2 with heap:=s2.heap.push { cls:=.type "list", data:=.seq ([]:List Value).toArray } }:=I2.lnew (t':=s2.toks) (its:=[]) .nil (Nat.zero_le _)
 obtain⟨W,⟨m0,w0⟩,turn⟩:=h2 s2.heap.objs.size hD
 generalize hDe:s2.heap.objs.size=D at I3 turn w0 hD ⊢
 have st3:tn 0 (s2.heap.push { cls:=.type "list", data:=.seq ([]:List Value).toArray }):=T.keep _ _ _ st2 fun b _ o e=>Heap.get?_push_of_some _ e
 have f3:∀ b∈fp,eG X pins (upd H2 D (.lst [])) b/\b < (s2.heap.push { cls:=.type "list", data:=.seq ([]:List Value).toArray }).objs.size:=fun b hb=>by
  obtain⟨o,e,_⟩:=T.obj _ _ st2 b hb
  have l:=Heap.lt_size e
  rw [hDe] at l
  refine⟨⟨?_,(f2 b hb).2⟩,by rw [Heap.size_push,hDe];exact Nat.lt_succ_of_lt l⟩
  rw [av (Nat.ne_of_lt l)];exact (f2 b hb).1
 generalize (s2.heap.push { cls:=.type "list", data:=.seq ([]:List Value).toArray })=h3 at I3 st3 f3 ⊢
 refine wpAny_newFunctionEnv hcell (by intro y hy;simp at hy) (fun h₄ hns₄ hsb₄=>?_) hkind
 have keep:∀ b o,h3.get? b=some o->h₄.get? b=some o:=fun b o e=>hsb₄.extBut b o (Nat.ne_of_lt (Heap.lt_size e)) (Heap.get?_push_of_some _ e)
 have I4:=Inv.comp (C:=h3.objs.size) (fp:=fp) (tk:=s2.toks+([]:List (Str×Value)).length) I3 rfl hns₄ keep hkind (fun b hb=>(f3 b hb).1) (fun b hb=>(f3 b hb).2) hcl hfree
 have st4:tn 0 h₄:=T.keep _ _ _ st3 fun b _ o e=>keep b o e
 have fpn:∀ b∈fp,(upd H2 D (.lst [])) b=none:=fun b hb=>(f3 b hb).1.1
 have hn3:∀ b∈fp,b≠h3.objs.size:=fun b hb=>Nat.ne_of_lt (f3 b hb).2
 have stat:∀ {H':Hp},(∀ b∈fp,H' b=none)->∀ b∈fp,eG (fq X N' scope cl h3.objs.size fp pins { s2 with heap:=h3 } (upd H2 D (.lst []))) [] H' b:=fun hn b hb=>
  ⟨hn b hb,hn3 b hb,I4.ok.exfs b hb,.inl hb,fun x c e=>(f3 b hb).1.2.2.2.2.1 x c (hcl.2 x c e),fun p hp=>(f3 b hb).1.2.2.2.2.2 p (by
   have z:p∈(X.pn++pins)++[]:=hp
   rw [List.append_nil] at z;exact z)⟩
 have back:∀ {H':Hp} {s':Shared},Inv (fq X N' scope cl h3.objs.size fp pins { s2 with heap:=h3 } (upd H2 D (.lst []))) [] (bQ src σ) H' s'->(∃ m,s'.heap.Ns h3.objs.size m)/\Inv X pins σ H' s'/\nK X pins H' h3.objs.size:=fun {H' s'} I'=>by
  have Ib:Inv X pins σ H' s':=I3.call' I'.os I'.base I'.hok I'.bare fun b hb=>⟨(f3 b hb).1.2.2.2.1,(f3 b hb).1.2.1,(f3 b hb).1.2.2.2.2.1,(f3 b hb).1.2.2.2.2.2⟩
  refine⟨let ⟨m,hm,_⟩:=I'.loc;⟨m,hm⟩,Ib,⟨I'.free,fun z=>?_,I3.nofs (Nat.le_refl _),Heap.get?_none_of_le I3.sz,fun x c e z=>?_,fun p hp z=>?_⟩⟩
  ·have:=I3.lt;rw [← z] at this;exact Nat.lt_irrefl _ this
  ·obtain⟨v,o,ho,_⟩:=I3.cell x c e
   have:=Heap.lt_size ho;rw [z] at this;exact Nat.lt_irrefl _ this
  ·obtain⟨e,_⟩:=I3.pin p hp
   have:=Heap.lt_size e;rw [z] at this;exact Nat.lt_irrefl _ this
 have loop:codeAny (model X.prog X.w) X.A (.compLoop (.ListComp elt [⟨tg,iter,ifs,0⟩] scope pos) 0 (.ref it) (.ref D) (compEnvC scope cl h3.objs.size X.env)) (RR (.ref D) h3.objs.size) { s2 with heap:=h₄,toks:=s2.toks+([]:List (Str×Value)).length }:=by
  refine oY (fun n s'=>∃ i ys H',Inv (fq X N' scope cl h3.objs.size fp pins { s2 with heap:=h3 } (upd H2 D (.lst []))) [] (bQ src σ) H' s'/\tn i s'.heap/\(∀ b∈fp,H' b=none)/\W i n ys H') ?_ m0 ⟨0,[],_,I4,st4,fpn,w0⟩
  rintro n s5 ⟨i,ys,H5,I5,st5,fr5,w5⟩
  rcases turn i n ys H5 w5 with ⟨stop,qn⟩ | ⟨go,step⟩
  ·refine bX (T.done (fq X N' scope cl h3.objs.size fp pins { s2 with heap:=h3 } (upd H2 D (.lst []))) rfl rfl rfl hc i [] s5 _ H5 _ I5 (stat fr5) st5 stop) fun r s6 ⟨hr,I6⟩=>?_
   subst hr
   obtain⟨b1,b2,b3⟩:=back I6
   exact hRR D _ H5 s6 qn b1 b2 b3
  ·refine bX (T.item (fq X N' scope cl h3.objs.size fp pins { s2 with heap:=h3 } (upd H2 D (.lst []))) rfl rfl rfl hc i [] s5 _ H5 _ I5 (stat fr5) st5 go) fun r s6 ⟨u,hr,h6⟩=>?_
   subst hr
   refine bX h6 fun _ s7 ⟨x,H7,I7,r7,y7,st7,fr7⟩=>?_
   have I7':=I7.pinned (stat fr7) (T.obj _ _ st7)
   refine bX (hg _ _ _ _ _ _ s7 _ H7 x u _ I7' r7 (step x H7 y7)) fun _ s8 ⟨σ8,H8,I8,ex8,q8⟩=>?_
   refine bX (ht _ _ _ _ _ _ s8 σ8 H8 _ I8 q8) fun ok s9 ⟨H9,I9,q9⟩=>?_
   have again:∀ {ys':List V} {Ha:Hp} {sa:Shared},Inv (fq X N' scope cl h3.objs.size fp pins { s2 with heap:=h3 } (upd H2 D (.lst []))) ([]++gj fp s7.heap) σ8 Ha sa->(∃ m',m' < n/\W (i+1) m' ys' Ha)→
     ∃ m,m < n/\∃ i ys H',Inv (fq X N' scope cl h3.objs.size fp pins { s2 with heap:=h3 } (upd H2 D (.lst []))) [] (bQ src σ) H' sa/\tn i sa.heap/\(∀ b∈fp,H' b=none)/\W i m ys H':=fun {ys' Ha sa} Ia ⟨m',hm,wa⟩=>by
    refine⟨m',hm,i+1,ys',Ha,(Ia.unpinned).weak ex8.1.symm ex8.2,T.keep _ _ _ st7 fun b hb o e=>(Ia.pin (b,o) (List.mem_append_right _ (List.mem_append_right _ (cS hb e)))).1,fun b hb=>?_,wa⟩
    obtain⟨o,e,_⟩:=T.obj _ _ st7 b hb
    exact (Ia.pin (b,o) (List.mem_append_right _ (List.mem_append_right _ (cS hb e)))).2.1
   cases ok with
   | false=>exact again I9 q9
   | true=>
    refine wpAny_mono (he h3.objs.size fp pins (gj fp s7.heap) { s2 with heap:=h3 } (upd H2 D (.lst [])) (fun b hb=>let ⟨o,e,_⟩:=T.obj _ _ st7 b hb;⟨o,cS hb e⟩) [] s9 σ8 H9 _ (Inv.toX I9) q9) (fun y s10 ⟨yv,H10,I10',r10,q10,hz,wn⟩=>?_) fun y s10 hy=>?_
    rotate_left
    ·obtain⟨x,Bc,Tx,dx,Hx,rfl,xo,xb,xu,xk,nx,nT,hx,hT,tr,hE,xC,tC',m,hm,hCn⟩:=hy
     have Ib:Inv X pins σ Hx s10:=I3.call' xo xu xk xb fun b hb=>⟨(f3 b hb).1.2.2.2.1,(f3 b hb).1.2.1,(f3 b hb).1.2.2.2.2.1,(f3 b hb).1.2.2.2.2.2⟩
     have off:nK X pins Hx h3.objs.size:=⟨hCn,fun z=>by have:=I3.lt;rw [← z] at this;exact Nat.lt_irrefl _ this,I3.nofs (Nat.le_refl _),Heap.get?_none_of_le I3.sz,fun x c e z=>by
      obtain⟨v,o,ho,_⟩:=I3.cell x c e
      have:=Heap.lt_size ho;rw [z] at this;exact Nat.lt_irrefl _ this,fun p hp z=>by
      obtain⟨e,_⟩:=I3.pin p hp
      have:=Heap.lt_size e;rw [z] at this;exact Nat.lt_irrefl _ this⟩
     have na:=B.Inv.newAt I3 hex nx
     have nt:=B.Inv.newAt I3 hex nT
     have hfrm:X.A.frames=some (X.env :: X.outer):=by rw [Ib.ok.frames,hst]
     rw [iJ (env:=compEnvC scope cl h3.objs.size X.env) (env':=X.env) rfl]
     refine zk (base:=X.base) hfrm (by rw [← hst];exact Ib.stack) hfr tr fun h1 T' k1 nT' t1=>?_
     have nt':=B.Inv.newAt Ib hex nT'
     have hT':=B.Inv.none_of Ib nT'
     rw [← hst] at k1
     have I6:Inv X pins σ Hx { s10 with heap:=h1 }:=B.Inv.leftK (tk:=s10.toks) Ib (fun b hb=>by
      simp only [List.mem_cons,List.not_mem_nil,or_false] at hb
      rcases hb with rfl | rfl
      ·exact⟨hT,nt⟩
      ·exact⟨hx,na⟩) k1
     have cC:∃ o,s10.heap.get? h3.objs.size=some o:=let ⟨o,_,_,e,_⟩:=hm;⟨o,e⟩
     refine hRE D _ Hx _ x Bc T' dx _ I6 off ?_ na nt' hx hT' xC (fun z=>?_) t1 hE
     ·obtain⟨o,es,ep,ho,r⟩:=hm
      obtain⟨sl,z⟩:=k1.slot _ o (by simp only [List.mem_cons,List.not_mem_nil,or_false];exact fun q=>q.elim (fun q=>tC' q.symm) fun q=>xC q.symm) ho
      exact⟨m,_,es,ep,z,r⟩
     ·obtain⟨o,e⟩:=cC
      rw [z,e] at nT';cases nT'
    have I10:=Inv.ofX I10'
    refine bX (dz _ s10 σ8 H10 (.ref D) [yv] (.ref D) [y] (fun _ Hz=>∃ m',m' < n/\W (i+1) m' (ys++[yv]) Hz) I10 rfl (.cons r10 .nil) ⟨D,ys,yv,rfl,rfl,q10,hz,wn⟩) fun _ s11 ⟨_,H11,I11,_,q11⟩=>?_
    exact again I11 q11
 exact codeAny_compStart_list loop (T.self _ 0 _ _ _ st4 loop)
theorem qV (hc:X.calm=true) (hi:PI X tg iter wi) (hg:∀ C fp pins s H,PG (fq X N' scope cl C fp pins s H) tg g) (ht:∀ C fp pins s H,zH (fq X N' scope cl C fp pins s H) ifs tt)
  (he:∀ C fp pins q s H,(∀ b∈fp,∃ o,(b,o)∈q)->PE (B2 X N' scope cl C fp pins q s H E) elt te) (hex:X.ex=[]) (hst:X.stack=X.env :: X.outer) (hfr:X.env.frame=some X.env.locals) (tk:o4 X E) (hfree:cq X scope cl N' src) (hclos:closureFor scope X.env=pure cl) (hcell:∀ x∈scope.names,x.2≠.cell) (hkind:scope.kind=.function)
  (hnames:∀ x∈scope.names,x.2=.local->scope.names.lookup x.1=some .local) (hcl:di X scope cl) (hs:∀ x,foldedSetIterable iter X.env x=pure x:=by intro _;rfl) :
  PE X (.ListComp elt [⟨tg,iter,ifs,0⟩] scope pos) (iC wi src g tt te):=by
 intro pins s σ H Q I h
 rw [eval_ListComp]
 refine wpAny_comprehension_free (use:=none) rfl hs hclos hkind hnames (rM hc hi hg ht he hex hst hfr hfree hcell hkind hcl (RR:=fun acc C=>compPost (model X.prog X.w) X.A X.xe none (EP X pins σ Q) acc C) I h (fun D C H' s' x Bc T dx fl hI off hm na nt hx hT xC tC tr hE=>?_) fun D C H' s' q hm hI hb=>?_)
 ·obtain⟨m,hm⟩:=hm
  refine⟨m,hm,fun h' sb cenv' hC'=>?_⟩
  have I':=off.turned hI sb
  have tr':dB h' x Bc T dx fl:=by
   obtain⟨oe,vs,oT,ts,q1,q2,q3,q4,q5,q6,q7,q8,q9⟩:=tr
   exact⟨oe,vs,oT,ts,sb.extBut x oe xC q1,q2,q3,q4,q5,q6,sb.extBut T oT tC q7,q8,q9⟩
  exact xR tr' fun h2 k2 t2=>tk pins σ H' _ x Bc T dx _ (B.Inv.leftK (tk:=s'.toks) I' (fun b hb=>by rw [List.mem_singleton.mp hb];exact⟨hT,nt⟩) k2.any) hx na hT nt t2 hE
 obtain⟨m,hm⟩:=hm
 exact⟨m,hm,fun h' sb=>⟨.ref D,H',hb.turned hI sb,rfl,q⟩⟩
theorem ko (hc:X.calm=true) (hi:QI X tg iter wi) (hg:∀ C fp pins s H,QG (fq X N' scope cl C fp pins s H) tg g) (ht:∀ C fp pins s H,DY (fq X N' scope cl C fp pins s H) ifs tt) (he:∀ C fp pins q s H,(∀ b∈fp,∃ o,(b,o)∈q)->QE (B2 X N' scope cl C fp pins q s H E) elt te) (tk:o4 X E) (hfree:cq X scope cl N' src) (hclos:closureFor scope X.env=pure cl) (hcell:∀ x∈scope.names,x.2≠.cell) (hkind:scope.kind=.function) (hnames:∀ x∈scope.names,x.2=.local->scope.names.lookup x.1=some .local) (hcl:di X scope cl) (hex:X.ex=[]:=by rfl) (hst:X.stack=X.env :: X.outer:=by rfl) (hfr:X.env.frame=some X.env.locals:=by rfl) (hs:∀ x,foldedSetIterable iter X.env x=pure x:=by intro _;rfl):QE X (.ListComp elt [⟨tg,iter,ifs,0⟩] scope pos) (iC wi src g tt te):=⟨qV hc hi.p (fun z0 z1 z2 z3 z4=>(hg z0 z1 z2 z3 z4).p) (fun z0 z1 z2 z3 z4=>(ht z0 z1 z2 z3 z4).p) (fun z0 z1 z2 z3 z4 z5 z6=>(he z0 z1 z2 z3 z4 z5 z6).p) hex hst hfr tk hfree hclos hcell hkind hnames hcl hs⟩
end
end B
namespace Rv
open PySem
open Builtin Builtin.Str
theorem gJ:Slot "list_reverseiterator" "__next__" "list_reverseiterator.__next__" :=
 .of (n := "__next__") (owner := "list_reverseiterator")
  (by rw [typeLookup_type,builtinLookup_eq_fast];kernel_rfl)
  (by decide +kernel) (by decide +kernel) (by decide +kernel)
  (by first | exact .inr (by decide +kernel) | exact .inl (by decide +kernel)) (by rw [isSubtype_type];kernel_rfl)
theorem pG:Slot "list_reverseiterator" "__iter__" "list_reverseiterator.__iter__" :=
 .of (n := "__iter__") (owner := "list_reverseiterator")
  (by rw [typeLookup_type,builtinLookup_eq_fast];kernel_rfl)
  (by decide +kernel) (by decide +kernel) (by decide +kernel)
  (by first | exact .inr (by decide +kernel) | exact .inl (by decide +kernel)) (by rw [isSubtype_type];kernel_rfl)
theorem qd:entryFor table "list_reverseiterator.__next__" = some Builtin.«list_reverseiterator.__next__»:=entryFor_of_fast (by kernel_rfl)
theorem yF:entryFor table "list_reverseiterator.__iter__" = some Builtin.«dict_keyiterator.__iter__»:=
 entryFor_alias (by kernel_rfl) (by first | rfl | decide +kernel | (unfold String.splitOn;simp +decide [String.splitOnAux])) (by decide +kernel) (by kernel_rfl) (id' := "dict_keyiterator.__iter__")
theorem qp (a:Value):argsOk "list_reverseiterator.__next__" ⟨[a],[]⟩:=by
 unfold argsOk
 kernel_rfl
theorem yI (a:Value):argsOk "list_reverseiterator.__iter__" ⟨[a],[]⟩:=by
 unfold argsOk
 kernel_rfl
theorem BC:typeLookup (.type "list_reverseiterator") "__len__" = pure none:=by
 rw [typeLookup_type,builtinLookup_eq_fast]
 kernel_rfl
theorem B9:typeLookup (.type "list_reverseiterator") "__length_hint__" = pure (some (.builtin "list_reverseiterator.__length_hint__")):=by
 rw [typeLookup_type,builtinLookup_eq_fast]
 kernel_rfl
theorem wU:Slot "reversed" "__init__" "object.__init__" :=
 .of (n := "__init__") (owner := "object")
  (by rw [typeLookup_type,builtinLookup_eq_fast];kernel_rfl)
  (by decide +kernel) (by decide +kernel) (by decide +kernel)
  (by first | exact .inr (by decide +kernel) | exact .inl (by decide +kernel)) (by rw [isSubtype_type];kernel_rfl)
theorem pU:mroOf (.type "reversed")=pure [.type "reversed", .type "object"]:=by
 rw [mroOf_type]
 kernel_rfl
theorem vx:typeLookup (.type "reversed") "__new__" = pure (some (.builtin "reversed.__new__")):=by
 rw [typeLookup_type,builtinLookup_eq_fast]
 kernel_rfl
theorem pE:isSubtype (.type "reversed") (.type "reversed")=pure true:=by
 rw [isSubtype_type]
 kernel_rfl
theorem dA:TypeCalled "reversed" "reversed.__new__" "object.__init__" :=
 ⟨by decide +kernel,by decide +kernel,⟨_,_,pU⟩,madeBy_type pU vx (by decide +kernel),by decide +kernel,pE,wU⟩
theorem zT (a:Value):checkTypeCall "reversed" ⟨[a],[]⟩=pure ():=by kernel_rfl
theorem BD (a:Value):checkBuiltinCall "reversed.__new__" ⟨[.type "reversed", a],[]⟩=pure ():=by kernel_rfl
theorem BU:entryFor table "reversed.__new__" = some Builtin.«reversed.__new__»:=entryFor_of_tree (by kernel_rfl)
def At (h:Heap) (I l:Addr) (n i:Nat):Prop:=∃ o,h.get? I=some o/\o.cls=.type "list_reverseiterator" /\ o.data=.fields #[.ref l,.int ((n:Int) - 1 - i) 0]
theorem At.ty {s:Shared} {I l:Addr} {n i:Nat} (x:At s.heap I l n i):s.TypeIs (.ref I) "list_reverseiterator" :=
 let ⟨o,ho,hc,_⟩:=x
 ⟨o,ho,hc⟩
section
variable {prog:Program} {w:World} {A:Around} {E:Value->Shared->Prop} {s:Shared}
theorem yj {I l:Addr} {n i:Nat} {Q:Value->Shared->Prop} (a:At s.heap I l n i) (h:Q (.ref I) s):wpAny (model prog w) A (pyIter (.ref I)) Q E s:=by
 refine wpAny_pyIter_slot a.ty pG (wpAny_call_entry pG a.ty yF ?_ (yI _))
 show wpAny _ _ (ret (.ref I)) _ _ s
 exact wpAny_pure ⟨_,rfl, "list_reverseiterator", _,a.ty,gJ.lookup,h⟩
theorem xY {I l:Addr} {i:Nat} {items:Array Value} {x:Value} {Q:Option Value->Shared->Prop} (a:At s.heap I l items.size i) (hl:s.heap.IsList l items) (hi:i < items.size) (hx:items[items.size - 1 - i]?=some x)
  (hQ:∀ h',At h' I l items.size (i+1)->Heap.SameBut I s.heap h'->Q (some x) { s with heap:=h' }):wpAny (model prog w) A (pyNext (.ref I)) Q E s:=by
 obtain⟨o,ho,hc,hd⟩:=id a
 obtain⟨ol,hol,_,nl,hdl⟩:=hl
 unfold pyNext
 refine wpAny_bind (wpAny_attempt (wpAny_callSpecial?_slot (name:=Str.ofString "__next__") a.ty gJ (wpAny_call_entry gJ a.ty qd ?_ (qp _))))
 show wpAny _ _ (field (.ref I) 1 >>= _) _ _ s
 refine wpAny_bind (wpAny_field ho hd (x:=.int ((items.size:Int) - 1 - i) 0) rfl ?_)
 dsimp only
 rw [if_neg (show ¬ ((items.size:Int) - 1 - i < 0) by omega)]
 show wpAny _ _ (field (.ref I) 0 >>= _) _ _ s
 refine wpAny_bind (wpAny_field ho hd (x:=.ref l) rfl ?_)
 show wpAny _ _ (seqItems? (.ref l) >>= _) _ _ s
 refine wpAny_bind (wpAny_seqItems hol hdl ?_)
 have e:((items.size:Int) - 1 - i).toNat=items.size - 1 - i:=by omega
 simp only [e,hx]
 refine wpAny_bind (wpAny_setField ho hd (by simp) (wpAny_pure ⟨x,rfl,wpAny_pure (hQ _ ?_ (Heap.SameBut.update ..))⟩))
 refine⟨_,Heap.get?_update_self _ ho (Obj.isFreed_of_fields (Obj.data_mapFields hd _)),(Obj.cls_mapFields ..).trans hc,?_⟩
 rw [Obj.data_mapFields hd]
 simp [rawInt]
 omega
theorem By {I l:Addr} {n:Nat} {Q:Option Value->Shared->Prop} (hh:A.handled=none) (a:At s.heap I l n n)
  (hQ:∀ h',Heap.ExtBut I s.heap h'->Q none { s with heap:=h' }):wpAny (model prog w) A (pyNext (.ref I)) Q E s:=by
 obtain⟨o,ho,hc,hd⟩:=id a
 unfold pyNext
 refine wpAny_bind (wpAny_attempt (wpAny_callSpecial?_slot (name:=Str.ofString "__next__") a.ty gJ (wpAny_call_entry gJ a.ty qd ?_ (qp _))))
 show wpAny _ _ (field (.ref I) 1 >>= _) _ _ s
 refine wpAny_bind (wpAny_field ho hd (x:=.int ((n:Int) - 1 - n) 0) rfl ?_)
 dsimp only
 rw [if_pos (show (n:Int) - 1 - n < 0 by omega)]
 refine wpAny_bind (wpAny_rule ?_)
 refine wpAny_bind ?_
 show wpAny _ _ (newExc (.type "StopIteration") [] >>= _) _ _ _
 refine wpAny_bind ?_
 simp only [newExc,newTuple]
 refine wpAny_bind (wpAny_newObj_type ?_ (by size_fits))
 refine wpAny_bind (m:=firstArgMember _ _) (wpAny_of_eq (a:=Value.none) (by first | (simp only [firstArgMember];rfl) | rfl) ?_)
 refine wpAny_newObj_type ?_ (by size_fits)
 simp only [raiseNew]
 refine wpAny_bind (wpAny_handled ?_)
 rw [show A.in1.handled=none from hh]
 refine wpAny_bind (wpAny_pure (wpAny_throw ?_))
 refine wpAny_bind (wpAny_isInstance (T := "StopIteration") (b:=true) ⟨_,Heap.get?_push_size _ rfl,rfl⟩ isSubtype_stop ?_)
 refine wpAny_pure (hQ _ fun b o hb e=>?_)
 exact Heap.get?_push_of_some _ (Heap.get?_push_of_some _ e)
end
end Rv
namespace Rv
open PySem
open Builtin Builtin.Str
theorem rc (l:Addr) (items:Array Value) (n:Nat) :
  Meets (Builtin.«reversed.__new__» ⟨[.type "reversed", .ref l],[]⟩) (fun _ R s=>s.heap.get? l=some { cls:=.type "list", dict:=none,data:=.seq items n,slots:=#[] }∧
   R (.ok (.ret (.ref s.heap.objs.size))) { s with heap:=s.heap.push { cls:=.type "list_reverseiterator", data:=.fields #[.ref l,rawInt ((items.size:Int) - 1)] } }):=
 .of_wp fun prog w A R s h=>by
  obtain⟨hp,g,d,tk,os⟩:=s
  obtain⟨hl,h⟩:=h
  have hsub:=pE
  wp_walk
  refine wpAny_of_eq (show typeLookup (.type "list") (Str.ofString "__reversed__")=_ from F.slot_list_reversed.lookup) ?_
  refine wpAny_bind (wpAny_of_eq (F.slot_list_reversed.bind _) ?_)
  show wpAny _ _ (rule _ >>= fun _=>call (.builtin "list.__reversed__") [.ref l] >>= _) _ _ _
  refine wpAny_bind (wpAny_rule (wpAny_bind ?_))
  refine call_meets F.slot_list_reversed ⟨_,hl,rfl⟩ F.entry_list_reversed (F.args_list_reversed_1 _) (AutoListH.list___reversed___list_0 l items n) ⟨hl,?_⟩
  exact wpAny_pure ⟨_,rfl,h⟩
section
variable {prog:Program} {w:World} {A:Around} {E:Value->Shared->Prop} {s:Shared}
theorem ya:isSubtype (.type "list_reverseiterator") (.type "reversed")=pure false:=by
 rw [isSubtype_type]
 kernel_rfl
theorem call_rev {l:Addr} {items:Array Value} {n:Nat} {Q:Value->Shared->Prop} (hl:s.heap.get? l=some { cls:=.type "list", dict:=none,data:=.seq items n,slots:=#[] })
  (h:∀ h',At h' s.heap.objs.size l items.size 0->h'.objs.size=s.heap.objs.size+1->(∀ b o,s.heap.get? b=some o->h'.get? b=some o)->Q (.ref s.heap.objs.size) { s with heap:=h' }) :
  wpAny (model prog w) A (call (.type "reversed") [.ref l]) Q E s:=by
 have a:At (s.heap.push { cls:=.type "list_reverseiterator", data:=.fields #[.ref l,rawInt ((items.size:Int) - 1)] }) s.heap.objs.size l items.size 0:=
  ⟨_,Heap.get?_push_size _ rfl,rfl,by
   show Data.fields #[.ref l,Value.int ((items.size:Int) - 1) 0]=_
   rw [show (items.size:Int) - 1 - ((0:Nat):Int)=(items.size:Int) - 1 by omega]⟩
 have hq:=h _ a (Heap.size_push ..) fun b o x=>Heap.get?_push_of_some _ x
 have hct:=zT (.ref l)
 obtain⟨c,tl,hmro⟩:=dA.mro
 have hmade:=dA.made;have hsub:=dA.sub;have h1:=dA.notType;have h2:=dA.canCreate
 have hns:=ya
 refine wpAny_call (codeAny_of_tree (wpAny_pure ⟨Code.quiet_builtin _ (by decide +kernel),codeAny_builtin F.entry_type_call ?_⟩))
 rw [Around.under_plain (weight_type_call_type "reversed" [.ref l] []) (units_type_call_type "reversed" [.ref l] [])]
 repeat (any_goals (first | wp_step | assumption))
 refine codeAny_mono (codeAny_call_builtin dA.plain BU (wpAny_of_eq (BD _) (rc l items n prog w A.in1 (wants (fun v s'=>v=.ref s.heap.objs.size/\s'={ s with heap:=s.heap.push { cls:=.type "list_reverseiterator", data:=.fields #[.ref l,rawInt ((items.size:Int) - 1)] } }) E) s ⟨hl,⟨rfl,rfl⟩⟩))) fun r s₁ hr=>?_
 cases r with
 | error e=>exact hr
 | ok fl=>cases fl with
  | ret obj=>
   obtain⟨rfl,rfl⟩:=hr
   have hT:Shared.TypeIs { s with heap:=s.heap.push { cls:=.type "list_reverseiterator", data:=.fields #[.ref l,rawInt ((items.size:Int) - 1)] } } (.ref s.heap.objs.size) "list_reverseiterator" := a.ty
   repeat (any_goals (first | wp_step | assumption))
  | _=>exact hr.elim
def Ck (items:Array Value) (i:Nat) (v:Value):Prop:=items[items.size - 1 - i]?=some v
theorem CD (hh:A.handled=none) (I l:Addr) (items:Array Value) (nl:l≠I) :
  WalksS prog w A I [I,l] [I] (fun a b=>a=b) items.size (Ck items) (fun i s=>At s.heap I l items.size i/\s.heap.IsList l items) where
 sub:=fun b hb=>by
  have:b=I:=by simpa using hb
  subst this
  exact List.mem_cons_self
 grefl:=fun _=>rfl
 gtrans:=fun _ _ _ x y=>x.trans y
 frame:=fun i s h' tk st _ hk=>by
  obtain⟨⟨o,ho,r⟩,⟨ol,hol,r'⟩⟩:=st
  exact⟨⟨o,hk I (by simp) o ho,r⟩,⟨ol,hk l (by simp) ol hol,r'⟩⟩
 item:=fun i s Q E hi st hQ=>by
  obtain⟨a,hl⟩:=st
  have hx:items[items.size - 1 - i]?=some (items[items.size - 1 - i]'(by omega)):=Array.getElem?_eq_getElem _
  refine xY a hl hi hx fun h' a' sm=>?_
  refine hQ _ _ hx ⟨a',hl.extBut sm.extBut nl⟩ ⟨fun b o hb e=>sm.extBut b o (fun z=>hb (by simp [z])) e,rfl,rfl,rfl,Nat.le_refl _⟩
 done:=fun s Q E st hQ=>by
  obtain⟨a,hl⟩:=st
  exact By hh a fun h' ex=>hQ _ ⟨fun b o hb e=>ex b o (fun z=>hb (by simp [z])) e,rfl,rfl,rfl,Nat.le_refl _⟩
 self:=fun i s Q E st hQ=>yj st.1 hQ
end
end Rv
namespace Rv
open PySem
open Builtin Builtin.Str
section
variable {prog:Program} {w:World} {A:Around} {E:Value->Shared->Prop} {s:Shared}
end
end Rv
namespace Rv
open PySem
open Builtin Builtin.Str
section
variable {prog:Program} {w:World} {A:Around} {s:Shared} {R:Result->Shared->Prop}
variable {I:Addr} {fp wr:List Addr} {G:Array GenState->Array GenState->Prop} {n:Nat} {P:Nat->Value->Prop} {St:Nat->Shared->Prop}
theorem yu (W:WalksS prog w A.in1 I fp wr G n P St) (ty:∀ i s,St i s->s.TypeIs (.ref I) "list_reverseiterator") (S:Addr) (res:Value) (c₀:Nat) (st0:St 0 s) (nf:S∉fp) (inI:I∈fp)
  (hS:s.heap.get? S=some { cls:=.type "list", data:=.seq #[] c₀ })
  (hR:∀ s' acc' c',Moved (S :: wr) G s s'->s'.heap.get? S=some { cls:=.type "list", dict:=none,data:=.seq acc' c',slots:=#[] }->ItemsOf P acc' n->R (.ok (.ret res)) s') (hn:n≤sizeLine) :
  wpAny (model prog w) A.in1 (Builtin.List.listExtendWith (.ref S) (.ref I) res)
   (fun fin s'=>match fin with | .done f=>R (.ok f) s' | .again c'=>c'.quiet=true/\codeAny (model prog w) A c' R s') (fun e s'=>R (.error e) s') s:=by
 have nI:S≠I:=fun e=>nf (e ▸ inI)
 have ns:Builtin.List.listSameRef (.ref S) (.ref I)=false:=by simp [Builtin.List.listSameRef,nI]
 unfold Builtin.List.listExtendWith
 refine wpAny_bind (wpAny_typeOf (ty 0 _ st0) ?_)
 rw [if_neg (by rw [ns];decide)]
 refine wpAny_bind (W.self 0 _ _ _ st0 (wpAny_bind (wpAny_holding ?_)))
 unfold Builtin.List.listLengthHint
 refine wpAny_bind (wpAny_specialOf (ty 0 _ st0) BC ?_)
 show wpAny _ A.in1 (specialOf (Value.ref I) (Str.ofString "__length_hint__") >>= _) _ _ _;refine wpAny_bind (wpAny_specialOf (ty 0 _ st0) B9 ?_)
 (generalize m9:("list_reverseiterator.__length_hint__" : String)=id0;(fail_if_success (clear m9 id0));wp_delta;rw [show splitId id0=some ("list_reverseiterator", "__length_hint__") from by subst m9;decide +kernel];subst m9)
 refine wpAny_bind (wpAny_isInstance (b:=true) (ty 0 _ st0) (by rw [isSubtype_type];kernel_rfl) ?_)
 refine wpAny_pure ?_
 rw [if_neg (by decide)]
 exact wpAny_pure ⟨plainId_quiet F.plain_extend_loop _,codeAny_extend_loopS W hn _ nf _ n 0 _ _ _ rfl (Nat.zero_le _) st0 hS (ItemsOf.nil P) fun s' acc' c' hm at' hacc=>hR s' acc' c' hm at' hacc⟩
theorem vK (W:WalksS prog w A.in1 I fp wr G n P St) (ty:∀ i s,St i s->s.TypeIs (.ref I) "list_reverseiterator") (S:Addr) (hst:St 0 s) (hSf:S∉fp) (hI:I∈fp)
  (hS:s.heap.get? S=some { cls:=.type "list", data:=.seq #[] })
  (hR:∀ s' acc' c',Moved (S :: wr) G s s'->s'.heap.get? S=some { cls:=.type "list", dict:=none,data:=.seq acc' c',slots:=#[] }->ItemsOf P acc' n->R (.ok (.ret .none)) s') (hn:n≤sizeLine) :
  wpAny (model prog w) A.in1 (Builtin.«list.__init__» ⟨[.ref S,.ref I],[]⟩)
   (fun fin s'=>match fin with | .done f=>R (.ok f) s' | .again c'=>c'.quiet=true/\codeAny (model prog w) A c' R s') (fun e s'=>R (.error e) s') s:=by
 show wpAny _ A.in1 (do let old ← Builtin.List.listItems (.ref S);Builtin.List.listUpdate (.ref S) (fun _=>#[]);letGo old.toList.reverse;Builtin.List.listExtendWith (.ref S) (.ref I) .none) _ _ s
 refine wpAny_bind ?_
 unfold Builtin.List.listItems
 refine wpAny_bind (wpAny_seqItems hS rfl (wpAny_pure ?_))
 show wpAny _ A.in1 (updateSeq S (fun _=>#[]) >>= fun _=>letGo (#[]:Array Value).toList.reverse >>= fun _=>Builtin.List.listExtendWith (.ref S) (.ref I) .none) _ _ s
 refine wpAny_bind (wpAny_updateSeq hS rfl ?_)
 have hS₂:=Heap.get?_update_self (Obj.mapSeq (fun _=>(#[]:Array Value))) hS rfl
 have oth:∀ b o,b≠S->s.heap.get? b=some o->(s.heap.update S (Obj.mapSeq (fun _=>(#[]:Array Value)))).get? b=some o:=
  fun b o hb e=>(Heap.get?_update_other _ _ (Ne.symm hb)).trans e
 refine wpAny_bind (wpAny_letGo ?_)
 refine yu W ty S .none _ (W.frame 0 s _ s.toks hst (Nat.le_refl _) fun b hb o e=>oth b o (fun h=>hSf (h ▸ hb)) e) hSf hI hS₂ (fun s' acc' c' hm hS' hacc=>?_) hn
 exact hR s' acc' c' (Moved.trans W.gtrans ((Moved.refl W.grefl).then_heap (Nat.le_refl _) fun b o hb e=>oth b o (fun h=>hb (h ▸ List.mem_cons_self)) e) hm) hS' hacc
end
section
variable {prog:Program} {w:World} {A:Around} {E:Value->Shared->Prop} {s:Shared}
theorem list_rev {I l:Addr} {items:Array Value} {Q:Value->Shared->Prop} (hh:A.handled=none) (nl:l≠I) (a:At s.heap I l items.size 0) (hl:s.heap.IsList l items) (hz:items.size≤sizeLine)
  (hQ:∀ h' c',(∀ b o,b≠I->s.heap.get? b=some o->h'.get? b=some o)->h'.get? s.heap.objs.size=some { cls:=.type "list", dict:=none,data:=.seq items.toList.reverse.toArray c',slots:=#[] }->∀ k,Q (.ref s.heap.objs.size) { s with heap:=h',toks:=k }) :
  wpAny (model prog w) A (call (.type "list") [.ref I]) Q E s:=by
 have W:WalksS prog w A.in1.in1 I [I,l] [I] (fun a b=>a=b) items.size (Ck items) (fun i s=>At s.heap I l items.size i/\s.heap.IsList l items):=CD (A:=A.in1.in1) hh I l items nl
 have hfp:∀ b∈[I,l],b < s.heap.objs.size:=fun b hb=>by
  simp only [List.mem_cons,List.not_mem_nil,or_false] at hb
  rcases hb with rfl | rfl
  ·obtain⟨o,ho,_⟩:=a
   exact Heap.lt_size ho
  ·obtain⟨o,ho,_⟩:=hl
   exact Heap.lt_size ho
 have hSf:s.heap.objs.size∉[I,l]:=fun hm=>Nat.lt_irrefl _ (hfp _ hm)
 refine callType_codes (Q₁:=fun obj s₁=>obj=.ref s.heap.objs.size/\s₁={ s with heap:=s.heap.push { cls:=.type "list", data:=.seq #[] } }) F.called_list (F.typeCall_list_1 _) F.entry_list_init
  (code_list_new _ ⟨rfl,rfl⟩) fun obj s₁ h₁=>?_
 obtain⟨rfl,rfl⟩:=h₁
 have hS:(s.heap.push { cls:=.type "list", data:=.seq #[] }).get? s.heap.objs.size=some { cls:=.type "list", data:=.seq #[] }:=Heap.get?_push_size _ rfl
 refine⟨⟨_,hS,rfl⟩,F.args_list_init_2 _ _,vK W (fun i s st=>st.1.ty) _ (W.frame 0 s _ s.toks ⟨a,hl⟩ (Nat.le_refl _) fun b _ o e=>Heap.get?_push_of_some _ e) hSf List.mem_cons_self hS (fun s' acc' c' hm hS' hacc=>?_) hz⟩
 refine⟨rfl,?_⟩
 have er:acc'=items.toList.reverse.toArray:=by
  have hsz:acc'.size=items.size:=hacc.1
  have er:acc'.toList=items.toList.reverse:=by
   apply List.ext_getElem?
   intro j
   by_cases hj:j < items.size
   ·have e1:acc'.toList[j]?=acc'[j]?:=by simp
    have e2:acc'[j]?=some (acc'[j]'(by omega)):=Array.getElem?_eq_getElem _
    have e3:=hacc.2 j _ e2
    unfold Ck at e3
    rw [e1,e2,List.getElem?_reverse (by simpa using hj)]
    rw [← e3]
    simp
   ·rw [List.getElem?_eq_none (by simp;omega),List.getElem?_eq_none (by simp;omega)]
  rw [← er]
 rw [er] at hS'
 have kp:∀ b o,b≠I->s.heap.get? b=some o->s'.heap.get? b=some o:=fun b o nb e=>hm.heap b o (by
  have:=Heap.lt_size e
  simp only [List.mem_cons,List.not_mem_nil,or_false]
  rintro (z | z)
  ·rw [z] at this;exact Nat.lt_irrefl _ this
  ·exact nb z) (Heap.get?_push_of_some _ e)
 have hg:=hm.gens
 have hd:=hm.drawn
 have ho:=hm.os
 obtain⟨hp',g',d',tk',os'⟩:=s'
 have:=hQ hp' c' kp hS' tk'
 simp only at hg hd ho
 subst hg;subst hd;subst ho
 exact this
end
end Rv
namespace B
open PySem PySem.Spec L2 PyProof.Rows
section
variable {X:Cx}
def FP (te:TE):TE:=fun σ H Q=>te σ H fun v H1=>∃ (l:Addr) (ys:List V),[v]=[V.ref l]/\H1 l=some (.lst ys)/\∀ r,H1 r=none->Q (.ref r) (upd H1 r (.lst ys.reverse))
variable {e:Expr} {te:TE} {p1 p2 pos1 pos2:Pos}
theorem se {xs:List V} {us:List Value} (h:aZ xs us):aZ xs.reverse us.reverse:=by
 induction h with
 | nil=>exact .nil
 | cons p q ih=>
  rw [List.reverse_cons,List.reverse_cons]
  exact ih.append (.cons p .nil)
theorem oz (hc:X.calm=true) (hg:Gl X "list") (hm:X.mg "list" = none) (hg2:Gl X "reversed") (hm2:X.mg "reversed" = none) (he:PE X e te)
  (hs:starEach [e] X.env=[(false,eval e X.env)]:=by rfl)
  (ho:starEach [.Call (.Name "reversed" p2) [e] [] pos2] X.env=[(false,eval (.Call (.Name "reversed" p2) [e] [] pos2) X.env)]:=by rfl)
  (hb:backTo pos1 [(false,eval (.Call (.Name "reversed" p2) [e] [] pos2) X.env)]=[(false,eval (.Call (.Name "reversed" p2) [e] [] pos2) X.env)]:=by rfl) :
  PE X (.Call (.Name "list" p1) [.Call (.Name "reversed" p2) [e] [] pos2] [] pos1) (FP te):=by
 intro pins s σ H Q I h
 refine Call_ (fF I hg hm (show bootBuiltins "list" = some (.type "list") by kernel_rfl) (PyProof.Rows.callWith_type1 ?_ ho rfl))
 rw [ho,hb]
 refine Calls.spliced_cons (wpAny_mono (Q:=fun v s1=>wpAny (model X.prog X.w) X.A (call (.type "list") [v]) (EP X pins σ Q) X.xe s1) ?_ (fun v s1 q=>Calls.spliced_nil q) fun _ _ q=>q)
 have ha:PA X [e] (sE te zY):=pO he u4 hs
 refine Call_ (fF I hg2 hm2 (show bootBuiltins "reversed" = some (.type "reversed") by kernel_rfl) (PyProof.Rows.callWith_type1 (bX (ha pos2 pins s σ H (fun vs H1=>∃ (l:Addr) (ys:List V),vs=[V.ref l]/\H1 l=some (.lst ys)/\∀ r,H1 r=none->Q (.ref r) (upd H1 r (.lst ys.reverse))) I h) fun us s2 ⟨vs,H2,I2,r2,q2⟩=>?_) hs rfl))
 obtain⟨l,ys,rfl,hl,q⟩:=q2
 obtain⟨u,rfl,rr⟩:=r2.one
 cases (show u=Value.ref l from rr)
 obtain⟨z,its,n,r,_,ee⟩:=I2.lstM hl
 refine Rv.call_rev (l:=l) (items:=its.toArray) (n:=n) ee fun h' a sz kp=>?_
 have nl:l≠s2.heap.objs.size:=fun z=>by
  have lt:=Heap.lt_size ee
  rw [z] at lt
  exact Nat.lt_irrefl _ lt
 have hL:Heap.IsList h' l its.toArray:=⟨_,kp _ _ ee,rfl,n,rfl⟩
 have hlen:=r.length
 refine Rv.list_rev (A:=X.A) (I:=s2.heap.objs.size) (l:=l) (items:=its.toArray) (I2.ok.hd hc) nl a hL (by rw [List.size_toArray];omega) fun h2 c' kp' hS' k=>?_
 have kk:∀ b o,s2.heap.get? b=some o->h2.get? b=some o:=fun b o eb=>kp' b o (fun z=>by have lt:=Heap.lt_size eb;rw [z] at lt;exact Nat.lt_irrefl _ lt) (kp b o eb)
 have le:s2.heap.objs.size≤h'.objs.size:=by rw [sz];exact Nat.le_succ _
 have I3:=I2.laid (t':=k) kk le (show ObjOk X.prog X.w _ h2 _ (.lst ys.reverse) from ⟨by rw [List.length_reverse];exact z,its.reverse,c',se r,by simpa using hS'⟩)
 exact⟨.ref h'.objs.size,_,I3,rfl,q _ (I2.hok.fresh le)⟩
theorem ot (hc:X.calm=true) (hg:Gl X "list") (hm:X.mg "list" = none) (hg2:Gl X "reversed") (hm2:X.mg "reversed" = none) (he:QE X e te)
  (hs:starEach [e] X.env=[(false,eval e X.env)]:=by rfl)
  (ho:starEach [.Call (.Name "reversed" p2) [e] [] pos2] X.env=[(false,eval (.Call (.Name "reversed" p2) [e] [] pos2) X.env)]:=by rfl)
  (hb:backTo pos1 [(false,eval (.Call (.Name "reversed" p2) [e] [] pos2) X.env)]=[(false,eval (.Call (.Name "reversed" p2) [e] [] pos2) X.env)]:=by rfl) :
  QE X (.Call (.Name "list" p1) [.Call (.Name "reversed" p2) [e] [] pos2] [] pos1) (FP te):=⟨oz hc hg hm hg2 hm2 he.p hs ho hb⟩
end
end B
namespace My
open PySem L2 B PyProof.Rows
theorem bH {X:Cx} {pos:Pos} (i:Nat) {x:Str} {e:Expr} {te:TE} {pos':Pos} (hN:X.N.Nodup) (he:QE X e te) (hi:X.N[i]?=some x:=by rfl) (hx:wB X.env.scope x:=by first | exact Or.inl rfl | exact Or.inr rfl) (hs:swapsWith e (some (.Name x pos')) pos.line X.env=pure false:=by rfl) (hf:X.fn x=true∨X.env.scope.names.lookup x=some .local:=by first | exact .inl rfl | exact .inr rfl | assumption):QS X (.Assign [.Name x pos'] e pos) (nV te (jI i)):=AK hN hi hx he hs hf
theorem eJ {N P:List Str} {sc:Scope} (a:sc.kind=.function:=by rfl) (b:sc.isCoroutine=false:=by rfl) (c:sc.isGenerator=false:=by rfl) (d:N.Nodup:=by decide +kernel) (e:N.take P.length=P:=by rfl) (f:∀ x∈P,sc.names.lookup x=some .local∨sc.names.lookup x=some .cell:=by decide +kernel) (g:∀ y∈sc.names,y.2≠.free:=by decide +kernel):aH N P sc:=⟨a,b,c,d,e,f,g⟩
theorem bF {X:Cx} {k j:Nat} {f:Addr} {fd:FuncData} {ps:List Str} {sp:Sp} {x:Str} {p pos:Pos} {e:Expr} {es:List Expr} {t:TA} (F:bB X.prog X.w X.K X.mg X.base dk k f fd ps sp) (hr:cu j X.A) (hm:X.mg x=some (.ref f)) (hk:PySem.W.keepIn X.K (.ref f)=true) (hb:aP X.K fd ps []) (ha:QA X (e :: es) t) (hl:k≤j:=by decide) (hg:Gl X x:=by rfl) (hdb:(x == ("__debug__" : Str))=false:=by decide) (he:starEach (e :: es) X.env=(false,eval e X.env) :: starEach es X.env:=by rfl) (hpl:(backTo pos (starEach es X.env)).any (·.1)=false:=by rfl):QE X (.Call (.Name x p) (e :: es) [] pos) (ml sp [] E0 t):=bI F (hr.mono hl) hg hm hk hb .nil ef ha hdb he hpl
theorem bv {X:Cx} {a b:Expr} {ta tb:TE} {pos:Pos} {r:R2} (hr:Cg X r) (ha:QE X a ta) (hb:QE X b tb) (hs:lZ b:=by exact fun _ _=>rfl):QE X (.Subscript a b pos) (wN r ta tb):=gN hr ha hb hs
class fW {α:Type} (P:PySem.W.Frag->Hp->V->α->Prop):Prop where
 mono:∀ {K:PySem.W.Frag} {H H':Hp} {v:V} {d:α},ax K H H'->P K H v d->P K H' v d
theorem aM {α:Type} {P:PySem.W.Frag->Hp->V->α->Prop} [fW P] {K:PySem.W.Frag} {H H':Hp} {xs:List V} {ds:List α} (e:aS H H') (h:bG (P K H) xs ds):bG (P K H') xs ds:=h.mono fun _ _ q=>fW.mono (ax.same e) q
theorem aT {α:Type} {P:PySem.W.Frag->Hp->V->α->Prop} [fW P] {K:PySem.W.Frag} {t:Addr} {H H':Hp} {xs:List V} {ds:List α} (e:aX t H H') (h:bG (P K H) xs ds):bG (P K H') xs ds:=h.mono fun _ _ q=>fW.mono (ax.step e) q
theorem aU {α:Type} {P:PySem.W.Frag->Hp->V->α->Prop} [fW P] {K:PySem.W.Frag} {H H':Hp} {xs:List V} {ds:List α} (e:ax K H H') (h:bG (P K H) xs ds):bG (P K H') xs ds:=h.mono fun _ _ q=>fW.mono e q
instance:fW RV:=⟨fun t q=>q.mono t⟩
theorem HP {K:PySem.W.Frag} {x qual:Str} {st:Stmt} {f:Addr} {fd:FuncData} {ps:List Str} (F:Fun K x qual st f fd) (h:∀ (kV doc pm:Value) (an:Option Addr) (cdv ct:Value) (us:List Value),us.length=ps.length->bindArgs (PySem.W.fnOf x qual (dS st) (cI st) (au st) .none kV doc pm an cdv ct) ⟨us,[]⟩=pure (ps.zip us):=by
 intro _ _ _ _ _ _ us hl
 match us,hl with
 | [],h2=>first | rfl | (simp at h2)
 | [_],h2=>first | rfl | (simp at h2)
 | [_,_],h2=>first | rfl | (simp at h2)
 | [_,_,_],h2=>first | rfl | (simp at h2)
 | [_,_,_,_],h2=>first | rfl | (simp at h2)
 | _ :: _ :: _ :: _ :: _ :: _,h2=>simp at h2):aP K fd ps []:=F.binds h
def top (i:Nat):Stmt:=PySem.Challenge.pw_paceplan_k40_power_of_several_hands.main.body.getD i (.Pass ⟨0,0,0,0⟩)
abbrev tO:Stmt:=top 1
abbrev AB:Stmt:=top 15
abbrev tK:Stmt:=top 16
abbrev tF:Stmt:=top 17
abbrev tJ:Stmt:=top 18
abbrev tH:Stmt:=top 19
abbrev tE:Stmt:=top 20
abbrev tN:Stmt:=top 21
abbrev tS:Stmt:=top 22
abbrev tG:Stmt:=top 23
abbrev Aw:Stmt:=top 24
abbrev Ay:Stmt:=top 25
abbrev Ax:Stmt:=top 28
abbrev tM:Stmt:=top 29
abbrev uk:Stmt:=top 30
abbrev uc:Stmt:=top 31
abbrev ub:Stmt:=top 32
abbrev ua:Stmt:=top 34
abbrev Av:Stmt:=top 36
abbrev Ar:Stmt:=top 37
abbrev Au:Stmt:=top 38
abbrev t7:Stmt:=top 40
abbrev t5:Stmt:=top 41
abbrev uj:Stmt:=top 42
abbrev tZ:Stmt:=top 43
abbrev tR:Stmt:=top 44
abbrev tQ:Stmt:=top 45
abbrev tY:Stmt:=top 46
abbrev tP:Stmt:=top 47
abbrev ui:Stmt:=top 48
abbrev tW:Stmt:=top 49
abbrev ul:Stmt:=top 50
abbrev ug:Stmt:=top 51
abbrev tV:Stmt:=top 52
abbrev AA:Stmt:=top 53
abbrev uf:Stmt:=top 54
abbrev tU:Stmt:=top 55
abbrev Az:Stmt:=top 56
abbrev ue:Stmt:=top 57
abbrev ud:Stmt:=top 58
abbrev As:Stmt:=top 59
abbrev tD:Stmt:=top 60
abbrev km:Stmt:=ym (top 6) 0
structure Ad where
 a_Q39:Addr
 d_Q39:FuncData
 a_Q0:Addr
 d_Q0:FuncData
 a_Q45:Addr
 d_Q45:FuncData
 a_Q49:Addr
 d_Q49:FuncData
 a_Q46:Addr
 d_Q46:FuncData
 a_Q47:Addr
 d_Q47:FuncData
 a_Q50:Addr
 d_Q50:FuncData
 a_Q40:Addr
 d_Q40:FuncData
 a_Q30:Addr
 d_Q30:FuncData
 a_Q48:Addr
 d_Q48:FuncData
 a_Q5:Addr
 d_Q5:FuncData
 a_Q3:Addr
 d_Q3:FuncData
 a_Q4:Addr
 d_Q4:FuncData
 a_Q41:Addr
 d_Q41:FuncData
 a_Q11:Addr
 d_Q11:FuncData
 a_Q20:Addr
 d_Q20:FuncData
 a_Q21:Addr
 d_Q21:FuncData
 a_Q22:Addr
 d_Q22:FuncData
 a_Q6:Addr
 d_Q6:FuncData
 a_Q9:Addr
 d_Q9:FuncData
 a_Q7:Addr
 d_Q7:FuncData
 a_Q23:Addr
 d_Q23:FuncData
 a_Q24:Addr
 d_Q24:FuncData
 a_Q12:Addr
 d_Q12:FuncData
 a_Q25:Addr
 d_Q25:FuncData
 a_Q31:Addr
 d_Q31:FuncData
 a_Q32:Addr
 d_Q32:FuncData
 a_Q26:Addr
 d_Q26:FuncData
 a_Q33:Addr
 d_Q33:FuncData
 a_Q13:Addr
 d_Q13:FuncData
 a_Q27:Addr
 d_Q27:FuncData
 a_Q10:Addr
 d_Q10:FuncData
 a_Q14:Addr
 d_Q14:FuncData
 a_Q28:Addr
 d_Q28:FuncData
 a_Q1:Addr
 d_Q1:FuncData
 a_Q15:Addr
 d_Q15:FuncData
 a_Q29:Addr
 d_Q29:FuncData
 a_Q2:Addr
 d_Q2:FuncData
 a_Q16:Addr
 d_Q16:FuncData
 a_Q17:Addr
 d_Q17:FuncData
 a_Q8:Addr
 d_Q8:FuncData
 a_Q51:Addr
 d_Q51:FuncData
 c_NOUGHT:Addr
 k_POWER:Tok
 c_base:Addr
 c_Q34:Addr
 a_Q34:Addr
 d_Q34:FuncData
 c_Q18:Addr
 c_Q35:Addr
 c_Q42:Addr
 c_Q43:Addr
 c_Q36:Addr
 c_Q44:Addr
 c_Q37:Addr
 c_Q19:Addr
 c_Q38:Addr
 c_LC:Addr
 c_LT:Addr
structure eE (K:PySem.W.Frag) (mg:Str->Option Value) (t:Ad):Prop where
 lhd:PySem.W.codeHdIn K t.c_LC t.c_LT=true
 lcd:t.d_Q3.code=.ref t.c_LC
 F_Q39:Fun K "copied" "copied" tO t.a_Q39 t.d_Q39
 b_Q39:aP K t.d_Q39 ["thing"] []
 m_Q39:mg "copied" = some (.ref t.a_Q39)
 F_Q0:Fun K "greatest_divisor" "greatest_divisor" AB t.a_Q0 t.d_Q0
 b_Q0:aP K t.d_Q0 ["one", "other"] []
 m_Q0:mg "greatest_divisor" = some (.ref t.a_Q0)
 F_Q45:Fun K "ratio" "ratio" tK t.a_Q45 t.d_Q45
 b_Q45:aP K t.d_Q45 ["top", "bottom"] []
 m_Q45:mg "ratio" = some (.ref t.a_Q45)
 F_Q49:Fun K "plus" "plus" tF t.a_Q49 t.d_Q49
 b_Q49:aP K t.d_Q49 ["one", "other"] []
 m_Q49:mg "plus" = some (.ref t.a_Q49)
 F_Q46:Fun K "minus" "minus" tJ t.a_Q46 t.d_Q46
 b_Q46:aP K t.d_Q46 ["one", "other"] []
 m_Q46:mg "minus" = some (.ref t.a_Q46)
 F_Q47:Fun K "times" "times" tH t.a_Q47 t.d_Q47
 b_Q47:aP K t.d_Q47 ["one", "other"] []
 m_Q47:mg "times" = some (.ref t.a_Q47)
 F_Q50:Fun K "over" "over" tE t.a_Q50 t.d_Q50
 b_Q50:aP K t.d_Q50 ["one", "other"] []
 m_Q50:mg "over" = some (.ref t.a_Q50)
 F_Q40:Fun K "raised" "raised" tN t.a_Q40 t.d_Q40
 b_Q40:aP K t.d_Q40 ["one", "power"] []
 m_Q40:mg "raised" = some (.ref t.a_Q40)
 F_Q30:Fun K "is_less" "is_less" tS t.a_Q30 t.d_Q30
 b_Q30:aP K t.d_Q30 ["one", "other"] []
 m_Q30:mg "is_less" = some (.ref t.a_Q30)
 F_Q48:Fun K "total" "total" tG t.a_Q48 t.d_Q48
 b_Q48:aP K t.d_Q48 ["some"] []
 m_Q48:mg "total" = some (.ref t.a_Q48)
 F_Q5:Fun K "whole_parts" "whole_parts" Aw t.a_Q5 t.d_Q5
 b_Q5:aP K t.d_Q5 ["some"] []
 m_Q5:mg "whole_parts" = some (.ref t.a_Q5)
 F_Q3:Fun K "falling_order" "falling_order" Ay t.a_Q3 t.d_Q3
 b_Q3:aP K t.d_Q3 ["some"] []
 m_Q3:mg "falling_order" = some (.ref t.a_Q3)
 F_Q4:Fun K "slope_between" "slope_between" Ax t.a_Q4 t.d_Q4
 b_Q4:aP K t.d_Q4 ["low", "high"] []
 m_Q4:mg "slope_between" = some (.ref t.a_Q4)
 F_Q41:Fun K "top_of" "top_of" tM t.a_Q41 t.d_Q41
 b_Q41:aP K t.d_Q41 ["rule"] []
 m_Q41:mg "top_of" = some (.ref t.a_Q41)
 F_Q11:Fun K "is_beyond" "is_beyond" uk t.a_Q11 t.d_Q11
 b_Q11:aP K t.d_Q11 ["rule", "speed"] []
 m_Q11:mg "is_beyond" = some (.ref t.a_Q11)
 F_Q20:Fun K "place_of" "place_of" uc t.a_Q20 t.d_Q20
 b_Q20:aP K t.d_Q20 ["rows", "speed"] []
 m_Q20:mg "place_of" = some (.ref t.a_Q20)
 F_Q21:Fun K "power_at" "power_at" ub t.a_Q21 t.d_Q21
 b_Q21:aP K t.d_Q21 ["rule", "speed"] []
 m_Q21:mg "power_at" = some (.ref t.a_Q21)
 F_Q22:Fun K "power_of" "power_of" ua t.a_Q22 t.d_Q22
 b_Q22:aP K t.d_Q22 ["rule", "speeds"] []
 m_Q22:mg "power_of" = some (.ref t.a_Q22)
 F_Q6:Fun K "hand_speeds" "hand_speeds" Av t.a_Q6 t.d_Q6
 b_Q6:aP K t.d_Q6 ["hands", "amounts"] []
 m_Q6:mg "hand_speeds" = some (.ref t.a_Q6)
 F_Q9:Fun K "turn_power" "turn_power" Ar t.a_Q9 t.d_Q9
 b_Q9:aP K t.d_Q9 ["rule", "hands", "amounts"] []
 m_Q9:mg "turn_power" = some (.ref t.a_Q9)
 F_Q7:Fun K "hands_power" "hands_power" Au t.a_Q7 t.d_Q7
 b_Q7:aP K t.d_Q7 ["rule", "hands", "plan"] []
 m_Q7:mg "hands_power" = some (.ref t.a_Q7)
 F_Q23:Fun K "_law_tape" "_law_tape" t7 t.a_Q23 t.d_Q23
 b_Q23:aP K t.d_Q23 ["_law_script"] []
 m_Q23:mg "_law_tape" = some (.ref t.a_Q23)
 F_Q24:Fun K "_law_draw" "_law_draw" t5 t.a_Q24 t.d_Q24
 b_Q24:aP K t.d_Q24 ["_law_tape_here", "_law_many"] []
 m_Q24:mg "_law_draw" = some (.ref t.a_Q24)
 F_Q12:Fun K "_law_alike" "_law_alike" uj t.a_Q12 t.d_Q12
 b_Q12:aP K t.d_Q12 ["_law_due", "_law_found"] []
 m_Q12:mg "_law_alike" = some (.ref t.a_Q12)
 F_Q25:Fun K "_law_frac" "_law_frac" tZ t.a_Q25 t.d_Q25
 b_Q25:aP K t.d_Q25 ["_law_top", "_law_bottom"] []
 m_Q25:mg "_law_frac" = some (.ref t.a_Q25)
 F_Q31:Fun K "_law_add" "_law_add" tR t.a_Q31 t.d_Q31
 b_Q31:aP K t.d_Q31 ["_law_one", "_law_other"] []
 m_Q31:mg "_law_add" = some (.ref t.a_Q31)
 F_Q32:Fun K "_law_mul" "_law_mul" tQ t.a_Q32 t.d_Q32
 b_Q32:aP K t.d_Q32 ["_law_one", "_law_other"] []
 m_Q32:mg "_law_mul" = some (.ref t.a_Q32)
 F_Q26:Fun K "_law_less" "_law_less" tY t.a_Q26 t.d_Q26
 b_Q26:aP K t.d_Q26 ["_law_one", "_law_other"] []
 m_Q26:mg "_law_less" = some (.ref t.a_Q26)
 F_Q33:Fun K "_law_sum" "_law_sum" tP t.a_Q33 t.d_Q33
 b_Q33:aP K t.d_Q33 ["_law_some"] []
 m_Q33:mg "_law_sum" = some (.ref t.a_Q33)
 F_Q13:Fun K "_law_works" "_law_works" ui t.a_Q13 t.d_Q13
 b_Q13:aP K t.d_Q13 ["_law_tape_here", "_law_many"] []
 m_Q13:mg "_law_works" = some (.ref t.a_Q13)
 F_Q27:Fun K "_law_rule" "_law_rule" tW t.a_Q27 t.d_Q27
 b_Q27:aP K t.d_Q27 ["_law_tape_here", "_law_kinks", "_law_most"] []
 m_Q27:mg "_law_rule" = some (.ref t.a_Q27)
 F_Q10:Fun K "_law_rising" "_law_rising" ul t.a_Q10 t.d_Q10
 b_Q10:aP K t.d_Q10 ["_law_some"] []
 m_Q10:mg "_law_rising" = some (.ref t.a_Q10)
 F_Q14:Fun K "_law_power" "_law_power" ug t.a_Q14 t.d_Q14
 b_Q14:aP K t.d_Q14 ["_law_rule_here", "_law_speed"] []
 m_Q14:mg "_law_power" = some (.ref t.a_Q14)
 F_Q28:Fun K "_law_plan" "_law_plan" tV t.a_Q28 t.d_Q28
 b_Q28:aP K t.d_Q28 ["_law_tape_here", "_law_works_here"] []
 m_Q28:mg "_law_plan" = some (.ref t.a_Q28)
 F_Q1:Fun K "_law_least_first" "_law_least_first" AA t.a_Q1 t.d_Q1
 b_Q1:aP K t.d_Q1 ["_law_some"] []
 m_Q1:mg "_law_least_first" = some (.ref t.a_Q1)
 F_Q15:Fun K "_law_marks" "_law_marks" uf t.a_Q15 t.d_Q15
 b_Q15:aP K t.d_Q15 ["_law_e"] []
 m_Q15:mg "_law_marks" = some (.ref t.a_Q15)
 F_Q29:Fun K "_law_mean" "_law_mean" tU t.a_Q29 t.d_Q29
 b_Q29:aP K t.d_Q29 ["_law_some", "_law_alone", "_law_hands"] []
 m_Q29:mg "_law_mean" = some (.ref t.a_Q29)
 F_Q2:Fun K "_law_hand_speeds" "_law_hand_speeds" Az t.a_Q2 t.d_Q2
 b_Q2:aP K t.d_Q2 ["_law_hands", "_law_amounts_here"] []
 m_Q2:mg "_law_hand_speeds" = some (.ref t.a_Q2)
 F_Q16:Fun K "_law_tried" "_law_tried" ue t.a_Q16 t.d_Q16
 b_Q16:aP K t.d_Q16 ["_law_rule_here", "_law_hands", "_law_amounts_here", "_law_plan_here"] []
 m_Q16:mg "_law_tried" = some (.ref t.a_Q16)
 F_Q17:Fun K "_law_right" "_law_right" ud t.a_Q17 t.d_Q17
 b_Q17:aP K t.d_Q17 ["_law_rule_here", "_law_hands", "_law_rows", "_law_plan_here"] []
 m_Q17:mg "_law_right" = some (.ref t.a_Q17)
 F_Q8:Fun K "_law_amounts" "_law_amounts" As t.a_Q8 t.d_Q8
 b_Q8:aP K t.d_Q8 ["_law_tape_here"] []
 m_Q8:mg "_law_amounts" = some (.ref t.a_Q8)
 F_Q51:Fun K "law" "law" tD t.a_Q51 t.d_Q51
 b_Q51:aP K t.d_Q51 ["_law_script"] []
 m_Q51:mg "law" = some (.ref t.a_Q51)
 m_NOUGHT:mg "NOUGHT" = some (.ref t.c_NOUGHT)
 q_NOUGHT:∀ H,bo K H t.c_NOUGHT [.int (0),.int (1)]
 m_POWER:mg "POWER" = some (.str "power" t.k_POWER)
 X_Q34:XC K t.c_Q34 t.a_Q34 (.ref t.c_base :: i7)
 F_Q34:Fun K "__init__" "NoSpeed.__init__" km t.a_Q34 t.d_Q34
 b_Q34:aP K t.d_Q34 ["self", "speed"] []
 m_Q34:mg "NoSpeed" = some (.ref t.c_Q34)
 n_Q34_speed:eN K t.c_Q34 "speed"
 g_Q34:ph K t.c_Q34
 m_Q18:mg "PaceError" = some (.ref t.c_Q18)
 m_Q35:mg "NoLeast" = some (.ref t.c_Q35)
 m_Q42:mg "NoMuch" = some (.ref t.c_Q42)
 m_Q43:mg "NoPlan" = some (.ref t.c_Q43)
 m_Q36:mg "NoPrice" = some (.ref t.c_Q36)
 m_Q44:mg "NoRoom" = some (.ref t.c_Q44)
 m_Q37:mg "NoSheet" = some (.ref t.c_Q37)
 m_Q19:mg "NoStretch" = some (.ref t.c_Q19)
 m_Q38:mg "NoRatio" = some (.ref t.c_Q38)
 x_catch:PySem.W.exmOne K (.ref t.c_Q34) (.ref t.c_Q18)=some true
 y_self:PySem.W.kitOne K (.ref t.c_Q34) (.ref t.c_Q34)=some true
 y_base:PySem.W.kitOne K (.ref t.c_Q34) (.ref t.c_Q18)=some true
 y_val:PySem.W.kitOne K (.ref t.c_Q34) (.type "ValueError")=some true
 y_not:PySem.W.kitAny K (.ref t.c_Q34) [.ref t.c_Q35,.ref t.c_Q42,.ref t.c_Q43,.ref t.c_Q36,.ref t.c_Q44,.ref t.c_Q37,.ref t.c_Q19]=some false
 z_ValueError:mg "ValueError" = none
 z_abs:mg "abs" = none
 z_all:mg "all" = none
 z_bool:mg "bool" = none
 z_int:mg "int" = none
 z_isinstance:mg "isinstance" = none
 z_len:mg "len" = none
 z_list:mg "list" = none
 z_min:mg "min" = none
 z_range:mg "range" = none
 z_repr:mg "repr" = none
 z_reversed:mg "reversed" = none
 z_sorted:mg "sorted" = none
 z_str:mg "str" = none
 z_sum:mg "sum" = none
 z_tuple:mg "tuple" = none
def fQ (_:PySem.W.Frag):Sp:=fun vs H Q _=>∃ a b:Int,vs=[.int a,.int b]/\Q (.int (Int.gcd a b:Nat)) H
def re (H:Hp) (Q:VK) (r:R):Prop:=∀ p,H p=none->Q (.ref p) (upd H p (.tup [.int r.1,.int r.2]))
def qE (K:PySem.W.Frag) (H:Hp) (Q:VK) (r:R):Prop:=∀ (v:V) (H':Hp),aS H H'->RV K H' v r->Q v H'
def sO (_:PySem.W.Frag):Sp:=fun vs H Q _=>∃ a b:Int,vs=[.int a,.int b]/\b≠0/\b.natAbs < 2 ^ 4000/\re H Q (iU a b)
def pF (K:PySem.W.Frag):Sp:=fun vs H Q _=>∃ (v w:V) (r q:R) (n m:Nat),vs=[v,w]/\RV K H v r/\RV K H w q/\Wf n r/\Wf m q/\n+m+1≤3000/\re H Q (aQ r q)
def sP (K:PySem.W.Frag):Sp:=fun vs H Q _=>∃ (v w:V) (r q:R) (n m:Nat),vs=[v,w]/\RV K H v r/\RV K H w q/\Wf n r/\Wf m q/\n+m+1≤3000/\qE K H Q (aj r q)
def mw (K:PySem.W.Frag):Sp:=fun vs H Q _=>∃ (v w:V) (r q:R) (n m:Nat),vs=[v,w]/\RV K H v r/\RV K H w q/\Wf n r/\Wf m q/\n+m+1≤3000/\re H Q (aC r q)
def wP (K:PySem.W.Frag):Sp:=fun vs H Q _=>∃ (v w:V) (r q:R) (n m:Nat),vs=[v,w]/\RV K H v r/\RV K H w q/\Wf n r/\Wf m q/\n+m+1≤3000/\q.1≠0/\qE K H Q (eI r q)
def jf (K:PySem.W.Frag):Sp:=fun vs H Q _=>∃ (v w:V) (r q:R) (n m:Nat),vs=[v,w]/\RV K H v r/\RV K H w q/\Wf n r/\Wf m q/\n+m+1≤3000/\Q (.bl (aD r q)) H
abbrev mJ:=jf
def qJ (K:PySem.W.Frag):Sp:=fun vs H Q _=>∃ (v:V) (r:R) (k:Int),vs=[v,.int k]/\RV K H v r/\Wf 98 r/\0≤k/\k≤4/\qE K H Q (gO r k.toNat)
theorem bi {i:Int} {n:Nat} (h:i.natAbs < 2 ^ n) (hn:n≤4000):i.natAbs < 2 ^ 4000:=Nat.lt_of_lt_of_le h (Nat.pow_le_pow_right (by decide) hn)
theorem om {K:PySem.W.Frag} {H:Hp} {p:Addr} {x y:Int} (_:aS H (upd H p (.tup [.int x,.int y]))):RV K (upd H p (.tup [.int x,.int y])) (.ref p) (x,y):=RV.of ag
theorem wc {a b:Int} (h:Int.gcd a b=1):Int.gcd (-a) b=1:=by rw [Int.neg_gcd];exact h
theorem fH {a g:Int} (hg:0 < g) (h:a.natAbs < 2 ^ 4000):(a / g).natAbs < 2 ^ 4000:=Nat.lt_of_le_of_lt (eL a hg) h
theorem jH {a b:Int} (hb:0 < b) (h:b.natAbs < 2 ^ 4000):((Int.gcd a b:Nat):Int).natAbs < 2 ^ 4000:=qb (by omega) h
theorem CG {n:Int} (h0:0≤n) (h1:n≤100):-(2 ^ 62)≤n/\n < 2 ^ 62:=by constructor <;> omega
theorem mP {a:Int} {i:Nat} (h:a.natAbs < 2 ^ 98) (hi:i≤4):(a ^ i).natAbs < 2 ^ 4000:=by
 rw [Int.natAbs_pow]
 refine Nat.lt_of_le_of_lt (Nat.pow_le_pow_left (Nat.le_of_lt h) i) ?_
 rw [← Nat.pow_mul]
 exact Nat.pow_lt_pow_right (by decide) (by omega)
def gy (K:PySem.W.Frag) (H:Hp) (v:V) (w:R×R):Prop:=∃ p x y,v=.ref p/\bo K H p [x,y]/\RV K H x w.1/\RV K H y w.2
theorem gy.mono {K:PySem.W.Frag} {H H':Hp} {v:V} {w:R×R} (h:gy K H v w) (t:ax K H H'):gy K H' v w:=let ⟨p,q,q',a,b,c,d⟩:=h;⟨p,q,q',a,t _ _ b,c.mono t,d.mono t⟩
instance:fW gy:=⟨fun t q=>q.mono t⟩
def nO (K:PySem.W.Frag) (H:Hp) (v:V):Rl->Prop
 | .pow k=>∃ p,v=.ref p/\bo K H p [.str (Str.ofString "power"),.int k]
 | .tab rows=>∃ p q xs,v=.ref p/\bo K H p [.str (Str.ofString "table"),.ref q]/\bo K H q xs/\bG (gy K H) xs rows
theorem nO.mono {K:PySem.W.Frag} {H H':Hp} {v:V} {rl:Rl} (h:nO K H v rl) (t:ax K H H'):nO K H' v rl:=by
 cases rl with
 | pow k=>obtain⟨p,a,b⟩:=h;exact⟨p,a,t _ _ b⟩
 | tab rows=>obtain⟨p,q,xs,a,b,c,d⟩:=h;exact⟨p,q,xs,a,t _ _ b,t _ _ c,d.mono fun _ _ z=>z.mono t⟩
structure Cd (a b:R×R):Prop where
 ne:(aj b.1 a.1).1≠0
 w1:Wf 99 (aj b.1 a.1)
 w2:Wf 198 (aj b.2 a.2)
 a1:Wf 98 a.1
 b1:Wf 98 b.1
 a2:Wf 197 a.2
 b2:Wf 197 b.2
theorem z8 {rows:List (R×R)} (h:cj rows) {i j:Nat} {a b:R×R} (hij:i < j) (ha:rows[i]?=some a) (hb:rows[j]?=some b):Cd a b:=
 let ⟨e1,e2,e3,_⟩:=h.slope hij ha hb
 let ma:=List.mem_of_getElem? ha
 let mb:=List.mem_of_getElem? hb
 ⟨e1,e2,e3,zM (h.sp a ma),zM (h.sp b mb),EH (h.pw a ma),EH (h.pw b mb)⟩
def ia (K:PySem.W.Frag):Sp:=fun vs H Q _=>∃ (v w:V) (a b:R×R),vs=[v,w]/\gy K H v a/\gy K H w b/\Cd a b/\qE K H Q (bU a b)
def mD (K:PySem.W.Frag):Sp:=fun vs H Q _=>∃ (q:Addr) (v:V) (xs:List V) (rows:List (R×R)) (s:R),vs=[.ref q,v]/\bo K H q xs/\bG (gy K H) xs rows/\cj rows/\RV K H v s/\o7 s/\dm (.tab rows) s/\Q (.int (dN rows s)) H
def ja (rows:List (R×R)):R:=(rows.getD (rows.length - 1) fb).1
def gR (a b:R×R) (s:R):R:=aQ a.2 (aC (bU a b) (aj s a.1))
def ow (rows:List (R×R)) (s:R):R:=if dN rows s=0 then (rows.getD 0 fb).2 else gR (rows.getD (dN rows s - 1) fb) (rows.getD (dN rows s) fb) s
def js:Rl->R->R
 | .pow k,s=>gO s k.toNat
 | .tab rows,s=>ow rows s
def cM:Rl->R->Bool
 | .pow _,_=>false
 | .tab rows,s=>aD (ja rows) s
theorem pV {rows:List (R×R)} (h:cj rows):∃ r,rows[rows.length - 1]?=some r/\ja rows=r.1:=by
 have n:=h.n2
 have e:rows[rows.length - 1]?=some (rows[rows.length - 1]'(by omega)):=List.getElem?_eq_getElem _
 exact⟨_,e,by unfold ja;rw [cn e]⟩
theorem i4 {rl:Rl} {s:R} (h:eY rl):cM rl s=false↔dm rl s:=by
 cases rl with
 | pow k=>exact⟨fun _=>trivial,fun _=>rfl⟩
 | tab rows=>
  obtain⟨r,e,er⟩:=pV (show cj rows from h)
  constructor
  ·intro z
   have z':aD (ja rows) s=false:=z
   exact⟨r,e,by rw [← er];exact z'⟩
  ·rintro⟨r',e',z⟩
   rw [e] at e'
   cases e'
   show aD (ja rows) s=false
   rw [er];exact z
theorem yd {a b:R×R} {s:R} (ok:Cd a b) (w:Wf 300 (bU a b)) (ws:Wf 98 s):Wf 197 (aj s a.1)/\Wf 497 (aC (bU a b) (aj s a.1))/\Wf 700 (gR a b s):=by
 have m:=mW ws ok.a1
 have tm:=fB w m
 exact⟨m,tm,(xF ok.a2 tm).mono (by decide)⟩
theorem pj {rows:List (R×R)} (h:cj rows) {s:R} (hs:o7 s) (hp:dN rows s=0):s=(0,1):=by
 obtain⟨y,ey⟩:=h.zero
 have c:=kH hs.bq.pos h.inc h.allP ey
 rw [hp] at c
 have c':aD (0,1) s=false:=c
 rw [ej] at c'
 have z:s.1 * 1≤0 * s.2:=c'
 have nn:=hs.nn
 have e:s.1=0:=by omega
 have cop:=hs.bq.cop
 have pos:=hs.bq.pos
 rw [e] at cop
 have:s.2.natAbs=1:=by simpa [Int.gcd] using cop
 exact Prod.ext e (by omega)
def n4 (_:PySem.W.Frag):Sp:=fun vs H Q _=>∃ i:Int,vs=[.int i]/\Q (.int i) H
def qK (K:PySem.W.Frag):Sp:=fun vs H Q _=>∃ (v:V) (r:R),vs=[v]/\RV K H v r/\qE K H Q r
def n5 (K:PySem.W.Frag) (C:Addr):Sp:=fun vs H Q _=>∃ (a:Addr) (v:V) (r:R),vs=[.ref a,v]/\H a=some (fV a C none)/\RV K H v r/\∀ (d:Addr) (u:V) (H1:Hp),aS H H1->RV K H1 u r->H1 d=none->d≠a->Q .non (upd (upd H1 a (fV a C (some d))) d (dO d [("speed", u)]))
def qI (K:PySem.W.Frag):Sp:=fun vs H Q _=>∃ (v:V) (rl:Rl),vs=[v]/\nO K H v rl/\eY rl/\(∀ k,rl=.pow k->Q .non H)/\∀ rows x,rl=.tab rows->RV K H x (ja rows)->Q x H
def lf (K:PySem.W.Frag):Sp:=fun vs H Q _=>∃ (v w:V) (rl:Rl) (s:R),vs=[v,w]/\nO K H v rl/\eY rl/\RV K H w s/\Wf 98 s/\Q (.bl (cM rl s)) H
def mC (K:PySem.W.Frag) (C:Addr):Sp:=fun vs H Q E=>∃ (v w:V) (rl:Rl) (s:R),vs=[v,w]/\nO K H v rl/\eY rl/\RV K H w s/\o7 s/\(dm rl s->qE K H Q (js rl s))/\(¬ dm rl s->∀ (d:Addr) (u:V) (H':Hp),aS H H'->RV K H' u s->H' d=some (dO d [("speed", u)])->E (.ref C) (some d) H')
theorem wM {K:PySem.W.Frag} {H:Hp} {x d C:Addr} {dx:Option Addr} {e o:HO} (hx:H x=some (fV x C dx)) (hd:H d=none):ax K H (jU (upd (upd H x e) d o) x):=fun p ys h=>by
 have nx:∀ u,H p=some u->(∀ q,u≠fV x C q)->p≠x:=fun u q n z=>by subst z;rw [hx] at q;exact n _ (Option.some.inj q).symm
 have go:∀ u,H p=some u->p≠x->(jU (upd (upd H x e) d o) x) p=some u:=fun u q n=>by
  unfold jU
  rw [if_neg n,av (aA q hd),av n];exact q
 rcases h with (h | ⟨ob,h⟩) | h
 ·exact .inl (.inl (go _ h (nx _ h fun q z=>by unfold fV at z;cases z)))
 ·exact .inl (.inr ⟨ob,go _ h (nx _ h fun q z=>by unfold fV at z;cases z)⟩)
 ·exact .inr h
theorem CF (k:Int):val (k,1)=(k:Rat):=by unfold val;show (k:Rat) / ((1:Int):Rat)=k;rw [show ((1:Int):Rat)=1 from rfl];grind
def yG (w:R×R):PyData:=.tuple [dR w.1,dR w.2]
theorem gy.deep {K:PySem.W.Frag} {H:Hp} {v:V} {w:R×R} (h:gy K H v w):bW K H v (yG w):=by
 obtain⟨p,x,y,rfl,hS,hx,hy⟩:=h
 exact .tup hS (.cons hx.deep (.cons hy.deep .nil))
def Co:Rl->PyData
 | .pow k=>.tuple [.str "power", .int k]
 | .tab rows=>.tuple [.str "table", .tuple (rows.map yG)]
theorem nO.deep {K:PySem.W.Frag} {H:Hp} {v:V}:∀ {rl:Rl},nO K H v rl->bW K H v (Co rl)
 | .pow k,h=>by
  obtain⟨p,rfl,hS⟩:=h
  exact .tup hS (.cons (.str _) (.cons (.int _) .nil))
 | .tab rows,h=>by
  obtain⟨p,q,xs,rfl,hS,hq,al⟩:=h
  exact .tup hS (.cons (.str _) (.cons (.tup hq (al.deep fun v d z=>gy.deep z)) .nil))
theorem pH {x:Str} (h:(PyData.str x).showable=true) (l:(PyData.str x).shown.length≤8):Sh 0 8 (.str x):=⟨h,rfl,Nat.le_refl 0,l⟩
theorem Ac {w:R×R} (h1:Wf 1000 w.1) (h2:Wf 1000 w.2):Sh 2 10020 (yG w):=by
 refine Sh.tup (k:=1) (n:=5000) (m:=2) (fun d hd=>?_) (Nat.le_refl _) (by decide)
 simp only [List.mem_cons,List.not_mem_nil,or_false] at hd
 rcases hd with rfl | rfl
 ·exact sZ h1 (by decide)
 ·exact sZ h2 (by decide)
theorem Ab {rows:List (R×R)} (h:∀ w∈rows,Wf 1000 w.1/\Wf 1000 w.2) (hl:rows.length≤12):Sh 4 250000 (Co (.tab rows)):=by
 have a:Sh 3 121000 (.tuple (rows.map yG)):=by
  refine Sh.tup (k:=2) (n:=10020) (m:=12) (fun d hd=>?_) (by rw [List.length_map];exact hl) (by decide)
  obtain⟨w,hw,rfl⟩:=List.mem_map.mp hd
  exact Ac (h w hw).1 (h w hw).2
 refine Sh.tup (k:=3) (n:=121000) (m:=2) (fun d hd=>?_) (Nat.le_refl _) (by decide)
 simp only [List.mem_cons,List.not_mem_nil,or_false] at hd
 rcases hd with rfl | rfl
 ·exact (pH (by decide +kernel) (by decide +kernel)).mono (by decide) (by decide)
 ·exact a
theorem CU {rl:Rl} (ok:eY rl):Sh 4 250000 (Co rl):=by
 cases rl with
 | pow k=>
  have h':2≤k/\k≤4:=ok
  have hk:k=2∨k=3∨k=4:=by omega
  refine Sh.tup (k:=3) (n:=121000) (m:=2) (fun d hd=>?_) (Nat.le_refl _) (by decide)
  simp only [List.mem_cons,List.not_mem_nil,or_false] at hd
  rcases hd with rfl | rfl
  ·exact (pH (by decide +kernel) (by decide +kernel)).mono (by decide) (by decide)
  ·rcases hk with rfl | rfl | rfl
   all_goals exact⟨rfl,rfl,Nat.zero_le _,Nat.le_trans (by decide +kernel:_≤8) (by decide)⟩
 | tab rows=>
  have h':cj rows:=ok
  exact Ab (fun w hw=>⟨(zM (h'.sp w hw)).mono (by decide),(EH (h'.pw w hw)).mono (by decide)⟩) h'.n12
abbrev Wk:=Nat×Nat×R
def Cp (K:PySem.W.Frag) (H:Hp) (v:V) (w:Wk):Prop:=∃ p x,v=.ref p/\bo K H p [.int w.1,.int w.2.1,x]/\RV K H x w.2.2
theorem Cp.mono {K:PySem.W.Frag} {H H':Hp} {v:V} {w:Wk} (h:Cp K H v w) (t:ax K H H'):Cp K H' v w:=let ⟨p,x,e,s,r⟩:=h;⟨p,x,e,t _ _ s,r.mono t⟩
instance:fW Cp:=⟨fun t q=>q.mono t⟩
structure rT (r:R):Prop where
 top:1≤r.1
 top':r.1≤12
 bot:1≤r.2
 bot':r.2≤7
 dvd:r.2∣84
 wf:Wf 4 r
structure Ca (w:Wk):Prop where
 le:w.1≤w.2.1
 lt:w.2.1 < 24
 am:rT w.2.2
def DU (K:PySem.W.Frag) (H:Hp) (v:V) (ws:List Wk):Prop:=∃ p xs,v=.ref p/\bo K H p xs/\bG (Cp K H) xs ws
theorem qq {a b:Int} (h1:1≤a) (h2:a≤12) (h3:1≤b) (h4:b≤7) (h5:b∣84):rT (cK a b):=by
 have g0:0 < (Int.gcd a b:Int):=bC (by omega)
 have da:(Int.gcd a b:Int)∣a:=Int.gcd_dvd_left a b
 have db:(Int.gcd a b:Int)∣b:=Int.gcd_dvd_right a b
 have p1:0 < a / (Int.gcd a b:Int):=Int.ediv_pos_of_pos_of_dvd (by omega) (Int.le_of_lt g0) da
 have p2:0 < b / (Int.gcd a b:Int):=Int.ediv_pos_of_pos_of_dvd (by omega) (Int.le_of_lt g0) db
 have q1:a / (Int.gcd a b:Int)≤a:=Int.ediv_le_self _ (by omega)
 have q2:b / (Int.gcd a b:Int)≤b:=Int.ediv_le_self _ (by omega)
 refine⟨p1,by show a / (Int.gcd a b:Int)≤12;omega,p2,by show b / (Int.gcd a b:Int)≤7;omega,Int.dvd_trans ?_ h5,gu (by omega) (by show a.natAbs < 16;omega) (by show b.natAbs < 16;omega)⟩
 exact⟨(Int.gcd a b:Int),(Int.ediv_mul_cancel db).symm⟩
def IM (w:Wk) (t:Nat):Bool:=decide (w.1≤t) && decide (t≤w.2.1)
theorem Af {i:Int} (h:i.natAbs < 2 ^ 100):Sh 0 2000 (.int i):=by
 refine⟨?_,rfl,Nat.le_refl _,Nat.le_trans (jA h (by decide)) (by decide)⟩
 show decide (i.natAbs.log2 < 1920)=true
 refine decide_eq_true ?_
 by_cases z:i.natAbs=0
 ·rw [z];decide
 ·exact Nat.lt_of_lt_of_le ((Nat.log2_lt z).mpr h) (by decide)
def HK (w:Wk):PyData:=.tuple [.int w.1,.int w.2.1,dR w.2.2]
def HJ (ws:List Wk):PyData:=.tuple (ws.map HK)
def kX (K:PySem.W.Frag):Sp:=fun vs H Q _=>∃ (t s:Addr) (m:Nat),vs=[.ref t,.int m]/\bx K H t s/\m≤64/\∀ (v:V) (ws:List Wk) (H':Hp),aX t H H'->bx K H' t s->DU K H' v ws->ws.length=m->(∀ w∈ws,Ca w)->Q v H'
def k6 (K:PySem.W.Frag):Sp:=fun vs H Q _=>∃ (v w:V) (rl:Rl) (s:R),vs=[v,w]/\nO K H v rl/\eY rl/\RV K H w s/\o7 s/\dm rl s/\qE K H Q (js rl s)
theorem vB {a b:R×R} {s:R} (a0:cF a.1) (a1:cF a.2) (b0:cF b.1) (b1:cF b.2) (hs:cF s) (h:0 < (aj b.1 a.1).1):aQ a.2 (aC (aC (aj b.2 a.2) (aj s a.1)) ((aj b.1 a.1).2,(aj b.1 a.1).1))=gR a b s:=by
 have m1:=cH b0.pos a0.pos
 have m2:=cH b1.pos a1.pos
 have m3:=cH hs.pos a0.pos
 have ne:(aj b.1 a.1).1≠0:=by omega
 have t1:cF (aC (aj b.2 a.2) (aj s a.1)):=bK (Int.mul_pos m2.pos m3.pos)
 have iv:0 < (((aj b.1 a.1).2,(aj b.1 a.1).1):R).2:=h
 have t2:cF (aC (aC (aj b.2 a.2) (aj s a.1)) ((aj b.1 a.1).2,(aj b.1 a.1).1)):=bK (Int.mul_pos t1.pos iv)
 have so:cF (bU a b):=eU m2.pos ne
 have t3:cF (aC (bU a b) (aj s a.1)):=bK (Int.mul_pos so.pos m3.pos)
 unfold gR
 refine dC (bK (Int.mul_pos a1.pos t2.pos)) (bK (Int.mul_pos a1.pos t3.pos)) ?_
 rw [dZ a1.pos t2.pos,dZ a1.pos t3.pos,dW t1.pos iv,dW m2.pos m3.pos,dW so.pos m3.pos]
 unfold bU
 rw [gC m2.pos m1.pos ne]
 have e:val (((aj b.1 a.1).2,(aj b.1 a.1).1):R)=1 / val (aj b.1 a.1):=by
  unfold val
  have x1:=bV m1.pos
  have x2:=bV h
  grind
 rw [e]
 have vz:val (aj b.1 a.1)≠0:=fun z=>ne ((i6 m1.pos).mp z)
 grind
theorem lW {K:PySem.W.Frag} {H:Hp} {xs:List V} {rs:List R} (h:bG (RV K H) xs rs):Ey K H xs rs:=⟨h.len,fun i x r hx hr=>by obtain⟨d,hd,p⟩:=h.at hx;rw [hr] at hd;cases hd;exact p⟩
theorem bG.rep {α:Type} {P:V->α->Prop} {v:V} {d:α} (k:P v d):∀ n:Nat,bG P (List.replicate n v) (List.replicate n d)
 | 0=>.nil
 | n+1=>.cons k (bG.rep k n)
def vk (ls:List Nat):List V:=ls.map fun n:Nat=>V.int n
theorem lK:fG "int" "tuple" = some false:=by decide +kernel
theorem m5:fG "int" "list" = some false:=by decide +kernel
theorem oM:fG "int" "str" = some false:=by decide +kernel
theorem iE:fG "int" "bool" = some false:=by decide +kernel
theorem oN:fG "int" "int" = some true:=by decide +kernel
theorem eC:fG "tuple" "tuple" = some true:=by decide +kernel
theorem fU:fG "tuple" "list" = some false:=by decide +kernel
def Iy:Wk:=(0,0,(0,1))
def nX (K:PySem.W.Frag):Sp:=fun vs H Q _=>∃ (a:Addr) (xs:List V) (rs:List R) (D N n:Nat),vs=[.ref a]/\aR K H a xs/\bG (RV K H) xs rs/\(∀ r∈rs,Bq D N r)/\0 < D/\D < 2 ^ n/\N * 64 * D < 2 ^ n/\rs.length≤64/\n≤1400/\qE K H Q (bR rs)
def Ie (K:PySem.W.Frag) (H:Hp) (a:Addr) (xs:List V):Prop:=aR K H a xs∨bo K H a xs
def sM (K:PySem.W.Frag):Sp:=fun vs H Q _=>∃ (a:Addr) (xs:List V) (rs:List R) (n D:Nat),vs=[.ref a]/\Ie K H a xs/\Ey K H xs rs/\(∀ r∈rs,Wf n r/\r.2∣(D:Int))/\0 < D/\D < 2 ^ n/\rs.length≤64/\n≤900/\∀ (v':V) (H':Hp),aS H H'->RV K H' v' (bR rs)->Q v' H'
theorem yK {D i n:Nat} {ps:List (Int×Int)} {r:R} (h:∀ p∈ps,p.1∣(D:Int)) (hr:r.2∣(D:Int)):∀ p∈eX ps r.2 r.1,p.1∣(D:Int):=fun p hp=>by
 rcases (hV ps r.2 r.1 p.1).mp (List.mem_map.mpr ⟨p,hp,rfl⟩) with z | z
 ·obtain⟨q,hq,e⟩:=List.mem_map.mp z
  rw [← e]
  exact h q hq
 ·rw [z];exact hr
theorem BQ {D n i:Nat} {ps:List (Int×Int)} (ok:iN n i ps) (hd:∀ p∈ps,p.1∣(D:Int)) (hi:i≤64) {q:Int×Int} (hq:q∈ps):Bq D (64 * 2 ^ n) (cK q.2 q.1):=by
 have b:=(ok.bot q hq).1
 refine iI b (hd q hq) (Nat.le_trans (ok.top q hq) ?_)
 refine Nat.le_trans (Nat.mul_le_mul_right _ hi) (Nat.le_mul_of_pos_right _ (by omega))
theorem B8 {D n j:Nat} {r:R} (h:Bq D (64 * 2 ^ n * j) r) (hj:j≤64) (h0:0 < D) (hD:D < 2 ^ n):Wf (2 * n+12) r:=by
 refine h.wf h0 (Nat.lt_of_lt_of_le hD (Nat.pow_le_pow_right (by decide) (by omega))) ?_
 have a:64 * 2 ^ n * j≤64 * 2 ^ n * 64:=Nat.mul_le_mul_left _ hj
 have b:64 * 2 ^ n * j * D < 64 * 2 ^ n * 64 * 2 ^ n:=Nat.lt_of_le_of_lt (Nat.mul_le_mul_right _ a) (Nat.mul_lt_mul_of_pos_left hD (Nat.mul_pos (Nat.mul_pos (by decide) (Nat.pow_pos (by decide))) (by decide)))
 refine Nat.lt_of_lt_of_le b ?_
 rw [show 2 * n+12=n+(n+12) by omega,Nat.pow_add,Nat.pow_add,show (2:Nat) ^ 12=4096 by decide]
 rw [show 64 * 2 ^ n * 64 * 2 ^ n=2 ^ n * (2 ^ n * 4096) by rw [show (4096:Nat)=64 * 64 by decide];ac_rfl]
 exact Nat.le_refl _
theorem kN {r:R} (h:rT r):Bq 84 12 r:=by
 have a:=h.top
 have b:=h.top'
 have c:=h.bot
 refine⟨by omega,h.wf.cop,h.dvd,?_⟩
 have:12 * 1≤12 * r.2.natAbs:=Nat.mul_le_mul_left _ (by omega)
 omega
theorem sJ {D N:Nat} (hD:0 < D):∀ {rs:List R},(∀ r∈rs,Bq D N r)->∀ {a:R} {M:Nat},Bq D M a->Bq D (M+N * rs.length) (rs.foldl aQ a)
 | [],_,a,M,h=>by simpa using h
 | r :: rs,hr,a,M,h=>by
  have:=sJ hD (fun q hq=>hr q (List.mem_cons_of_mem _ hq)) (h.plus hD (hr r List.mem_cons_self))
  rw [List.foldl_cons,List.length_cons,Nat.mul_succ]
  refine this.mono (Nat.dvd_refl _) (by omega)
theorem Fg {D:Nat}:Bq D 0 ((0,1):R):=⟨by decide,by decide,⟨(D:Int),by show (D:Int)=1 * D;omega⟩,by show 0≤_;exact Nat.zero_le _⟩
theorem iO {D N:Nat} (hD:0 < D) {rs:List R} (h:∀ r∈rs,Bq D N r):Bq D (N * rs.length) (bR rs):=by
 have:=sJ hD h (Fg (D:=D))
 rw [Nat.zero_add] at this
 exact this
theorem sI:∀ {rs:List R} {a:R},cF a->0≤a.1->(∀ r∈rs,cF r/\0≤r.1)->0≤(rs.foldl aQ a).1
 | [],_,_,h,_=>h
 | r :: rs,a,ha,h,hr=>by
  obtain⟨h1,h2⟩:=hr r List.mem_cons_self
  show 0≤(rs.foldl aQ (aQ a r)).1
  exact sI (a:=aQ a r) (bK (Int.mul_pos ha.pos h1.pos)) (pM ha h1 h h2) fun q hq=>hr q (List.mem_cons_of_mem _ hq)
theorem sj {a b:R} (ha:0 < a.2) (hb:0 < b.2) (h:0≤a.1) (k:0≤b.1):0≤(aC a b).1:=by
 have c:=cV (a:=a.1 * b.1) (Int.mul_pos ha hb)
 have p:=(bK (a:=a.1 * b.1) (Int.mul_pos ha hb)).pos
 have e:(aC a b).1 * (a.2 * b.2)=a.1 * b.1 * (aC a b).2:=c
 have z:0≤a.1 * b.1 * (aC a b).2:=Int.mul_nonneg (Int.mul_nonneg h k) (Int.le_of_lt p)
 rw [← e] at z
 have q:=Int.mul_pos ha hb
 rcases (show 0≤(aC a b).1∨(aC a b).1 < 0 by omega) with w | w
 ·exact w
 ·have:=Int.mul_neg_of_neg_of_pos w q
  omega
theorem pL {D N:Nat} {r:R} (h:Bq D N r):∀ k,Bq (D ^ k) (N ^ k) (gO r k)
 | 0=>by
  show Bq 1 1 ((1,1):R)
  exact⟨by decide,by decide,⟨1,by decide⟩,by decide⟩
 | k+1=>by
  rw [Nat.pow_succ,Nat.pow_succ]
  exact (pL h k).times h
theorem io {i:Int} {n:Nat} (h:i.natAbs≤n):Bq 1 n ((i,1):R):=⟨by show (0:Int) < 1;decide,by show Int.gcd i 1=1;simp,⟨1,by show ((1:Nat):Int)=1 * 1;decide⟩,by show i.natAbs≤n * 1;omega⟩
theorem pD {D N n:Nat} {rs:List R} (h:∀ r∈rs,Bq D N r) (h0:0 < D) (h1:D < 2 ^ n) (h2:N * 64 * D < 2 ^ n) (hl:rs.length≤64):Wf n (bR rs):=
 (iO h0 h).wf h0 h1 (Nat.lt_of_le_of_lt (Nat.mul_le_mul_right _ (Nat.mul_le_mul_left _ hl)) h2)
theorem wg {D N n:Nat} {r:R} (h:Bq D N r) (h0:0 < D) (h1:D < 2 ^ n) (h2:N * 64 * D < 2 ^ n):Wf n r:=
 h.wf h0 h1 (Nat.lt_of_le_of_lt (Nat.mul_le_mul_right _ (Nat.le_mul_of_pos_right _ (by decide))) h2)
theorem BZ {H:Hp} {x d:Addr} (n:d≠x):jU H x d=H d:=by unfold jU;rw [if_neg n]
def jR (K:PySem.W.Frag):Sp:=fun vs H Q _=>∃ (a:Addr) (xs:List V) (rs:List R),vs=[.ref a]/\aR K H a xs/\bG (RV K H) xs rs/\(∀ r∈rs,Wf 98 r)/\rs.length≤20/\∀ (l:Addr) (ys:List V) (zs:List R) (H':Hp),aS H H'->H l=none->H' l=some (.lst ys)->bG (RV K H') ys zs->zs.length≤rs.length->Cs zs->(∀ z∈zs,z∈rs)->Q (.ref l) H'
def m9 (H:Hp) (t D:Addr):Hp:=jU (jU H t) D
theorem BP {t D p:Addr} {H:Hp} {o:HO} (g:H p=none) (h:∃ xs,H t=some (.lst xs)) (h2:∃ ys,H D=some (.lst ys)):m9 (upd H p o) t D p=some o:=by
 unfold m9
 rw [BZ (show p≠D from fun z=>by subst z;obtain⟨_,q⟩:=h2;rw [g] at q;cases q)]
 exact BX g h
theorem Hv {t D p:Addr} {H:Hp} {o:HO} (g:H p=none) (h:∃ xs,H t=some (.lst xs)) (h2:∃ ys,H D=some (.lst ys)):aS H (upd H p o)/\upd H p o p=some o/\m9 (upd H p o) t D p=some o:=⟨ai g o,ag,BP g h h2⟩
theorem rW {t p:Addr} {H:Hp} (g:H p=none) (h:∃ xs,H t=some (.lst xs)):p≠t:=fun z=>by subst z;obtain⟨_,q⟩:=h;rw [g] at q;cases q
theorem jw {t D p:Addr} {H H':Hp} {o:HO} (e:upd H p o=H') (g:H p=none) (h:∃ xs,H t=some (.lst xs)) (h2:∃ ys,H D=some (.lst ys)):aS H H'/\H' p=some o/\m9 H' t D p=some o:=e ▸ Hv g h h2
theorem iL {K:PySem.W.Frag} {t s D:Addr} {H0 H H':Hp} (e:aS H H') (S:aX t H0 H) (T:bx K H t s) (h:∃ ys,H D=some (.lst ys)):aX t H0 H'/\bx K H' t s/\∃ ys,H' D=some (.lst ys):=⟨S.trans (.same e T.lst),T.same e,h.imp fun _ q=>e _ _ q⟩
abbrev mE:=sN
abbrev mL:=sR
def mK (_:PySem.W.Frag):Sp:=fun vs H Q _=>∃ a b:Int,vs=[.int a,.int b]/\0 < b/\b.natAbs < 2 ^ 4000/\re H Q (cK a b)
abbrev nZ:=pF
abbrev nY:=mw
theorem gP {r q:R}:aQ r (-q.1,q.2)=aj r q:=by
 unfold aQ aj
 congr 1
 show r.1 * q.2+-q.1 * r.2=r.1 * q.2 - q.1 * r.2
 rw [Int.neg_mul]
 rfl
abbrev DM:Nat:=449755225920
structure yP (r:R):Prop where
 bq:Bq DM 60 r
 pos:0 < r.1
 bot:r.2 < 1073741824
structure nJ (r:R):Prop where
 bq:Bq D0 540 r
 nn:0≤r.1
theorem nJ.sp {r:R} (h:nJ r):o7 r:=⟨h.bq.mono ⟨2,rfl⟩ (by decide),h.nn⟩
def zI (r:R):Prop:=Bq D0 540 r
theorem zI.wf {r:R} (h:zI r):Wf 98 r:=Bq.wf h (by decide) (by decide) (by decide)
theorem jC {a b:Int} (hb:0 < b) (hd:b∣((D0:Nat):Int)) (hl:a.natAbs≤540 * b.natAbs) (g:Int.gcd a b=1):zI ((a,b):R):=by
 have:=iI (D:=D0) (N:=540) hb hd hl
 rw [cG hb hb g rfl] at this
 exact this
def yM:Rl->Prop
 | .pow _=>True
 | .tab rows=>(∀ r∈rows,Bq D0 541 r.1/\Bq 68002990159104000 227222 r.2)/\∀ k,k+1 < rows.length->Bq 6 21 (rV rows k)
theorem ou {rl:Rl} {s:R} (ok:eY rl) (sm:yM rl) (hs:nJ s) (hb:dm rl s):Bq 16500877357173888629751223333757772330952457491316736000000000000 85030560000 (js rl s):=by
 cases rl with
 | pow k=>
  have ok':2≤k/\k≤4:=ok
  show Bq 16500877357173888629751223333757772330952457491316736000000000000 85030560000 (gO s k.toNat)
  have:=pL hs.bq k.toNat
  rcases (show k.toNat=2∨k.toNat=3∨k.toNat=4 by omega) with e | e | e <;> rw [e] at this ⊢
  ·exact this.mono ⟨D0 * D0,by decide⟩ (by decide)
  ·exact this.mono ⟨D0,by decide⟩ (by decide)
  ·exact this.mono ⟨1,by decide⟩ (by decide)
 | tab rows=>
  have ok':cj rows:=ok
  obtain⟨s1,s2⟩:=sm
  have pl:=ok'.p_lt hs.sp.bq.pos hb
  show Bq 16500877357173888629751223333757772330952457491316736000000000000 85030560000 (ow rows s)
  unfold ow
  split
  ·have e:rows[0]?=some (rows[0]'(by omega)):=List.getElem?_eq_getElem _
   rw [cn e]
   exact (s1 _ (List.mem_of_getElem? e)).2.mono ⟨242649291135101792038732235350641475584000000000,by decide⟩ (by decide)
  ·rename_i c
   have e1:rows[dN rows s - 1]?=some (rows[dN rows s - 1]'(by omega)):=List.getElem?_eq_getElem _
   have e2:rows[dN rows s]?=some (rows[dN rows s]'pl):=List.getElem?_eq_getElem _
   have e2':rows[dN rows s - 1+1]?=some (rows[dN rows s]'pl):=by rw [show dN rows s - 1+1=dN rows s by omega];exact e2
   have sl:=s2 (dN rows s - 1) (by omega)
   rw [sU e1 e2'] at sl
   rw [cn e1,cn e2]
   obtain⟨m1,m2⟩:=s1 _ (List.mem_of_getElem? e1)
   unfold gR
   have t:Bq 68002990159104000 22701 (aC (bU (rows[dN rows s - 1]'(by omega)) (rows[dN rows s]'pl)) (aj s (rows[dN rows s - 1]'(by omega)).1)):=(sl.times (Bq.minus (by decide) hs.bq m1)).mono ⟨1,by decide⟩ (by decide)
   exact (Bq.plus (by decide) m2 t).mono ⟨242649291135101792038732235350641475584000000000,by decide⟩ (by decide)
theorem lU {rl:Rl} {s:R} (ok:eY rl) (h:cM rl s=false):dm rl s:=by
 cases rl with
 | pow k=>exact trivial
 | tab rows=>exact (i4 ok).mp h
theorem n9 {p s z x:R} (hp:cF p) (hs:cF s) (hz:cF z) (hx:cF x) (h:aD x z=true):bU (x,p) (z,aQ p (aC s (aQ z (-x.1,x.2))))=s:=by
 rw [gP]
 have ne:=mX hz hx h
 have m:=cH hz.pos hx.pos
 have t:cF (aC s (aj z x)):=bK (Int.mul_pos hs.pos m.pos)
 have q:cF (aQ p (aC s (aj z x))):=bK (Int.mul_pos hp.pos t.pos)
 have w:=cH q.pos hp.pos
 show eI (aj (aQ p (aC s (aj z x))) p) (aj z x)=s
 refine dC (eU w.pos ne) hs ?_
 rw [gC w.pos m.pos ne,fK q.pos hp.pos,dZ hp.pos t.pos,dW hs.pos m.pos]
 have vz:val (aj z x)≠0:=fun y=>ne ((i6 m.pos).mp y)
 grind
theorem sW {rows:List (R×R)} {r:R×R} {k:Nat} (h:k+1 < rows.length):rV (rows++[r]) k=rV rows k:=by
 unfold rV
 rw [List.getD_eq_getElem?_getD,List.getD_eq_getElem?_getD,List.getD_eq_getElem?_getD,List.getD_eq_getElem?_getD,List.getElem?_append_left (by omega),List.getElem?_append_left h]
theorem sV {rows:List (R×R)} {r a:R×R} {i:Nat} (hl:rows.length=i+1) (h:rows[i]?=some a):rV (rows++[r]) i=bU a r:=by
 refine sU ?_ ?_
 ·rw [List.getElem?_append_left (by omega)];exact h
 ·rw [List.getElem?_append_right (by omega),hl,Nat.sub_self];rfl
def mG (K:PySem.W.Frag):Sp:=fun vs H Q _=>∃ (t s kl:Addr) (xk:List V) (v:V) (ks:List R) (rm:R),vs=[.ref t,.ref kl,v]/\bx K H t s/\kl≠t/\H kl=some (.lst xk)/\bG (RV K H) xk ks/\(∀ r∈ks,zI r)/\ks.length≤24/\RV K H v rm/\zI rm/\0≤rm.1/\∀ (u:V) (rl:Rl) (H':Hp),aX t H H'->bx K H' t s->nO K H' u rl->eY rl->yM rl->Q u H'
def k7 (K:PySem.W.Frag) (C:Addr):Sp:=fun vs H Q _=>∃ (x dd:Addr) (fs:List (Str×V)),vs=[.ref x]/\H x=some (rJ x C dd)/\H dd=some (dO dd fs)/\∀ (l:Addr) (H':Hp),aS H H'->H' l=some (.lst [.bl true,.bl true,.bl true,.bl false])->Q (.ref l) H'
def qL (_:PySem.W.Frag):Sp:=fun vs H Q _=>∃ i:Int,vs=[.int i,.int i]/\Q (.bl true) H
def k8 (K:PySem.W.Frag):Sp:=fun vs H Q _=>∃ (v w:V) (r:R),vs=[v,w]/\RV K H v r/\RV K H w r/\∀ H',aS H H'->Q (.bl true) H'
theorem E8 {B b:Int} {D:Nat} (hB:0 < B) (hb:0 < b) (h1:B∣(D:Int)) (h2:b∣(D:Int)):0 < B * (b / (Int.gcd B b:Int))/\B * (b / (Int.gcd B b:Int))∣(D:Int)/\B∣B * (b / (Int.gcd B b:Int))/\b∣B * (b / (Int.gcd B b:Int)):=by
 obtain⟨m,rfl⟩:=Int.eq_ofNat_of_zero_le (Int.le_of_lt hB)
 obtain⟨n,rfl⟩:=Int.eq_ofNat_of_zero_le (Int.le_of_lt hb)
 have e:(m:Int) * ((n:Int) / (Int.gcd m n:Int))=((Nat.lcm m n:Nat):Int):=by
  show (m:Int) * ((n:Int) / ((Nat.gcd m n:Nat):Int))=_
  rw [← Int.natCast_ediv,← Int.natCast_mul]
  unfold Nat.lcm
  rw [Nat.mul_div_assoc _ (Nat.gcd_dvd_right m n)]
 rw [e]
 have p:=Nat.lcm_pos (show 0 < m by omega) (show 0 < n by omega)
 exact⟨by omega,Int.natCast_dvd_natCast.mpr (Nat.lcm_dvd (Int.natCast_dvd_natCast.mp h1) (Int.natCast_dvd_natCast.mp h2)),Int.natCast_dvd_natCast.mpr (Nat.dvd_lcm_left m n),Int.natCast_dvd_natCast.mpr (Nat.dvd_lcm_right m n)⟩
def qA (B:Int) (rs:List R):List Int:=rs.map fun r=>r.1 * (B / r.2)
def jd (K:PySem.W.Frag):Sp:=fun vs H Q _=>∃ (a:Addr) (xs:List V) (rs:List R) (D:Nat),vs=[.ref a]/\bo K H a xs/\bG (RV K H) xs rs/\rs.length≤60/\0 < D/\D < 4611686018427387904/\(∀ r∈rs,(0 < r.2/\r.2 < 1073741824)/\r.2∣(D:Int))/\∀ (l:Addr) (B:Int) (H':Hp),aS H H'->H l=none->0 < B->(∀ r∈rs,r.2∣B)->H' l=some (.lst ((qA B rs).map V.int))->Q (.ref l) H'
abbrev Fa:Pos:=⟨106,41,106,68⟩
abbrev E9:Str:=("falling_order" : Str) ++ ".<locals>." ++ "<lambda>"
abbrev TB (H:Hp) (T:Addr):Prop:=o6 H T E9 Fa
def zJ (rs:List R) (ms:List Nat):Prop:=ms.Perm (List.range rs.length)/\ms.Pairwise fun i j=>aD (rs.getD i (0,1)) (rs.getD j (0,1))=false
def ib (K:PySem.W.Frag) (T:Addr):Sp:=fun vs H Q _=>∃ (a:Addr) (xs:List V) (rs:List R) (D:Nat),vs=[.ref a]/\bo K H a xs/\bG (RV K H) xs rs/\rs.length≤60/\0 < D/\D < 4611686018427387904/\(∀ r∈rs,(0 < r.2/\r.2 < 1073741824)/\r.2∣(D:Int))/\TB H T/\∀ (l:Addr) (ms:List Nat) (H':Hp),cN T H H'->TB H' T->H l=none->zJ rs ms->H' l=some (.lst (ms.map fun i:Nat=>V.int i))->Q (.ref l) H'
theorem nQ {B:Int} {r q:R} (hB:0 < B) (hr:0 < r.2) (hq:0 < q.2) (dr:r.2∣B) (dq:q.2∣B) (h:-(r.1 * (B / r.2))≤-(q.1 * (B / q.2))):aD r q=false:=by
 rw [ej]
 obtain⟨x,rfl⟩:=id dr
 obtain⟨y,ey⟩:=id dq
 rw [Int.mul_ediv_cancel_left _ (by omega)] at h
 rw [show r.2 * x / q.2=y by rw [ey];exact Int.mul_ediv_cancel_left _ (by omega)] at h
 have h':q.1 * y≤r.1 * x:=by omega
 have yp:0 < y:=Int.pos_of_mul_pos_right (by rw [← ey];exact hB) (by omega)
 have m:=Int.mul_le_mul_of_nonneg_right h' (show 0≤r.2 * q.2 from Int.mul_nonneg (by omega) (by omega))
 refine Int.le_of_mul_le_mul_right (a:=r.2 * x) ?_ hB
 have e1:q.1 * r.2 * (r.2 * x)=q.1 * y * (r.2 * q.2):=by rw [ey];ac_rfl
 have e2:r.1 * q.2 * (r.2 * x)=r.1 * x * (r.2 * q.2):=by ac_rfl
 rw [e1,e2]
 exact m
theorem zO {r:R} (hr:0 < r.2):0≤val r↔0≤r.1:=by
 have a:=dP hr (show (0:Int) < ((0,1):R).2 by decide)
 rw [fX] at a
 rw [← a]
 exact yb
theorem Gh {r:R} {m:Nat} (hr:0 < r.2) (h:0 < m):eI r ((m:Int),1)=aC r (1,(m:Int)):=by
 unfold eI aC
 show iU (r.1 * 1) (r.2 * (m:Int))=cK (r.1 * 1) (r.2 * (m:Int))
 exact lH (Int.mul_pos hr (by omega))
def iM (l:List R):Prop:=l.Pairwise fun a b=>aD a b=false
theorem kg:∀ {l m:List R},l.Perm m->(∀ r∈l,cF r)->iM l->iM m->l=m
 | [],m,p,_,_,_=>List.Perm.nil_eq p
 | a :: l,[],p,_,_,_=>by have:=p.length_eq;simp at this
 | a :: l,b :: m,p,hr,s1,s2=>by
  have h1:=List.pairwise_cons.mp s1
  have h2:=List.pairwise_cons.mp s2
  have ra:=hr a List.mem_cons_self
  have rb:=hr b (p.mem_iff.mpr List.mem_cons_self)
  have e:a=b:=by
   have ma:a∈b :: m:=p.mem_iff.mp List.mem_cons_self
   have mb:b∈a :: l:=p.mem_iff.mpr List.mem_cons_self
   have l1:val a≤val b:=by
    rcases List.mem_cons.mp ma with z | z
    ·rw [z];exact Rat.le_refl
    ·exact (dP rb.pos ra.pos).mp (h2.1 a z)
   have l2:val b≤val a:=by
    rcases List.mem_cons.mp mb with z | z
    ·rw [z];exact Rat.le_refl
    ·exact (dP ra.pos rb.pos).mp (h1.1 b z)
   exact dC ra rb (Rat.le_antisymm l1 l2)
  subst e
  rw [kg (List.Perm.cons_inv p) (fun r hr'=>hr r (List.mem_cons_of_mem _ hr')) h1.2 h2.2]
def cA (h:Nat) (S:List R) (k:Nat):R:=eI (bR (S.drop k)) (((h - k:Nat):Int),1)
def nN (h:Nat) (S:List R) (k:Nat):Bool:=aD (cA h S k) (S.getD k (0,1))
structure yQ (h:Nat) (S:List R) (k:Nat):Prop where
 le:k≤S.length
 go:∀ j,j < k->nN h S j=true
 st:k < S.length->nN h S k=false
theorem yQ.uniq {h:Nat} {S:List R} {k l:Nat} (a:yQ h S k) (b:yQ h S l):k=l:=by
 rcases Nat.lt_trichotomy k l with z | z | z
 ·have:=a.st (Nat.lt_of_lt_of_le z b.le)
  rw [b.go k z] at this;cases this
 ·exact z
 ·have:=b.st (Nat.lt_of_lt_of_le z a.le)
  rw [a.go l z] at this;cases this
def pZ (h:Nat) (S:List R) (k:Nat):List R:=S.take k++List.replicate (h - k) (cA h S k)
structure cE (S:List R):Prop where
 ok:∀ r∈S,yP r
 len:S.length≤9
theorem cE.perm {S T:List R} (h:cE S) (p:T.Perm S):cE T:=⟨fun r hr=>h.ok r (p.mem_iff.mp hr),by rw [p.length_eq];exact h.len⟩
theorem cE.red {S:List R} (h:cE S):∀ r∈S,cF r:=fun r hr=>(h.ok r hr).bq.red
theorem gX {S:List R} (h:cE S) (k:Nat):∀ r∈S.drop k,cF r:=fun r hr=>h.red r (List.mem_of_mem_drop hr)
theorem cD {S:List R} (h:cE S) (k:Nat):Bq DM 540 (bR (S.drop k)):=
 (iO (by decide) fun r hr=>(h.ok r (List.mem_of_mem_drop hr)).bq).mono (Nat.dvd_refl _) (by have:=h.len;rw [List.length_drop];have:60 * (S.length - k)≤60 * 9:=Nat.mul_le_mul_left _ (by omega);omega)
theorem qf {S:List R} (h:cE S) (k:Nat):0≤(bR (S.drop k)).1:=
 sI (by exact⟨by decide,by decide⟩) (by decide) fun r hr=>⟨gX h k r hr,Int.le_of_lt (h.ok r (List.mem_of_mem_drop hr)).pos⟩
theorem pN {m:Nat} (h:0 < m):Bq m 1 ((1,(m:Int)):R):=⟨by show (0:Int) < _;omega,by simp,Int.dvd_refl _,by show (1:Int).natAbs≤1 * ((m:Int)).natAbs;omega⟩
theorem lI {h k:Nat} {S:List R} (a:cE S) (hk:k < h) (h9:h≤9):nJ (cA h S k):=by
 unfold cA
 have m0:0 < h - k:=by omega
 rw [Gh (cD a k).pos m0]
 refine⟨((cD a k).times (pN m0)).mono ?_ (by decide),sj (cD a k).pos (by show (0:Int) < _;omega) (qf a k) (by show (0:Int)≤1;decide)⟩
 have z:∀ m:Fin 10,0 < m.val->DM * m.val∣D0:=by decide
 exact z ⟨h - k,by omega⟩ m0
theorem jz {h k:Nat} {S:List R} (a:cE S) (hk:k < h):val (cA h S k) * ((h - k:Nat):Rat)=fx (S.drop k):=by
 unfold cA
 have ne:(((h - k:Nat):Int),(1:Int)).1≠0:=by show ((h - k:Nat):Int)≠0;omega
 rw [gC (cD a k).pos (by show (0:Int) < 1;decide) ne,CF,(cZ (gX a k)).2]
 have nz:(((h - k:Nat):Int):Rat)≠0:=fun z=>by
  have:((h - k:Nat):Int)=0:=by exact_mod_cast z
  omega
 show fx (S.drop k) / (((h - k:Nat):Int):Rat) * (((h - k:Nat):Int):Rat)=_
 generalize (((h - k:Nat):Int):Rat)=c at nz
 grind
theorem wI {l:List R} (h:∀ r∈l,yP r):0≤fx l:=by
 induction l with
 | nil=>exact Rat.le_refl
 | cons a l ih=>
  have:=ih fun r hr=>h r (List.mem_cons_of_mem _ hr)
  have b:=h a List.mem_cons_self
  have p:=(zO b.bq.pos).mpr (Int.le_of_lt b.pos)
  show 0≤val a+fx l
  grind
theorem lP {S:List R} {k:Nat} (hk:k < S.length):fx (S.drop k)=val (S.getD k (0,1))+fx (S.drop (k+1)):=by
 rw [List.drop_eq_getElem_cons hk,List.getD_eq_getElem?_getD,List.getElem?_eq_getElem hk]
 rfl
theorem jG {S:List R} {k:Nat} (hk:k < S.length):S.getD k (0,1)∈S:=by
 rw [List.getD_eq_getElem?_getD,List.getElem?_eq_getElem hk]
 exact List.getElem_mem hk
theorem lX {h k:Nat} {S:List R} (a:cE S) (h1:1≤h) (le:k≤S.length) (go:∀ j,j < k->nN h S j=true):k < h:=by
 rcases Nat.lt_or_ge k h with z | z
 ·exact z
 exfalso
 have g:=go (h - 1) (by omega)
 have hl:h - 1 < S.length:=by omega
 have mo:=(a.ok _ (jG hl)).bq.pos
 unfold nN at g
 have m:=jz a (show h - 1 < h by omega)
 have mp:0 < (cA h S (h - 1)).2:=by
  unfold cA
  exact (eU (cD a _).pos (by show ((h - (h - 1):Nat):Int)≠0;omega)).pos
 have l:=(fA mp mo).mp g
 rw [lP hl,show h - (h - 1)=1 by omega,show ((1:Nat):Rat)=1 from rfl] at m
 have n:=wI (l:=S.drop (h - 1+1)) fun r hr=>a.ok r (List.mem_of_mem_drop hr)
 grind
theorem vt {h k:Nat} {S:List R} (a:cE S) (hk:k < h):cF (cA h S k):=eU (cD a k).pos (by show ((h - k:Nat):Int)≠0;omega)
theorem oG {h k:Nat} {S:List R} (a:cE S) (hk:k+1 < h) (hl:k < S.length) (go:nN h S k=true):val (cA h S (k+1))≤val (S.getD k (0,1)):=by
 have l:=(fA (vt a (show k < h by omega)).pos (a.ok _ (jG hl)).bq.pos).mp go
 have m1:=jz a (show k < h by omega)
 have m2:=jz a hk
 rw [lP hl] at m1
 have e:((h - k:Nat):Rat)=((h - (k+1):Nat):Rat)+1:=by
  rw [show h - k=h - (k+1)+1 by omega,Rat.natCast_add];rfl
 have p:0 < ((h - (k+1):Nat):Rat):=Rat.natCast_pos.mpr (by omega)
 rw [e] at m1
 generalize ((h - (k+1):Nat):Rat)=c at *
 generalize val (cA h S k)=x at *
 generalize val (cA h S (k+1))=y at *
 generalize val (S.getD k (0,1))=z at *
 have q:x * (c+1) < z * (c+1):=Rat.mul_lt_mul_of_pos_right l (by grind)
 have r:y * c < z * c:=by grind
 by_cases w:y≤z
 ·exact w
 ·have:z * c≤y * c:=Rat.mul_le_mul_of_nonneg_right (by grind) (by grind)
  grind
theorem DE {h k:Nat} {S:List R} (a:cE S) (hk:k < h) (h9:h≤9):∀ s∈pZ h S k,nJ s:=fun s hs=>by
 rcases List.mem_append.mp hs with z | z
 ·have o:=a.ok s (List.mem_of_mem_take z)
  exact⟨o.bq.mono (by decide) (by decide),Int.le_of_lt o.pos⟩
 ·rw [(List.mem_replicate.mp z).2];exact lI a hk h9
theorem BN {h k:Nat} {S:List R} (le:k≤S.length) (hk:k < h):(pZ h S k).length=h:=by
 unfold pZ
 rw [List.length_append,List.length_take,List.length_replicate]
 omega
theorem BM {h k:Nat} {S:List R} (a:cE S) (so:iM S) (al:yQ h S k) (hk:k < h):∀ s∈pZ h S k,val s≤val ((pZ h S k).getD 0 (0,1)):=by
 by_cases k0:k=0
 ·subst k0
  intro s hs
  have e:pZ h S 0=List.replicate h (cA h S 0):=by unfold pZ;rw [List.take_zero,List.nil_append];rfl
  rw [e] at hs ⊢
  rw [(List.mem_replicate.mp hs).2,List.getD_eq_getElem?_getD,List.getElem?_replicate,if_pos (by omega)]
  exact Rat.le_refl
 ·have le:=al.le
  have e0:(pZ h S k).getD 0 (0,1)=S.getD 0 (0,1):=by
   unfold pZ
   rw [List.getD_eq_getElem?_getD,List.getElem?_append_left (by rw [List.length_take];omega),List.getElem?_take_of_lt (by omega),← List.getD_eq_getElem?_getD]
  have up:∀ j,j < S.length->val (S.getD j (0,1))≤val (S.getD 0 (0,1)):=fun j hj=>by
   by_cases j0:j=0
   ·rw [j0];exact Rat.le_refl
   ·have h1:S.getD 0 (0,1)=S[0]'(by omega):=by rw [List.getD_eq_getElem?_getD,List.getElem?_eq_getElem (by omega)];rfl
    have h2:S.getD j (0,1)=S[j]'hj:=by rw [List.getD_eq_getElem?_getD,List.getElem?_eq_getElem hj];rfl
    have:=List.pairwise_iff_getElem.mp so 0 j (by omega) hj (by omega)
    rw [h1,h2]
    exact (dP (a.ok _ (List.getElem_mem _)).bq.pos (a.ok _ (List.getElem_mem _)).bq.pos).mp this
  intro s hs
  rw [e0]
  rcases List.mem_append.mp hs with z | z
  ·obtain⟨j,hj⟩:=List.getElem?_of_mem (List.mem_of_mem_take z)
   have jl:=(List.getElem?_eq_some_iff.mp hj).1
   have:=up j jl
   rw [List.getD_eq_getElem?_getD,hj] at this
   exact this
  ·rw [(List.mem_replicate.mp z).2]
   have g:=al.go (k - 1) (by omega)
   have b:=oG a (k:=k - 1) (by omega) (by omega) g
   rw [show k - 1+1=k by omega] at b
   exact Rat.le_trans b (up (k - 1) (by omega))
theorem qN {S:List R} (a:cE S) {k:Nat} (hk:k < S.length):aj (bR (S.drop k)) (S.getD k (0,1))=bR (S.drop (k+1)):=by
 have o:=a.ok _ (jG hk)
 refine dC (cH (cD a k).pos o.bq.pos) (cD a (k+1)).red ?_
 rw [fK (cD a k).pos o.bq.pos,(cZ (gX a k)).2,(cZ (gX a (k+1))).2,lP hk]
 grind
theorem sH {l m:List R} (p:l.Perm m) (h:∀ r∈l,cF r):bR l=bR m:=by
 have hm:∀ r∈m,cF r:=fun r hr=>h r (p.mem_iff.mpr hr)
 refine dC (cZ h).1 (cZ hm).1 ?_
 rw [(cZ h).2,(cZ hm).2]
 clear h hm
 induction p with
 | nil=>rfl
 | cons x p ih=>show val x+_=val x+_;rw [ih]
 | swap x y l=>show val y+(val x+_)=val x+(val y+_);grind
 | trans _ _ i1 i2=>exact i1.trans i2
theorem vA {h k:Nat} {S:List R} (a:cE S) (hk:k < h):aC (bR (S.drop k)) (1,((h:Int) - (k:Int)))=cA h S k:=by
 unfold cA
 rw [Gh (cD a k).pos (show 0 < h - k by omega),show ((h:Int) - (k:Int))=((h - k:Nat):Int) by omega]
def rD (z:R):List R->List R
 | []=>[z]
 | a :: t=>if aD a z=true then z :: a :: t else a :: rD z t
def kW:List R->List R
 | []=>[]
 | a :: t=>rD a (kW t)
theorem ip (z:R):∀ l:List R,(rD z l).Perm (z :: l)
 | []=>List.Perm.refl _
 | a :: t=>by
  unfold rD
  split
  ·exact List.Perm.refl _
  ·exact ((ip z t).cons a).trans (List.Perm.swap z a t)
theorem eO:∀ l:List R,(kW l).Perm l
 | []=>List.Perm.refl _
 | a :: t=>(ip a (kW t)).trans ((eO t).cons a)
theorem m7 {z:R} (hz:0 < z.2):∀ {l:List R},(∀ r∈l,0 < r.2)->iM l->iM (rD z l)
 | [],_,_=>List.pairwise_singleton _ _
 | a :: t,hp,h=>by
  have h':=List.pairwise_cons.mp h
  have pa:=hp a List.mem_cons_self
  have pt:∀ r∈t,0 < r.2:=fun r hr=>hp r (List.mem_cons_of_mem _ hr)
  unfold rD
  split
  ·rename_i c
   refine List.pairwise_cons.mpr ⟨fun b hb=>?_,h⟩
   rcases List.mem_cons.mp hb with e | hb
   ·rw [e];exact dX c
   ·have l1:=(fA pa hz).mp c
    have l2:=(dP pa (pt b hb)).mp (h'.1 b hb)
    exact (dP hz (pt b hb)).mpr (by grind)
  ·rename_i c
   refine List.pairwise_cons.mpr ⟨fun b hb=>?_,m7 hz pt h'.2⟩
   rcases List.mem_cons.mp ((ip z t).mem_iff.mp hb) with e | hb
   ·rw [e];simpa using c
   ·exact h'.1 b hb
theorem kU:∀ {l:List R},(∀ r∈l,0 < r.2)->iM (kW l)
 | [],_=>List.Pairwise.nil
 | a :: t,h=>m7 (h a List.mem_cons_self) (fun r hr=>h r (List.mem_cons_of_mem _ ((eO t).mem_iff.mp hr))) (kU fun r hr=>h r (List.mem_cons_of_mem _ hr))
def Ev (h:Nat) (S:List R):Nat:=((List.range S.length).find? fun k=>!nN h S k).getD S.length
theorem jP (h:Nat) (S:List R):yQ h S (Ev h S):=by
 unfold Ev
 cases e:(List.range S.length).find? fun k=>!nN h S k with
 | none=>
  rw [List.find?_eq_none] at e
  refine⟨Nat.le_refl _,fun j hj=>?_,fun z=>absurd z (Nat.lt_irrefl _)⟩
  have hj':j < S.length:=hj
  have:=e j (List.mem_range.mpr hj')
  simpa using this
 | some k=>
  rw [List.find?_range_eq_some] at e
  obtain⟨e1,e2,e3⟩:=e
  refine⟨Nat.le_of_lt (List.mem_range.mp e2),fun j hj=>?_,fun _=>?_⟩
  ·have:=e3 j hj
   simpa using this
  ·show nN h S k=false
   simpa using e1
def oS (h:Nat) (rs:List R):List R:=pZ h (kW rs) (Ev h (kW rs))
def fm (h:Nat) (rs:List R):R:=(oS h rs).getD 0 (0,1)
theorem vM {h k:Nat} {S rs:List R} (a:cE rs) (p:S.Perm rs) (so:iM S) (al:yQ h S k):pZ h S k=oS h rs:=by
 have e:S=kW rs:=kg (p.trans (eO rs).symm) (fun r hr=>a.red r (p.mem_iff.mp hr)) so (kU fun r hr=>(a.red r hr).pos)
 subst e
 unfold oS
 rw [al.uniq (jP h (kW rs))]
theorem o0 {h:Nat} {rs:List R} (a:cE rs) (h1:1≤h):Ev h (kW rs) < h:=lX (a.perm (eO rs)) h1 (jP h _).le (jP h _).go
theorem iq {h:Nat} {rs:List R} (a:cE rs) (h1:1≤h) (h9:h≤9):∀ s∈oS h rs,nJ s:=DE (a.perm (eO rs)) (o0 a h1) h9
theorem fN {h:Nat} {rs:List R} (a:cE rs) (h1:1≤h):(oS h rs).length=h:=BN (jP h _).le (o0 a h1)
theorem yo {h:Nat} {rs:List R} (a:cE rs) (h1:1≤h):∀ s∈oS h rs,val s≤val (fm h rs):=BM (a.perm (eO rs)) (kU fun r hr=>(a.red r hr).pos) (jP h _) (o0 a h1)
theorem jF {h:Nat} {rs:List R} (a:cE rs) (h1:1≤h):(oS h rs)[0]?=some (fm h rs):=by
 have:=fN a h1
 unfold fm
 rw [List.getD_eq_getElem?_getD,List.getElem?_eq_getElem (by omega)]
 rfl
theorem vQ {h:Nat} {rs:List R} (a:cE rs) (h1:1≤h) (h9:h≤9):nJ (fm h rs):=iq a h1 h9 _ (List.mem_of_getElem? (jF a h1))
theorem wj {rl:Rl} {s z:R} (hs:0 < s.2) (hz:0 < z.2) (ok:eY rl) (l:val s≤val z) (b:dm rl z):dm rl s:=by
 cases rl with
 | pow k=>trivial
 | tab rows=>
  obtain⟨r,e,q⟩:=b
  have rp:=((show cj rows from ok).sp r (List.mem_of_getElem? e)).pos
  exact⟨r,e,(dP rp hs).mpr (Rat.le_trans l ((dP rp hz).mp q))⟩
theorem ir {rl:Rl} {h:Nat} {rs:List R} (ok:eY rl) (a:cE rs) (h1:1≤h) (h9:h≤9) (b:cM rl (fm h rs)=false):∀ s∈oS h rs,dm rl s:=fun s hs=>
 wj (iq a h1 h9 s hs).bq.pos (vQ a h1 h9).bq.pos ok (yo a h1 s hs) (lU ok b)
theorem ku {rl:Rl} {s:R} (ok:eY rl) (b:cM rl s=true):¬ dm rl s:=by
 cases rl with
 | pow k=>cases b
 | tab rows=>exact fun z=>by rw [(i4 ok).mpr z] at b;cases b
def xh (rl:Rl) (h:Nat) (rs:List R):R:=bR ((oS h rs).map (js rl))
theorem vS {l:List R}:(List.range l.length).map (fun i=>l.getD i (0,1))=l:=by
 refine List.ext_getElem? fun i=>?_
 rw [List.getElem?_map]
 by_cases h:i < l.length
 ·rw [List.getElem?_range h,List.getElem?_eq_getElem h]
  show some (l.getD i (0,1))=_
  rw [List.getD_eq_getElem?_getD,List.getElem?_eq_getElem h]
  rfl
 ·rw [List.getElem?_eq_none (by rw [List.length_range];omega),List.getElem?_eq_none (by omega)]
  rfl
theorem DO {rs:List R} {ms:List Nat} (f:zJ rs ms):(ms.map fun i=>rs.getD i (0,1)).Perm rs/\iM (ms.map fun i=>rs.getD i (0,1)):=by
 refine⟨?_,?_⟩
 ·have:=f.1.map fun i=>rs.getD i (0,1)
  rw [vS] at this
  exact this
 ·unfold iM
  rw [List.pairwise_map]
  exact f.2
theorem yc {ls:List Nat} {i x:Nat} (h:ls[i]?=some x):(vk ls)[i]?=some (V.int x):=by unfold vk;rw [List.getElem?_map,h];rfl
theorem mT {ls:List Nat}:(vk ls).length=ls.length:=List.length_map _
theorem iB {T:Addr} {H H':Hp} (s:aS H H') (tb:TB H T):TB H' T:=by
 rcases tb with tb | ⟨c,o,vs,tt,h1,h2,h3⟩
 ·exact .inl (s _ _ tb)
 ·exact .inr ⟨c,o,vs,tt,s _ _ h1,s _ _ h2,h3⟩
theorem TB.tbl {T:Addr} {H:Hp} (tb:TB H T):∃ ps,H T=some (.tbl ps):=by
 rcases tb with tb | ⟨c,o,vs,tt,h1,h2,h3⟩
 ·exact⟨_,tb⟩
 ·exact⟨_,h1⟩
theorem dt {K:PySem.W.Frag} {T:Addr} {H H':Hp} (s:cN T H H') (tb:TB H T):ax K H H':=fun p xs h=>by
 obtain⟨ps,e⟩:=tb.tbl
 rcases h with h | h
 ·rcases h with h | ⟨o,h⟩
  ·exact .inl (.inl (s _ _ (fun z=>by rw [z,e] at h;cases h) h))
  ·exact .inl (.inr ⟨o,s _ _ (fun z=>by rw [z,e] at h;cases h) h⟩)
 ·exact .inr h
def jh (K:PySem.W.Frag) (T:Addr):Sp:=fun vs H Q _=>∃ (h:Nat) (pa:Addr) (xs:List V) (rs:List R),vs=[.int h,.ref pa]/\bo K H pa xs/\bG (RV K H) xs rs/\cE rs/\1≤h/\h≤9/\TB H T/\∀ (l:Addr) (ys:List V) (H':Hp),cN T H H'->TB H' T->H' l=some (.lst ys)->bG (RV K H') ys (oS h rs)->Q (.ref l) H'
def mB (K:PySem.W.Frag) (C:Addr):Sp:=fun vs H Q E=>∃ (v:V) (l:Addr) (rl:Rl) (ys:List V) (ss:List R),vs=[v,.ref l]/\nO K H v rl/\eY rl/\yM rl/\aR K H l ys/\bG (RV K H) ys ss/\ss.length≤9/\(∀ s∈ss,nJ s)/\((∀ s∈ss,dm rl s)->qE K H Q (bR (ss.map (js rl))))/\∀ (i:Nat) (s:R),ss[i]?=some s->¬ dm rl s->(∀ (j:Nat) (z:R),j < i->ss[j]?=some z->dm rl z)->∀ (d:Addr) (u:V) (H':Hp),aS H H'->RV K H' u s->H' d=some (dO d [("speed", u)])->E (.ref C) (some d) H'
def jQ (K:PySem.W.Frag) (C T:Addr):Sp:=fun vs H Q E=>∃ (v:V) (rl:Rl) (h:Nat) (pa:Addr) (xs:List V) (rs:List R),vs=[v,.int h,.ref pa]/\nO K H v rl/\eY rl/\yM rl/\bo K H pa xs/\bG (RV K H) xs rs/\cE rs/\1≤h/\h≤9/\TB H T/\(cM rl (fm h rs)=false->∀ (u:V) (H':Hp),cN T H H'->TB H' T->RV K H' u (xh rl h rs)->Q u H')/\(cM rl (fm h rs)=true->∀ (d:Addr) (u:V) (H':Hp),cN T H H'->TB H' T->RV K H' u (fm h rs)->H' d=some (dO d [("speed", u)])->E (.ref C) (some d) H')
abbrev Pc:Type:=Int×R
def yO (K:PySem.W.Frag) (H:Hp) (v:V) (c:Pc):Prop:=∃ p x,v=.ref p/\bo K H p [.int c.1,x]/\RV K H x c.2
theorem yO.mono {K:PySem.W.Frag} {H H':Hp} {v:V} {c:Pc} (h:yO K H v c) (t:ax K H H'):yO K H' v c:=let ⟨p,x,a,b,d⟩:=h;⟨p,x,a,t _ _ b,d.mono t⟩
def Cq (K:PySem.W.Frag) (H:Hp) (v:V) (cs:List Pc):Prop:=∃ p xs,v=.ref p/\bo K H p xs/\bG (yO K H) xs cs
theorem Cq.mono {K:PySem.W.Frag} {H H':Hp} {v:V} {c:List Pc} (h:Cq K H v c) (t:ax K H H'):Cq K H' v c:=let ⟨p,x,a,b,d⟩:=h;⟨p,x,a,t _ _ b,d.mono fun _ _ z=>z.mono t⟩
instance:fW Cq:=⟨fun t q=>q.mono t⟩
def gz (K:PySem.W.Frag) (H:Hp) (v:V) (pl:List (List Pc)):Prop:=∃ p xs,v=.ref p/\bo K H p xs/\bG (Cq K H) xs pl
theorem gz.mono {K:PySem.W.Frag} {H H':Hp} {v:V} {c:List (List Pc)} (h:gz K H v c) (t:ax K H H'):gz K H' v c:=let ⟨p,x,a,b,d⟩:=h;⟨p,x,a,t _ _ b,d.mono fun _ _ z=>z.mono t⟩
structure qz (K:PySem.W.Frag) (H:Hp) (D:Addr) (rows:List Addr) (pl:List (List Pc)):Prop where
 top:H D=some (.lst (rows.map V.ref))
 len:rows.length=24
 pln:pl.length=24
 nd:rows.Nodup
 nD:D∉rows
 row:∀ (i:Nat) (r:Addr) (c:List Pc),rows[i]?=some r->pl[i]?=some c->∃ xs,H r=some (.lst xs)/\bG (yO K H) xs c
theorem qz.step {K:PySem.W.Frag} {H H':Hp} {D t:Addr} {rows:List Addr} {pl:List (List Pc)} (g:qz K H D rows pl) (nt:D≠t) (nr:t∉rows) (s:aX t H H'):qz K H' D rows pl:=by
 refine⟨s.keep _ _ nt g.top,g.len,g.pln,g.nd,g.nD,fun i r c hr hc=>?_⟩
 obtain⟨xs,hx,al⟩:=g.row i r c hr hc
 exact⟨xs,s.keep _ _ (fun z=>nr (z ▸ List.mem_of_getElem? hr)) hx,al.mono fun _ _ z=>z.mono (ax.step s)⟩
theorem qz.same {K:PySem.W.Frag} {H H':Hp} {D:Addr} {rows:List Addr} {pl:List (List Pc)} (g:qz K H D rows pl) (s:aS H H'):qz K H' D rows pl:=by
 refine⟨s _ _ g.top,g.len,g.pln,g.nd,g.nD,fun i r c hr hc=>?_⟩
 obtain⟨xs,hx,al⟩:=g.row i r c hr hc
 exact⟨xs,s _ _ hx,al.mono fun _ _ z=>z.mono (ax.same s)⟩
theorem qz.at {K:PySem.W.Frag} {H:Hp} {D:Addr} {rows:List Addr} {pl:List (List Pc)} (g:qz K H D rows pl) {r:Addr} (m:r∈rows):∃ xs c,H r=some (.lst xs)/\bG (yO K H) xs c:=by
 obtain⟨i,hi⟩:=List.getElem?_of_mem m
 have il:=(List.getElem?_eq_some_iff.mp hi).1
 have hc:pl[i]?=some (pl[i]'(by rw [g.pln,← g.len];exact il)):=List.getElem?_eq_getElem _
 obtain⟨xs,h,al⟩:=g.row i r _ hi hc
 exact⟨xs,_,h,al⟩
theorem eD {X:Cx} {K:PySem.W.Frag} (hK:X.K=K):dj X (.type "tuple") (fun xs H Q=>∃ p ys,xs=[.ref p]/\((aR K H p ys/\∀ l,H l=none->Q (.ref l) (upd H l (.tup ys)))∨(bo K H p ys/\Q (.ref p) H))):=by subst hK;exact cy
def o8 (l:List R):Prop:=l.Pairwise fun a b=>aD b a=false
theorem kf {z:R} (hz:0 < z.2):∀ {zs:List R},(∀ y∈zs,0 < y.2)->o8 zs->zs.take (zs.filter fun y=>!aD z y).length=zs.filter (fun y=>!aD z y)/\zs.drop (zs.filter fun y=>!aD z y).length=zs.filter fun y=>aD z y
 | [],_,_=>⟨rfl,rfl⟩
 | a :: t,hp,h=>by
  have h':=List.pairwise_cons.mp h
  have hpt:∀ y∈t,0 < y.2:=fun y hy=>hp y (List.mem_cons_of_mem _ hy)
  obtain⟨i1,i2⟩:=kf hz hpt h'.2
  cases c:aD z a with
  | false=>
   rw [List.filter_cons,List.filter_cons,c]
   simp only [Bool.not_false,if_true,List.length_cons,List.take_succ_cons,List.drop_succ_cons,Bool.false_eq_true,if_false]
   exact⟨by rw [i1],i2⟩
  | true=>
   have all:∀ y∈t,aD z y=true:=fun y hy=>vv hz (hp a List.mem_cons_self) (hpt y hy) c (h'.1 y hy)
   have e1:t.filter (fun y=>!aD z y)=[]:=List.filter_eq_nil_iff.mpr fun y hy=>by rw [all y hy];simp
   have e2:t.filter (fun y=>aD z y)=t:=List.filter_eq_self.mpr all
   rw [List.filter_cons,List.filter_cons,c]
   simp only [Bool.not_true,Bool.false_eq_true,if_false,if_true,e1,e2,List.length_nil,List.take_zero,List.drop_zero]
   exact⟨trivial,trivial⟩
theorem wQ {z:R} {zs:List R} (hz:0 < z.2) (hp:∀ y∈zs,0 < y.2) (h:o8 zs):o8 (zs.take (zs.filter fun y=>!aD z y).length++z :: zs.drop (zs.filter fun y=>!aD z y).length):=by
 obtain⟨i1,i2⟩:=kf hz hp h
 rw [i1,i2]
 unfold o8
 have A:∀ y∈zs.filter (fun y=>!aD z y),aD z y=false/\0 < y.2:=fun y hy=>⟨by simpa using (List.mem_filter.mp hy).2,hp y (List.mem_filter.mp hy).1⟩
 have B:∀ y∈zs.filter (fun y=>aD z y),aD z y=true/\0 < y.2:=fun y hy=>⟨(List.mem_filter.mp hy).2,hp y (List.mem_filter.mp hy).1⟩
 refine List.pairwise_append.mpr ⟨h.filter _,List.pairwise_cons.mpr ⟨fun b hb=>dX (B b hb).1,h.filter _⟩,fun a ha b hb=>?_⟩
 rcases List.mem_cons.mp hb with e | hb
 ·rw [e];exact (A a ha).1
 ·exact dX (zm (A a ha).2 hz (B b hb).2 (A a ha).1 (B b hb).1)
theorem vJ {z:R} {zs rs:List R} (j:Nat) (h:zs.Perm rs):(zs.take j++z :: zs.drop j).Perm (rs++[z]):=by
 have a:(zs.take j++z :: zs.drop j).Perm (z :: (zs.take j++zs.drop j)):=List.perm_middle
 rw [List.take_append_drop] at a
 exact a.trans ((h.cons z).trans (List.perm_append_singleton z rs).symm)
def l7 (c:List Pc):List R:=c.map fun q=>q.2
structure Fm (pl:List (List Pc)):Prop where
 len:pl.length≤24
 ok:∀ c∈pl,cE (l7 c)
 num:∀ c∈pl,∀ q∈c,0≤q.1/\q.1 < 24
def fR (rl:Rl) (h:Nat) (rows:List (List R)):R:=bR (rows.map (xh rl h))
theorem lE {rl:Rl} {h:Nat} {rs:List R} (ok:eY rl) (rt:yM rl) (a:cE rs) (h1:1≤h) (h9:h≤9) (b:cM rl (fm h rs)=false):Bq 16500877357173888629751223333757772330952457491316736000000000000 (85030560000 * 9) (xh rl h rs):=by
 have z:∀ r∈(oS h rs).map (js rl),Bq 16500877357173888629751223333757772330952457491316736000000000000 85030560000 r:=fun r hr=>by
  obtain⟨s,hs,rfl⟩:=List.mem_map.mp hr
  exact ou ok rt (iq a h1 h9 s hs) (ir ok a h1 h9 b s hs)
 refine (iO (by decide) z).mono (Nat.dvd_refl _) (Nat.mul_le_mul_left _ ?_)
 rw [List.length_map,fN a h1]
 exact h9
def jg (K:PySem.W.Frag) (C T:Addr):Sp:=fun vs H Q E=>∃ (v:V) (rl:Rl) (h:Nat) (w:V) (pl:List (List Pc)),vs=[v,.int h,w]/\nO K H v rl/\eY rl/\yM rl/\gz K H w pl/\Fm pl/\1≤h/\h≤9/\TB H T/\((∀ c∈pl,cM rl (fm h (l7 c))=false)->∀ (u:V) (H':Hp),cN T H H'->TB H' T->RV K H' u (fR rl h (pl.map l7))->Q u H')/\∀ (i:Nat) (c:List Pc),pl[i]?=some c->cM rl (fm h (l7 c))=true->(∀ (j:Nat) (z:List Pc),j < i->pl[j]?=some z->cM rl (fm h (l7 z))=false)->∀ (d:Addr) (u:V) (H':Hp),cN T H H'->TB H' T->RV K H' u (fm h (l7 c))->H' d=some (dO d [("speed", u)])->E (.ref C) (some d) H'
def mI (K:PySem.W.Frag):Sp:=fun vs H Q _=>∃ (l:Addr) (ys:List V) (S:List R) (h k:Nat),vs=[.ref l,.int k,.int h]/\aR K H l ys/\bG (RV K H) ys S/\cE S/\k≤S.length/\k < h/\h≤9/\qE K H Q (cA h S k)
def fY (K:PySem.W.Frag):Sp:=fun vs H Q _=>∃ (a:Addr) (xs:List V) (rs:List R),vs=[.ref a]/\bo K H a xs/\bG (RV K H) xs rs/\(∀ r∈rs,Wf 400 r)/\rs.length≤60/\∀ (l:Addr) (ys:List V) (zs:List R) (H':Hp),aS H H'->H l=none->H' l=some (.lst ys)->bG (RV K H') ys zs->zs.Perm rs->o8 zs->Q (.ref l) H'
def fZ (K:PySem.W.Frag):Sp:=fun vs H Q _=>∃ (h:Nat) (pa:Addr) (xs:List V) (rs:List R),vs=[.int h,.ref pa]/\bo K H pa xs/\bG (RV K H) xs rs/\cE rs/\1≤h/\h≤9/\∀ (l:Addr) (ys:List V) (H':Hp),aS H H'->H' l=some (.lst ys)->bG (RV K H') ys (oS h rs)->Q (.ref l) H'
theorem sS {l:List R} (h:o8 l):iM l.reverse:=by
 unfold iM
 rw [List.pairwise_reverse]
 exact h
theorem yJ {α:Type} {P:V->α->Prop} {xs:List V} {cs:List α} (h:bG P xs cs):bG P xs.reverse cs.reverse:=by
 induction h with
 | nil=>exact .nil
 | cons p q ih=>
  rw [List.reverse_cons,List.reverse_cons]
  exact ih.snoc p
structure Ct (r:R):Prop where
 bq:Bq 84 60 r
 pos:0 < r.1
theorem Ct.am {r:R} (h:Ct r):yP r:=⟨h.bq.mono (by decide) (by decide),h.pos,by have:=Int.le_of_dvd (by decide) h.bq.dvd;omega⟩
theorem zF {r:R} (h:rT r):Ct r:=⟨(kN h).mono (Nat.dvd_refl _) (by decide),by have:=h.top;omega⟩
theorem B7 {r:R} (h:rT r) {i:Int} (h1:1≤i) (h2:i≤44):Ct (aQ r (i,1)):=by
 have b:Bq 84 44 ((i,1):R):=(io (n:=44) (by omega)).mono (by decide) (Nat.le_refl _)
 refine⟨((kN h).plus (by decide) b).mono (Nat.dvd_refl _) (by decide),?_⟩
 have t:=h.top
 have c:=h.bot
 have e1:0 < r.1 * 1:=by omega
 have e2:0 < i * r.2:=Int.mul_pos (by omega) (by omega)
 exact iV (show 0 < r.1 * 1+i * r.2 by omega) (show 0 < r.2 * 1 by omega)
def rY (K:PySem.W.Frag) (H:Hp) (v:V) (rs:List R):Prop:=∃ p xs,v=.ref p/\bo K H p xs/\bG (RV K H) xs rs
def je (K:PySem.W.Frag):Sp:=fun vs H Q _=>∃ (t s:Addr),vs=[.ref t]/\bx K H t s/\∀ (v:V) (rs:List R) (H':Hp),aX t H H'->bx K H' t s->rY K H' v rs->rs.length≤9->(∀ r∈rs,Ct r)->Q v H'
abbrev Fp:Nat:=5354228880
theorem lh:∀ {ns:List Int} {m:Int},(∀ z∈ns,1≤z/\z≤m)->(ns.length:Int)≤ns.sum/\ns.sum≤m * ns.length
 | [],m,_=>⟨Int.le_refl _,by show (0:Int)≤m * 0;omega⟩
 | n :: t,m,h=>by
  have ih:=lh fun z hz=>h z (List.mem_cons_of_mem _ hz)
  have:=h n List.mem_cons_self
  rw [List.sum_cons,List.length_cons,Int.natCast_add,Int.mul_add]
  refine⟨?_,?_⟩
  ·show (t.length:Int)+1≤_;omega
  ·show _≤m * (t.length:Int)+m * 1;omega
theorem sY:∀ {ns:List Int},(∀ z∈ns,1≤z)->∀ {a:Int},a∈ns->a≤ns.sum
 | [],_,_,m=>by cases m
 | n :: t,h,a,m=>by
  have h':∀ z∈t,1≤z:=fun z hz=>h z (List.mem_cons_of_mem _ hz)
  have nn:0≤t.sum:=by
   clear m h a n
   induction t with
   | nil=>exact Int.le_refl _
   | cons b t ih=>rw [List.sum_cons];have:=h' b List.mem_cons_self;have:=ih fun z hz=>h' z (List.mem_cons_of_mem _ hz);omega
  have:=h n List.mem_cons_self
  rw [List.sum_cons]
  rcases List.mem_cons.mp m with e | e
  ·rw [e];omega
  ·have:=sY h' e;omega
theorem Aa {ns:List Int} (h:∀ z∈ns,1≤z/\z≤4/\(4 < ns.length->z=1)) (hl:ns.length≤24) {a:Int} (m:a∈ns):a≤ns.sum/\ns.sum≤24:=by
 refine⟨sY (fun z hz=>(h z hz).1) m,?_⟩
 by_cases c:4 < ns.length
 ·have:=(lh (m:=1) fun z hz=>⟨(h z hz).1,by rw [(h z hz).2.2 c];exact Int.le_refl _⟩).2
  omega
 ·have:=(lh (m:=4) fun z hz=>⟨(h z hz).1,(h z hz).2.1⟩).2
  omega
theorem z9 {S a:Int} (h1:1≤a) (h2:a≤S) (h3:S≤24):Bq Fp 1 (cK a S)/\0 < (cK a S).1/\(cK a S).2≤24:=by
 have sp:0 < S:=by omega
 refine⟨iI sp ?_ (by omega),iV (by omega) sp,?_⟩
 ·have z:∀ k:Fin 25,0 < k.val->((k.val:Nat):Int)∣(Fp:Int):=by decide
  have:=z ⟨S.toNat,by omega⟩ (show 0 < S.toNat by omega)
  rw [show (((⟨S.toNat,by omega⟩:Fin 25).val:Nat):Int)=S by show ((S.toNat:Nat):Int)=S;omega] at this
  exact this
 ·have:(cK a S).2≤S:=Int.ediv_le_self _ (by omega)
  omega
theorem xT {r:R} (h:rT r) {s:R} (b:Bq Fp 1 s) (p:0 < s.1) (q:s.2≤24):yP (aC r s):=by
 refine⟨((kN h).times b).mono (by decide) (by decide),iV (Int.mul_pos (by have:=h.top;omega) p) (Int.mul_pos (kN h).pos b.pos),?_⟩
 have rp:=(kN h).pos
 have b7:=h.bot'
 have m:r.2 * s.2≤7 * 24:=Int.mul_le_mul b7 q (Int.le_of_lt b.pos) (by decide)
 have:(aC r s).2≤r.2 * s.2:=Int.ediv_le_self _ (Int.le_of_lt (Int.mul_pos rp b.pos))
 omega
def Cm (f a n j:Nat):List Nat:=(List.range j).map fun k=>f+(a+k) % n
theorem wJ {f a n j:Nat} (h:j < n):f+(a+j) % n∉Cm f a n j:=fun m=>by
 obtain⟨k,hk,e⟩:=List.mem_map.mp m
 have kj:=List.mem_range.mp hk
 have e':(a+j) % n=(a+k) % n:=by omega
 have z:=Nat.sub_mod_eq_zero_of_mod_eq e'
 rw [show a+j - (a+k)=j - k by omega,Nat.mod_eq_of_lt (by omega)] at z
 omega
theorem si {f a n j:Nat}:Cm f a n (j+1)=Cm f a n j++[f+(a+j) % n]:=by unfold Cm;rw [List.range_succ,List.map_append];rfl
theorem qz.app {K:PySem.W.Frag} {H:Hp} {D:Addr} {rows:List Addr} {pl:List (List Pc)} (g:qz K H D rows pl) {i:Nat} {r:Addr} {c:List Pc} {xs:List V} {y:V} {pc:Pc} (hr:rows[i]?=some r) (hc:pl[i]?=some c) (hx:H r=some (.lst xs)) (al:bG (yO K H) xs c) (hy:yO K H y pc) :
  qz K (upd H r (.lst (xs++[y]))) D rows (pl.set i (c++[pc])):=by
 have tu:ax K H (upd H r (.lst (xs++[y]))):=ax.up hx _
 have mr:=List.mem_of_getElem? hr
 have nDr:D≠r:=fun z=>g.nD (by rw [z];exact mr)
 refine⟨by rw [av nDr];exact g.top,g.len,by rw [List.length_set];exact g.pln,g.nd,g.nD,fun i' r' c' hr' hc'=>?_⟩
 have il:=(List.getElem?_eq_some_iff.mp hc).1
 by_cases e:i'=i
 ·subst e
  rw [hr] at hr'
  cases hr'
  rw [List.getElem?_set_self il] at hc'
  cases hc'
  exact⟨_,ag,(al.mono fun _ _ z=>z.mono tu).snoc (hy.mono tu)⟩
 ·rw [List.getElem?_set_ne (Ne.symm e)] at hc'
  obtain⟨ys,hys,aly⟩:=g.row i' r' c' hr' hc'
  have ne:r'≠r:=fun z=>by
   obtain⟨h1,e1⟩:=List.getElem?_eq_some_iff.mp hr
   obtain⟨h2,e2⟩:=List.getElem?_eq_some_iff.mp hr'
   exact e ((List.getElem_inj (h₀:=h2) (h₁:=h1) g.nd).mp (by rw [e1,e2,z]))
  exact⟨ys,by rw [av ne];exact hys,aly.mono fun _ _ z=>z.mono tu⟩
def mH (K:PySem.W.Frag):Sp:=fun vs H Q _=>∃ (t s:Addr) (v:V) (ws:List Wk),vs=[.ref t,v]/\bx K H t s/\DU K H v ws/\ws.length≤9/\(∀ w∈ws,Ca w)/\∀ (v':V) (pl:List (List Pc)) (H':Hp),aX t H H'->bx K H' t s->gz K H' v' pl->Fm pl->0 < pl.length->Q v' H'
def Ic (K:PySem.W.Frag) (C:Addr) (H:Hp) (u:V) (due:R):Option R->Prop
 | none=>∃ p l v,u=.ref p/\bo K H p [v,.ref l]/\H l=some (.lst [])/\RV K H v due
 | some r=>∃ p l x dd w,u=.ref p/\bo K H p [.ref x,.ref l]/\H x=some (rJ x C dd)/\H dd=some (dO dd [("speed", w)])/\RV K H w r/\H l=some (.lst [.bl true,.bl true,.bl true,.bl false])
theorem oV {α:Type} {p:α->Bool} {ss:List α} {i:Nat} {s:α} (h:ss[i]?=some s) (hp:p s=true) (hb:∀ (j:Nat) (z:α),j < i->ss[j]?=some z->p z=false):ss.find? p=some s:=by
 induction ss generalizing i with
 | nil=>simp at h
 | cons x t ih=>
  cases i with
  | zero=>
   simp at h
   subst h
   exact List.find?_cons_of_pos hp
  | succ i=>
   have hx:=hb 0 x (Nat.succ_pos _) rfl
   rw [List.find?_cons_of_neg (by rw [hx];exact Bool.false_ne_true)]
   exact ih (i:=i) (by simpa using h) fun j z hj hz=>hb (j+1) z (Nat.succ_lt_succ hj) (by simpa using hz)
def dQ (rl:Rl) (h:Nat) (rows:List (List R)):Option R:=(rows.find? fun rs=>cM rl (fm h rs)).map (fm h)
theorem lN {rl:Rl} {h:Nat} {rows:List (List R)} (a:∀ rs∈rows,cM rl (fm h rs)=false):dQ rl h rows=none:=by
 unfold dQ
 rw [List.find?_eq_none.mpr fun s hs=>by rw [a s hs];exact Bool.false_ne_true]
 rfl
theorem oU {rl:Rl} {h:Nat} {rows:List (List R)} (e:dQ rl h rows=none):∀ rs∈rows,cM rl (fm h rs)=false:=fun rs hrs=>by
 unfold dQ at e
 rw [Option.map_eq_none_iff,List.find?_eq_none] at e
 have:=e rs hrs
 simpa using this
theorem zt {rl:Rl} {h i:Nat} {rows:List (List R)} {rs:List R} (e:rows[i]?=some rs) (b:cM rl (fm h rs)=true) (a:∀ (j:Nat) (z:List R),j < i->rows[j]?=some z->cM rl (fm h z)=false):dQ rl h rows=some (fm h rs):=by
 unfold dQ
 rw [oV e b a]
 rfl
theorem iX {rl:Rl} {h:Nat} {rows:List (List R)} {rs:List R} {r:R} (e:dQ rl h rows=some r):dQ rl h (rows++[rs])=some r:=by
 unfold dQ at e ⊢
 rw [List.find?_append]
 cases c:rows.find? fun rs=>cM rl (fm h rs) with
 | none=>rw [c] at e;cases e
 | some z=>rw [c] at e;exact e
theorem DN {rl:Rl} {h:Nat} {rows:List (List R)} {rs:List R} (e:dQ rl h rows=none) (b:cM rl (fm h rs)=true):dQ rl h (rows++[rs])=some (fm h rs):=by
 have a:=oU e
 unfold dQ
 rw [List.find?_append,List.find?_eq_none.mpr fun s hs=>by rw [a s hs];exact Bool.false_ne_true]
 rw [Option.none_or,List.find?_cons_of_pos (by exact b)]
 rfl
theorem Fe {rl:Rl} {h:Nat} {rows:List (List R)} {rs:List R} (e:dQ rl h rows=none) (b:cM rl (fm h rs)=false):dQ rl h (rows++[rs])=none:=lN fun z hz=>by
 rcases List.mem_append.mp hz with q | q
 ·exact oU e z q
 ·rw [List.mem_singleton.mp q];exact b
theorem wO {r:R} (h:cF r):bR [r]=r:=by
 have hr:∀ z∈[r],cF z:=fun z hz=>by rw [List.mem_singleton.mp hz];exact h
 refine dC (cZ hr).1 h ?_
 rw [(cZ hr).2]
 show val r+0=val r
 exact Rat.add_zero _
theorem vZ {rl:Rl} {h:Nat} {rows:List (List R)} {rs:List R}:fR rl h (rows++[rs])=aQ (fR rl h rows) (xh rl h rs):=by unfold fR bR;rw [List.map_append,List.foldl_append];rfl
theorem BW {rl:Rl} {h:Nat} {rows:List (List R)} (ok:eY rl) (rt:yM rl) (a:∀ rs∈rows,cE rs) (h1:1≤h) (h9:h≤9) (b:∀ rs∈rows,cM rl (fm h rs)=false) (l:rows.length≤24):Bq 16500877357173888629751223333757772330952457491316736000000000000 (85030560000 * 9 * 24) (fR rl h rows):=by
 have z:∀ r∈rows.map (xh rl h),Bq 16500877357173888629751223333757772330952457491316736000000000000 (85030560000 * 9) r:=fun r hr=>by
  obtain⟨rs,hs,rfl⟩:=List.mem_map.mp hr
  exact lE ok rt (a rs hs) h1 h9 (b rs hs)
 refine (iO (by decide) z).mono (Nat.dvd_refl _) (Nat.mul_le_mul_left _ ?_)
 rw [List.length_map]
 exact l
theorem rY.mono {K:PySem.W.Frag} {H H':Hp} {v:V} {rs:List R} (h:rY K H v rs) (t:ax K H H'):rY K H' v rs:=let ⟨p,x,a,b,d⟩:=h;⟨p,x,a,t _ _ b,d.mono fun _ _ z=>z.mono t⟩
def Et (rs:List R):PyData:=.tuple (rs.map dR)
theorem rY.deep {K:PySem.W.Frag} {H:Hp} {v:V} {rs:List R} (h:rY K H v rs):bW K H v (Et rs):=by
 obtain⟨p,xs,rfl,hS,al⟩:=h
 exact .tup hS (al.deep fun _ _ q=>q.deep)
def HM (c:Pc):PyData:=.tuple [.int c.1,dR c.2]
def HL (c:List Pc):PyData:=.tuple (c.map HM)
def Gu (pl:List (List Pc)):PyData:=.tuple (pl.map HL)
theorem gz.deep {K:PySem.W.Frag} {H:Hp} {v:V} {pl:List (List Pc)} (h:gz K H v pl):bW K H v (Gu pl):=by
 obtain⟨p,xs,rfl,hS,al⟩:=h
 refine .tup hS (al.deep fun _ _ q=>?_)
 obtain⟨p,xs,rfl,hS,al⟩:=q
 refine .tup hS (al.deep fun _ _ q=>?_)
 obtain⟨p,x,rfl,hS,rx⟩:=q
 exact .tup hS (.cons (.int _) (.cons rx.deep .nil))
def zG (K:PySem.W.Frag) (H:Hp) (x:V):Option (List (List Pc))->Prop
 | none=>x=.non
 | some pl=>gz K H x pl
def DS:Option (List (List Pc))->PyData
 | none=>.none
 | some pl=>Gu pl
theorem zG.mono {K:PySem.W.Frag} {H H':Hp} {x:V}:∀ {o:Option (List (List Pc))},zG K H x o->ax K H H'->zG K H' x o
 | none,h,_=>h
 | some _,h,t=>gz.mono h t
theorem zG.deep {K:PySem.W.Frag} {H:Hp} {x:V}:∀ {o:Option (List (List Pc))},zG K H x o->bW K H x (DS o)
 | none,h=>by cases (show x=.non from h);exact .non
 | some _,h=>gz.deep h
def lY (o:Option (List (List Pc))) (rows:List (List R)):Prop:=match o with
 | none=>∃ rs,rows=[rs]
 | some pl=>Fm pl/\rows=pl.map l7
theorem Ae {k n m N:Nat} {ds:List PyData} (h:∀ d∈ds,Sh k n d) (hm:ds.length≤m) (hN:(n+3) * m+8≤N):Sh (k+1) N (.list ds):=by
 obtain⟨a,b,c,e,f⟩:=Sh.all h
 refine⟨a,b,Nat.succ_le_succ c,?_⟩
 show (listText (PyData.shownAll ds)).length≤N
 have q:=listText_len_le (PyData.shownAll ds)
 have l:n * ds.length+3 * ds.length≤(n+3) * m:=by
  rw [← Nat.add_mul]
  exact Nat.mul_le_mul_left _ hm
 omega
theorem yP.sh {r:R} (h:yP r):Sh 1 5000 (dR r):=sZ (h.bq.wf (n:=60) (by decide) (by decide) (by decide)) (by decide)
theorem CV {o:Option (List (List Pc))} {rows:List (List R)} (h:lY o rows):Sh 5 2200000 (DS o):=by
 cases o with
 | none=>exact⟨rfl,rfl,Nat.zero_le _,by decide⟩
 | some pl=>
  obtain⟨pa,_⟩:=h
  refine (Sh.tup (k:=3) (n:=90200) (m:=24) (N:=2170000) (fun d hd=>?_) (by rw [List.length_map];exact pa.len) (by decide)).mono (by decide) (by decide)
  obtain⟨c,hc,rfl⟩:=List.mem_map.mp hd
  have ao:=pa.ok c hc
  refine (Sh.tup (k:=2) (n:=10014) (m:=9) (N:=90200) (fun d hd=>?_) (by have:=ao.len;unfold l7 at this;rw [List.length_map] at this ⊢;exact this) (by decide)).mono (by decide) (by decide)
  obtain⟨q,hq,rfl⟩:=List.mem_map.mp hd
  refine Sh.tup (k:=1) (n:=5000) (m:=2) (fun d hd=>?_) (Nat.le_refl _) (by decide)
  simp only [List.mem_cons,List.not_mem_nil,or_false] at hd
  have nq:=pa.num c hc q hq
  rcases hd with rfl | rfl
  ·have z100:(2:Nat)^100=1267650600228229401496703205376:=by decide
   exact (Af (by omega)).mono (by decide) (by decide)
  ·exact (ao.ok q.2 (List.mem_map_of_mem hq)).sh
theorem ES {o:Option (List (List Pc))} {rows:List (List R)} {rl:Rl} (h:lY o rows) (ok:eY rl) (a:∀ rs∈rows,cE rs) (l:rows.length≤24):qw (.tuple [Co rl,.list (rows.map Et),DS o]):=by
 refine Sh.shows (k:=6) (n:=6600017) (Sh.tup (k:=5) (n:=2200000) (m:=3) (fun e he=>?_) (Nat.le_refl _) (by decide)) (by decide) (by decide)
 simp only [List.mem_cons,List.not_mem_nil,or_false] at he
 rcases he with rfl | rfl | rfl
 ·exact (CU ok).mono (by decide) (by decide)
 ·refine (Ae (k:=2) (n:=45100) (m:=24) (N:=1100000) (fun d hd=>?_) (by rw [List.length_map];exact l) (by decide)).mono (by decide) (by decide)
  obtain⟨rs,hs,rfl⟩:=List.mem_map.mp hd
  refine Sh.tup (k:=1) (n:=5000) (m:=9) (fun d hd=>?_) (by rw [List.length_map];exact (a rs hs).len) (by decide)
  obtain⟨r,hr,rfl⟩:=List.mem_map.mp hd
  exact ((a rs hs).ok r hr).sh
 ·exact CV h
theorem zx {K:PySem.W.Frag} {H:Hp} {p q:Addr} {v x:V} {ys:List V} {rows:List (List R)} {rl:Rl} {o:Option (List (List Pc))} (hp:bo K H p [v,.ref q,x]) (hv:nO K H v rl) (hq:aR K H q ys) (al:bG (rY K H) ys rows) (hx:zG K H x o):bW K H (.ref p) (.tuple [Co rl,.list (rows.map Et),DS o]):=
 .tup hp (.cons hv.deep (.cons (.lst hq (al.deep fun _ _ z=>rY.deep z)) (.cons hx.deep .nil)))
def EB (K:PySem.W.Frag) (H:Hp) (u:V):Option R->Prop
 | none=>u=.non
 | some r=>RV K H u r
theorem EB.mono {K:PySem.W.Frag} {H H':Hp} {u:V}:∀ {o:Option R},EB K H u o->ax K H H'->EB K H' u o
 | none,h,_=>h
 | some _,h,t=>RV.mono h t
theorem CT {K:PySem.W.Frag} {T q:Addr} {H H':Hp} {ys:List V} (s:cN T H H') (tb:TB H T) (h:aR K H q ys):aR K H' q ys:=by
 obtain⟨ps,e⟩:=TB.tbl tb
 rcases h with (h | ⟨ob,h⟩) | h
 ·exact .inl (.inl (s _ _ (fun z=>by rw [z,e] at h;cases h) h))
 ·exact .inl (.inr ⟨ob,s _ _ (fun z=>by rw [z,e] at h;cases h) h⟩)
 ·exact .inr h
def kY (K:PySem.W.Frag) (C T:Addr):Sp:=fun vs H Q _=>∃ (v:V) (rl:Rl) (h:Nat) (w x:V) (o:Option (List (List Pc))) (rows:List (List R)),vs=[v,.int h,w,x]/\nO K H v rl/\eY rl/\yM rl/\1≤h/\h≤9/\TB H T/\zG K H x o/\lY o rows/\(∀ rs∈rows,cE rs)/\(∀ rs,rows=[rs]->rY K H w rs)/\∀ (u:V) (H':Hp),cN T H H'->TB H' T->Ic K C H' u (fR rl h rows) (dQ rl h rows)->Q u H'
def kZ (K:PySem.W.Frag) (T:Addr):Sp:=fun vs H Q _=>∃ (v:V) (rl:Rl) (h:Nat) (q:Addr) (x:V) (o:Option (List (List Pc))) (ys:List V) (rows:List (List R)),vs=[v,.int h,.ref q,x]/\nO K H v rl/\eY rl/\yM rl/\1≤h/\h≤9/\TB H T/\zG K H x o/\lY o rows/\(∀ rs∈rows,cE rs)/\aR K H q ys/\bG (rY K H) ys rows/\rows.length≤24/\0 < rows.length/\∀ H',cN T H H'->TB H' T->Q (.bl true) H'
theorem CH {t T:Addr} {H H':Hp} (S:aX t H H') (tb:TB H T):TB H' T:=by
 obtain⟨xs,e⟩:=S.tp
 rcases tb with tb | ⟨c,o,vs,tt,h1,h2,h3⟩
 ·exact .inl (S.keep _ _ (fun z=>by rw [z,e] at tb;cases tb) tb)
 ·exact .inr ⟨c,o,vs,tt,S.keep _ _ (fun z=>by rw [z,e] at h1;cases h1) h1,S.keep _ _ (fun z=>by rw [z,e] at h2;cases h2) h2,h3⟩
theorem yU {K:PySem.W.Frag} {H H':Hp} {t s T:Addr} (h:bx K H t s) (z:cN T H H') (tb:TB H T):bx K H' t s:=by
 obtain⟨ps,eT⟩:=TB.tbl tb
 obtain⟨ns,p,q,h1,h2,h3⟩:=h.ex
 refine⟨ns,p,q,z _ _ (fun e=>by rw [e,eT] at h1;cases h1) h1,?_,h3⟩
 rcases h2 with ⟨a,b⟩ | a
 ·refine .inl ⟨?_,b⟩
  rcases a with a | ⟨o,a⟩
  ·exact .inl (z _ _ (fun e=>by rw [e,eT] at a;cases a) a)
  ·exact .inr ⟨o,z _ _ (fun e=>by rw [e,eT] at a;cases a) a⟩
 ·exact .inr a
def k9 (K:PySem.W.Frag) (T:Addr):Sp:=fun vs H Q _=>∃ (a:Addr) (ns:List Int),vs=[.ref a]/\aR K H a (ns.map V.int)/\ns.length≤63/\H T=some (.tbl #[])/\∀ H',Q (.bl true) H'
def mF (K:PySem.W.Frag):Sp:=fun vs H Q _=>∃ (a:Addr) (xs:List V) (rs:List R) (D N n:Nat),vs=[.ref a]/\bo K H a xs/\bG (RV K H) xs rs/\(∀ r∈rs,Bq D N r)/\0 < D/\D < 2 ^ n/\N * 64 * D < 2 ^ n/\rs.length≤64/\n≤1400/\qE K H Q (bR rs)
theorem tf:aH ["thing"] ["thing"] (au tO):=eJ
theorem ki:aH ["one", "other", "high", "low", "rest"] ["one", "other"] (au AB):=eJ
theorem oh:aH ["top", "bottom", "shared"] ["top", "bottom"] (au tK):=eJ
theorem lj:aH ["one", "other", "shared", "top", "rest"] ["one", "other"] (au tF):=eJ
theorem Ah:aH ["one", "other"] ["one", "other"] (au tJ):=eJ
theorem og:aH ["one", "other", "left", "right"] ["one", "other"] (au tH):=eJ
theorem Ag:aH ["one", "other"] ["one", "other"] (au tE):=eJ
theorem ic:aH ["one", "power", "top", "bottom", "step"] ["one", "power"] (au tN):=eJ
theorem Am:aH ["one", "other"] ["one", "other"] (au tS):=eJ
theorem gc:aH ["some", "tops", "one", "so_far", "bottom", "top"] ["some"] (au tG):=eJ
theorem pI:aH ["some", "bottom", "one"] ["some"] (au Aw):=eJ
theorem ze:aH ["some", "parts"] ["some"] (au Ay):=eJ
theorem C1:aH ["low", "high"] ["low", "high"] (au Ax):=eJ
theorem Ai:aH ["rule"] ["rule"] (au tM):=eJ
theorem tw:aH ["rule", "speed", "top"] ["rule", "speed"] (au uk):=eJ
theorem oj:aH ["rows", "speed", "place"] ["rows", "speed"] (au uc):=eJ
theorem jn:aH ["rule", "speed", "rows", "place", "high", "low"] ["rule", "speed"] (au ub):=eJ
theorem Aq:aH ["rule", "speeds"] ["rule", "speeds"] (au ua):=eJ
theorem jm:aH ["hands", "amounts", "alone", "rest", "place", "amount", "sharing"] ["hands", "amounts"] (au Av):=eJ
theorem CZ:aH ["rule", "hands", "amounts"] ["rule", "hands", "amounts"] (au Ar):=eJ
theorem C0:aH ["rule", "hands", "plan"] ["rule", "hands", "plan"] (au Au):=eJ
theorem Ap:aH ["_law_script"] ["_law_script"] (au t7):=eJ
theorem ie:aH ["_law_tape_here", "_law_many", "_law_spot", "_law_cell", "_law_mixed", "_law_found"] ["_law_tape_here", "_law_many"] (au t5):=eJ
theorem tq:aH ["_law_due", "_law_found"] ["_law_due", "_law_found"] (au uj):=eJ
theorem oi:aH ["_law_top", "_law_bottom", "_law_one", "_law_other"] ["_law_top", "_law_bottom"] (au tZ):=eJ
theorem Al:aH ["_law_one", "_law_other"] ["_law_one", "_law_other"] (au tR):=eJ
theorem Ak:aH ["_law_one", "_law_other"] ["_law_one", "_law_other"] (au tQ):=eJ
theorem Ao:aH ["_law_one", "_law_other"] ["_law_one", "_law_other"] (au tY):=eJ
theorem fC:aH ["_law_some", "_law_found", "_law_one"] ["_law_some"] (au tP):=eJ
theorem d9:aH ["_law_tape_here", "_law_many", "_law_end", "_law_works_here", "_law_k", "_law_first", "_law_last", "_law_way"] ["_law_tape_here", "_law_many"] (au ui):=eJ
theorem dH:aH ["_law_tape_here", "_law_kinks", "_law_most", "_law_way", "_law_speeds", "_law_last", "_law_power_here", "_law_slope", "_law_rows", "_law_speed", "_law_step"] ["_law_tape_here", "_law_kinks", "_law_most"] (au tW):=eJ
theorem lu:aH ["_law_some", "_law_found", "_law_one", "_law_place"] ["_law_some"] (au ul):=eJ
theorem d8:aH ["_law_rule_here", "_law_speed", "_law_found", "_law_k", "_law_rows", "_law_at", "_law_low", "_law_high", "_law_wide", "_law_far", "_law_rise"] ["_law_rule_here", "_law_speed"] (au ug):=eJ
theorem dn:aH ["_law_tape_here", "_law_works_here", "_law_turns", "_law_number", "_law_first", "_law_last", "_law_amount", "_law_wide", "_law_many", "_law_at", "_law_shares", "_law_k", "_law_part"] ["_law_tape_here", "_law_works_here"] (au tV):=eJ
theorem tz:aH ["_law_some", "_law_found", "_law_one"] ["_law_some"] (au AA):=eJ
theorem tj:aH ["_law_e", "_law_marks_here"] ["_law_e"] (au uf):=eJ
theorem An:aH ["_law_some", "_law_alone", "_law_hands"] ["_law_some", "_law_alone", "_law_hands"] (au tU):=eJ
theorem mN:aH ["_law_hands", "_law_amounts_here", "_law_some", "_law_alone", "_law_mean_here"] ["_law_hands", "_law_amounts_here"] (au Az):=eJ
theorem ig:aH ["_law_rule_here", "_law_hands", "_law_amounts_here", "_law_plan_here", "_law_told", "_law_e"] ["_law_rule_here", "_law_hands", "_law_amounts_here", "_law_plan_here"] (au ue):=eJ
theorem d7:aH ["_law_rule_here", "_law_hands", "_law_rows", "_law_plan_here", "_law_due", "_law_high", "_law_amounts_here", "_law_speeds", "_law_ahead", "_law_k", "_law_found", "_law_marks_here"] ["_law_rule_here", "_law_hands", "_law_rows", "_law_plan_here"] (au ud):=eJ
theorem jk:aH ["_law_tape_here", "_law_some", "_law_k", "_law_one", "_law_way"] ["_law_tape_here"] (au As):=eJ
theorem eZ:aH ["_law_script", "_law_tape_here", "_law_k", "_law_amounts_here", "_law_hands", "_law_most", "_law_rule_here", "_law_plan_here", "_law_rows"] ["_law_script"] (au tD):=eJ
theorem Aj:aH ["self", "speed"] ["self", "speed"] (au km):=eJ
end My
namespace My
open PySem L2 B PyProof.Rows
section
variable {P:Program} {w:World} {K:PySem.W.Frag} {mg:Str->Option Value} {base:Heap} {t:Ad}
theorem oA (T:eE K mg t):bB P w K mg base dk 1 t.a_Q39 t.d_Q39 ["thing"] (n4 K):=by
 refine T.F_Q39.ok tf (fun vs H Q E h=>?_) (fun cdv A outer s H vs Q E hr h=>?_)
 ·obtain⟨_,rfl,_⟩:=h;rfl
 obtain⟨i,rfl,k⟩:=h
 refine cY.ok (af (bg (bE (ay eW (by rfl) T.z_isinstance boot_isinstance (ac (qv 0) (ac (bf (v:=V.ty "list") rfl T.z_list boot_list rfl) ae ad) ad))) (ak eR) aI)
   (af (bg (bE (ay eW (by rfl) T.z_isinstance boot_isinstance (ac (qv 0) (ac (bf (v:=V.ty "tuple") rfl T.z_tuple boot_tuple rfl) ae ad) ad))) (ak eR) aI)
   (ak (aE (qv 0))))) ?_
 extract_lets +lift
 try dsimp -zeta -zetaDelta only [Cx.nox,Cx.wish,bw]
 refine⟨_,rfl,_,_, "int", false,rfl,.int i,by decide +kernel,false,rfl,cU ?_⟩
 refine⟨_,rfl,_,_, "int", false,rfl,.int i,by decide +kernel,false,rfl,cU ?_⟩
 exact⟨_,rfl,k⟩
theorem qY (T:eE K mg t):bB P w K mg base dk 1 t.a_Q12 t.d_Q12 ["_law_due", "_law_found"] (qL K):=by
 refine T.F_Q12.ok tq (fun vs H Q E h=>?_) (fun cdv A outer s H vs Q E hr h=>?_)
 ·obtain⟨_,rfl,_⟩:=h;rfl
 obtain⟨i,rfl,k⟩:=h
 refine cY.ok (af (bg (fS (mO (bE (ay aW (by rfl) T.z_isinstance boot_isinstance (ac (qv 0) (ac (bf (v:=V.ty "tuple") rfl T.z_tuple boot_tuple rfl) ae ad) ad))) (jo (bE (ay aW (by rfl) T.z_isinstance boot_isinstance (ac (qv 0) (ac (bf (v:=V.ty "list") rfl T.z_list boot_list rfl) ae ad) ad)))))) (af (bg (aK gQ (ay aW (by rfl) T.z_isinstance boot_isinstance (ac (qv 0) (ac (bf (v:=V.ty "tuple") rfl T.z_tuple boot_tuple rfl) ae ad) ad)) (ay aW (by rfl) T.z_isinstance boot_isinstance (ac (qv 1) (ac (bf (v:=V.ty "tuple") rfl T.z_tuple boot_tuple rfl) ae ad) ad)) (aJ _)) (ak (aE dE)) aI)
   (af (bg (aK gQ (ay aW (by rfl) T.z_isinstance boot_isinstance (ac (qv 0) (ac (bf (v:=V.ty "list") rfl T.z_list boot_list rfl) ae ad) ad)) (ay aW (by rfl) T.z_isinstance boot_isinstance (ac (qv 1) (ac (bf (v:=V.ty "list") rfl T.z_list boot_list rfl) ae ad) ad)) (aJ _)) (ak (aE dE)) aI)
   (af (bg (aK gQ (ay bc (by rfl) T.z_len boot_len (ac (qv 0) ae ad)) (ay bc (by rfl) T.z_len boot_len (ac (qv 1) ae ad)) (aJ _)) (ak (aE dE)) aI)
   (ak eR)))) aI)
   (af (bg (aK gl (qv 0) dy (aJ _)) (ak (aE (cR gl (qv 1) dy (aJ _)))) aI)
   (af (bg (bE (ay aW (by rfl) T.z_isinstance boot_isinstance (ac (qv 0) (ac (bf (v:=V.ty "str") rfl T.z_str boot_str rfl) ae ad) ad))) (ak (aE (fe (ay aW (by rfl) T.z_isinstance boot_isinstance (ac (qv 1) (ac (bf (v:=V.ty "str") rfl T.z_str boot_str rfl) ae ad) ad)) (gg (cR dh (qv 1) (qv 0) (aJ _)))))) aI)
   (af (bg (bE (ay aW (by rfl) T.z_isinstance boot_isinstance (ac (qv 0) (ac (bf (v:=V.ty "bool") rfl T.z_bool boot_bool rfl) ae ad) ad))) (ak (aE (fe (ay aW (by rfl) T.z_isinstance boot_isinstance (ac (qv 1) (ac (bf (v:=V.ty "bool") rfl T.z_bool boot_bool rfl) ae ad) ad)) (gg (cR dh (qv 1) (qv 0) (aJ _)))))) aI)
   (ak (aE (fe (ay aW (by rfl) T.z_isinstance boot_isinstance (ac (qv 1) (ac (bf (v:=V.ty "int") rfl T.z_int boot_int rfl) ae ad) ad)) (fe (uz (ay aW (by rfl) T.z_isinstance boot_isinstance (ac (qv 1) (ac (bf (v:=V.ty "bool") rfl T.z_bool boot_bool rfl) ae ad) ad))) (gg (cR dh (qv 1) (qv 0) (aJ _))))))))))) ?_
 extract_lets +lift
 try dsimp -zeta -zetaDelta only [Cx.nox,Cx.wish,bw]
 refine⟨_,rfl,_,_,_,_,rfl,.int i,lK,_,rfl,cU ?_⟩
 refine⟨_,rfl,_,_,_,_,rfl,.int i,m5,_,rfl,cU ?_⟩
 refine⟨_,rfl,rfl,_,rfl,bP (by intro z;cases z) ?_⟩
 refine⟨_,rfl,_,_,_,_,rfl,.int i,oM,_,rfl,cU ?_⟩
 refine⟨_,rfl,_,_,_,_,rfl,.int i,iE,_,rfl,cU ?_⟩
 refine⟨_,rfl,_,_,_,_,rfl,.int i,oN,_,rfl,fj ?_⟩
 refine⟨_,rfl,_,_,_,_,rfl,.int i,iE,_,rfl,_,rfl,fj ?_⟩
 exact⟨_,rfl,_,rfl,rfl,by rw [decide_eq_true rfl];exact k⟩
theorem Bj (T:eE K mg t):bB P w K mg base dk 2 t.a_Q39 t.d_Q39 ["thing"] (qK K):=by
 refine T.F_Q39.ok tf (fun vs H Q E h=>?_) (fun cdv A outer s H vs Q E hr h=>?_)
 ·obtain⟨_,_,rfl,_⟩:=h;rfl
 obtain⟨v,r,rfl,⟨p,rfl,hp⟩,k⟩:=h
 refine cY.ok (af (bg (bE (ay iy (by rfl) T.z_isinstance boot_isinstance (ac (qv 0) (ac (bf (v:=V.ty "list") rfl T.z_list boot_list rfl) ae ad) ad))) (ak eR) aI)
   (af (bg (bE (ay iy (by rfl) T.z_isinstance boot_isinstance (ac (qv 0) (ac (bf (v:=V.ty "tuple") rfl T.z_tuple boot_tuple rfl) ae ad) ad))) (ak (aE (cc cy (by rfl) T.z_tuple boot_tuple (ac (dg (N':=["part"]) (src:=[none]) rfl (by exact (gf (qv 0))) (fun _ _ _ _ _=>(by exact (by exact aL (i:=0) (by show List.Nodup (["part"]:List Str);decide +kernel) (by exact rfl) (by first | exact Or.inl rfl | exact Or.inr rfl)))) (fun _ _ _ _ _=>cP) (fun _ _ _ _ _=>(by exact (by exact (bI (oA T) (by exact hr.mono (by decide)) (by exact rfl) T.m_Q39 T.F_Q39.kp T.b_Q39 (by exact .nil) (by exact ef) (ac (by exact (qv 0)) ae ad))))) (by exact trivial) rfl (by decide +kernel) rfl (by decide +kernel) (by exact bT rfl trivial)) ae dD)))) aI)
   (ak (aE (qv 0))))) ?_
 extract_lets +lift
 try dsimp -zeta -zetaDelta only [Cx.nox,Cx.wish,bw]
 refine⟨_,rfl,p,_,_,false,rfl,hp,by decide +kernel,false,rfl,cU ?_⟩
 refine⟨_,rfl,p,_,_,true,rfl,hp,by decide +kernel,true,rfl,fj ?_⟩
 refine⟨_,rfl,p,rfl,⟨_,hp⟩,fun D hD=>⟨fun i m ys H'=>i≤2/\m=2 - i/\ys=[V.int r.1,.int r.2].take i/\H'=upd H D (.lst ys),⟨_,Nat.zero_le _,rfl,rfl,rfl⟩,?_⟩⟩
 rintro i m ys H' ⟨hi,rfl,rfl,rfl⟩
 have sD:=ai hD (.lst ([V.int r.1,.int r.2].take i))
 have hpD:bo K _ p [.int r.1,.int r.2]:=ax.same sD _ _ hp
 by_cases hix:i < 2
 ·refine .inr ⟨⟨[.int r.1,.int r.2],[V.int r.1,.int r.2][i],hpD,List.getElem?_eq_getElem hix⟩,?_⟩
  rintro x H' ⟨rfl,hy⟩
  have hx:=hy _ hpD
  obtain⟨z,rfl⟩:∃ z,x=V.int z:=by
   have mx:=List.mem_of_getElem? hx
   simp only [List.mem_cons,List.not_mem_nil,or_false] at mx
   rcases mx with e | e
   ·exact⟨_,e⟩
   ·exact⟨_,e⟩
  refine⟨hZ.set rfl,?_⟩
  refine⟨_,rfl,_,rfl,?_⟩
  refine⟨ag,aV (by rw [List.length_take];omega),2 - (i+1),by omega,hix,rfl,by rw [List.take_add_one,hx];rfl,?_⟩
  rw [gF]
 ·have e2:i=2:=by omega
  subst e2
  refine .inl ⟨⟨_,hpD,Nat.le_refl 2⟩,?_⟩
  refine⟨D,_,rfl,.inl ⟨aR.of ag,fun l hl=>?_⟩⟩
  exact k _ _ (sD.trans (ai hl _)) ⟨l,rfl,bo.of ag⟩
theorem kr (T:eE K mg t):bB P w K mg base dk 1 t.a_Q0 t.d_Q0 ["one", "other"] (fQ K):=by
 refine T.F_Q0.ok ki (fun vs H Q E h=>?_) (fun cdv A outer s H vs Q E hr h=>?_)
 ·obtain⟨_,_,rfl,_⟩:=h;rfl
 obtain⟨a,b,rfl,k⟩:=h
 refine cY.ok (af (bH 2 ki.nd (ay jM (by rfl) T.z_abs boot_abs (ac (qv 0) ae ad)))
   (af (bH 3 ki.nd (ay jM (by rfl) T.z_abs boot_abs (ac (qv 1) ae ad)))
   (af (fD PassesOwn.never (aK gQ (qv 3) ah (aJ _))
   (af (bH 4 ki.nd (aG eK (qv 2) (qv 3)))
   (af (bH 2 ki.nd (qv 3))
   (ak (bH 3 ki.nd (qv 4))))))
   (ak (aE (qv 2)))))) ?_
 extract_lets +lift
 try dsimp -zeta -zetaDelta only [Cx.nox,Cx.wish,bw]
 refine⟨_,rfl,_,rfl,_,rfl,_,rfl,?_⟩
 rw [o2,o2]
 refine⟨fun m σ H'=>∃ (x y:Int) (v:Option V),σ=[some (.int a),some (.int b),some (.int x),some (.int y),v]/\H'=H/\0≤x/\0≤y/\Int.gcd x y=Int.gcd a b/\m=y.toNat,⟨_,_,_,_,rfl,rfl,by omega,by omega,(by simp [Int.gcd]),rfl⟩,?_⟩
 rintro m σ H' ⟨x,y,v,rfl,rfl,hx,hy,hg,rfl⟩
 refine⟨_,rfl,rfl,_,rfl,?_⟩
 by_cases c:y=0
 ·subst c
  refine iG rfl ?_
  rw [← hg] at k
  refine⟨_,rfl,?_⟩
  have e:(x:Int)=(Int.gcd x 0:Nat):=by simp [Int.gcd];omega
  rw [← e] at k
  exact k
 ·refine pX (fun z=>c (by injection z)) ?_
  refine⟨_,fun _ _ z=>z,?_⟩
  refine⟨_,rfl,_,rfl,_,_,rfl,rfl,(by omega),_,rfl,_,rfl,?_⟩
  refine⟨_,?_,y,x % y,_,rfl,rfl,hy,Int.emod_nonneg _ c,?_,rfl⟩
  ·have:=Int.emod_lt_of_pos x (show 0 < y by omega)
   have:=Int.emod_nonneg x c
   omega
  ·rw [ng hx (by omega),hg]
theorem vc (T:eE K mg t):bB P w K mg base dk 2 t.a_Q45 t.d_Q45 ["top", "bottom"] (sO K):=by
 refine T.F_Q45.ok oh (fun vs H Q E h=>?_) (fun cdv A outer s H vs Q E hr h=>?_)
 ·obtain⟨_,_,rfl,_⟩:=h;rfl
 obtain⟨a,b,rfl,hb,hz,k⟩:=h
 refine cY.ok (af (bg (aK dh (qv 1) ah (aJ _)) (ak eR) aI)
   (af (bH 2 oh.nd (bF (kr T) hr T.m_Q0 T.F_Q0.kp T.b_Q0 (ac (qv 0) (ac (qv 1) ae ad) ad)))
   (af (bg (aK kq (qv 1) ah (aJ _)) (ak (bH 2 oh.nd (fu dG (qv 2)))) aI)
   (ak (aE (aN (ac (aG pQ (qv 0) (qv 2)) (ac (aG pQ (qv 1) (qv 2)) ae ba) ba))))))) ?_
 extract_lets +lift
 try dsimp -zeta -zetaDelta only [Cx.nox,Cx.wish,bw]
 have gp:=nh (a:=a) hb
 have gb:=qb (a:=a) hb hz
 refine⟨_,rfl,rfl,_,rfl,?_⟩
 refine bP (fun z=>by injection z with z;omega) ?_
 refine⟨_,rfl,_,rfl,a,b,rfl,?_⟩
 refine⟨_,rfl,_,_,rfl,rfl,_,rfl,?_⟩
 by_cases hn:b < 0
 ·refine cW hn ?_
  rw [← vq hn] at k
  have gm:(-((Int.gcd a b:Nat):Int)).natAbs < 2 ^ 4000:=by rw [Int.natAbs_neg];exact gb
  refine⟨_,rfl,_,rfl,?_⟩
  refine⟨_,rfl,_,rfl,_,_,rfl,rfl,⟨by omega,gm⟩,_,rfl,_,rfl,_,_,rfl,rfl,⟨by omega,gm⟩,dU,fun p hp=>?_⟩
  exact k p hp
 ·refine bP hn ?_
  rw [← vo (by omega:0 < b)] at k
  refine⟨_,rfl,_,rfl,_,_,rfl,rfl,⟨by omega,gb⟩,_,rfl,_,rfl,_,_,rfl,rfl,⟨by omega,gb⟩,dU,fun p hp=>?_⟩
  exact k p hp
theorem oC (T:eE K mg t):bB P w K mg base dk 2 t.a_Q49 t.d_Q49 ["one", "other"] (pF K):=by
 refine T.F_Q49.ok lj (fun vs H Q E h=>?_) (fun cdv A outer s H vs Q E hr h=>?_)
 ·obtain⟨_,_,_,_,_,_,rfl,_⟩:=h;rfl
 obtain⟨v,w,r,q,n,m,rfl,hv,hw,wr,wq,hz,k⟩:=h
 refine cY.ok (af (bH 2 lj.nd (bF (kr T) hr T.m_Q0 T.F_Q0.kp T.b_Q0 (ac (bv ar (qv 0) ah) (ac (bv ar (qv 1) ah) ae aF) aF)))
   (af (bH 3 lj.nd (aG bJ (aG bY (bv ar (qv 0) ah) (aG eh (bv ar (qv 1) ah) (qv 2))) (aG bY (bv ar (qv 1) ah) (aG eh (bv ar (qv 0) ah) (qv 2)))))
   (af (bH 4 lj.nd (bF (kr T) hr T.m_Q0 T.F_Q0.kp T.b_Q0 (ac (qv 3) (ac (qv 2) ae ad) ad)))
   (ak (aE (aN (ac (aG eh (qv 3) (qv 4)) (ac (aG bY (aG eh (bv ar (qv 0) ah) (qv 2)) (aG eh (bv ar (qv 1) ah) (qv 4))) ae ba) ba))))))) ?_
 extract_lets +lift
 try dsimp -zeta -zetaDelta only [Cx.nox,Cx.wish,bw]
 obtain⟨p,rfl,hv⟩:=hv
 obtain⟨p',rfl,hw⟩:=hw
 have c1:=bi wr.top (show n≤4000 by omega)
 have c2:=bi wr.bot (show n≤4000 by omega)
 have c3:=bi wq.top (show m≤4000 by omega)
 have c4:=bi wq.bot (show m≤4000 by omega)
 have gp:(0:Int) < (Int.gcd r.2 q.2:Nat):=bC wq.pos
 have gb:=jH (a:=r.2) wq.pos c4
 refine⟨_,rfl,p,_,_,_,rfl,rfl,hv,rfl,_,rfl,p',_,_,_,rfl,rfl,hw,rfl,r.2,q.2,rfl,?_⟩
 have z:=uM ⟨wr.pos,wr.cop⟩ ⟨wq.pos,wq.cop⟩
 have kk:re H Q (mQ r q):=by rw [z];exact k
 unfold mQ at kk
 simp only at kk
 generalize ((Int.gcd r.2 q.2:Nat):Int)=d at gp gb kk ⊢
 refine⟨_,rfl,p,_,_,_,rfl,rfl,hv,rfl,_,rfl,p',_,_,_,rfl,rfl,hw,rfl,_,rfl,_,_,rfl,rfl,⟨gp,gb⟩,_,_,rfl,rfl,⟨c1,fH gp c4⟩,_,rfl,p',_,_,_,rfl,rfl,hw,rfl,_,rfl,p,_,_,_,rfl,rfl,hv,rfl,_,rfl,_,_,rfl,rfl,⟨gp,gb⟩,_,_,rfl,rfl,⟨c3,fH gp c2⟩,_,_,rfl,rfl,?_⟩
 refine⟨_,rfl,_,rfl,_,_,rfl,?_⟩
 have ep:(0:Int) < (Int.gcd (r.1 * (q.2 / d)+q.1 * (r.2 / d)) d:Nat):=bC gp
 have eb:=jH (a:=r.1 * (q.2 / d)+q.1 * (r.2 / d)) gp gb
 generalize ((Int.gcd (r.1 * (q.2 / d)+q.1 * (r.2 / d)) d:Nat):Int)=e at ep eb kk ⊢
 refine⟨_,rfl,_,rfl,_,_,rfl,rfl,⟨ep,eb⟩,_,rfl,p,_,_,_,rfl,rfl,hv,rfl,_,rfl,_,_,rfl,rfl,⟨gp,gb⟩,_,rfl,p',_,_,_,rfl,rfl,hw,rfl,_,rfl,_,_,rfl,rfl,⟨ep,eb⟩,_,_,rfl,rfl,⟨fH gp c2,fH ep c4⟩,dU,kk⟩
theorem lG (T:eE K mg t):bB P w K mg base dk 3 t.a_Q46 t.d_Q46 ["one", "other"] (sP K):=by
 refine T.F_Q46.ok Ah (fun vs H Q E h=>?_) (fun cdv A outer s H vs Q E hr h=>?_)
 ·obtain⟨_,_,_,_,_,_,rfl,_⟩:=h;rfl
 obtain⟨v,w,r,q,n,m,rfl,hv,hw,wr,wq,hz,k⟩:=h
 refine cY.ok (ak (aE (bF (oC T) hr T.m_Q49 T.F_Q49.kp T.b_Q49 (ac (qv 0) (ac (aN (ac (fu dG (bv ar (qv 1) ah)) (ac (bv ar (qv 1) ah) ae aF) gH)) ae aO) ad)))) ?_
 extract_lets +lift
 try dsimp -zeta -zetaDelta only [Cx.nox,Cx.wish,bw]
 obtain⟨p',rfl,hw⟩:=hw
 refine⟨_,rfl,_,rfl,p',_,_,_,rfl,rfl,hw,rfl,_,rfl,_,rfl,p',_,_,_,rfl,rfl,hw,rfl,dU,fun pt ht=>?_⟩
 have s1:=ai ht (.tup [.int (-q.1),.int q.2])
 refine⟨v,.ref pt,r,(-q.1,q.2),n,m,rfl,hv.mono (ax.same s1),RV.of ag,wr,⟨wq.pos,by show (-q.1).natAbs < _;rw [Int.natAbs_neg];exact wq.top,wq.bot,wc wq.cop⟩,hz,fun p hp=>?_⟩
 refine k _ _ (s1.trans (ai hp _)) ?_
 rw [← mY]
 exact RV.of ag
theorem vb (T:eE K mg t):bB P w K mg base dk 2 t.a_Q47 t.d_Q47 ["one", "other"] (mw K):=by
 refine T.F_Q47.ok og (fun vs H Q E h=>?_) (fun cdv A outer s H vs Q E hr h=>?_)
 ·obtain⟨_,_,_,_,_,_,rfl,_⟩:=h;rfl
 obtain⟨v,w,r,q,n,m,rfl,hv,hw,wr,wq,hz,k⟩:=h
 refine cY.ok (af (bH 2 og.nd (bF (kr T) hr T.m_Q0 T.F_Q0.kp T.b_Q0 (ac (bv ar (qv 0) ah) (ac (bv ar (qv 1) ah) ae aF) aF)))
   (af (bH 3 og.nd (bF (kr T) hr T.m_Q0 T.F_Q0.kp T.b_Q0 (ac (bv ar (qv 1) ah) (ac (bv ar (qv 0) ah) ae aF) aF)))
   (ak (aE (aN (ac (aG bY (aG eh (bv ar (qv 0) ah) (qv 2)) (aG eh (bv ar (qv 1) ah) (qv 3))) (ac (aG bY (aG eh (bv ar (qv 0) ah) (qv 3)) (aG eh (bv ar (qv 1) ah) (qv 2))) ae ba) ba)))))) ?_
 extract_lets +lift
 try dsimp -zeta -zetaDelta only [Cx.nox,Cx.wish,bw]
 obtain⟨p,rfl,hv⟩:=hv
 obtain⟨p',rfl,hw⟩:=hw
 have c1:=bi wr.top (show n≤4000 by omega)
 have c2:=bi wr.bot (show n≤4000 by omega)
 have c3:=bi wq.top (show m≤4000 by omega)
 have c4:=bi wq.bot (show m≤4000 by omega)
 have lp:(0:Int) < (Int.gcd r.1 q.2:Nat):=bC wq.pos
 have lb:=jH (a:=r.1) wq.pos c4
 have mp:(0:Int) < (Int.gcd q.1 r.2:Nat):=bC wr.pos
 have mb:=jH (a:=q.1) wr.pos c2
 have z:=qF ⟨wr.pos,wr.cop⟩ ⟨wq.pos,wq.cop⟩
 have kk:re H Q (jb r q):=by rw [z];exact k
 unfold jb at kk
 simp only at kk
 refine⟨_,rfl,p,_,_,_,rfl,rfl,hv,rfl,_,rfl,p',_,_,_,rfl,rfl,hw,rfl,r.1,q.2,rfl,_,rfl,p',_,_,_,rfl,rfl,hw,rfl,_,rfl,p,_,_,_,rfl,rfl,hv,rfl,q.1,r.2,rfl,?_⟩
 generalize ((Int.gcd r.1 q.2:Nat):Int)=l at lp lb kk ⊢
 generalize ((Int.gcd q.1 r.2:Nat):Int)=m' at mp mb kk ⊢
 refine⟨_,rfl,p,_,_,_,rfl,rfl,hv,rfl,_,rfl,_,_,rfl,rfl,⟨lp,lb⟩,_,rfl,p',_,_,_,rfl,rfl,hw,rfl,_,rfl,_,_,rfl,rfl,⟨mp,mb⟩,_,_,rfl,rfl,⟨fH lp c1,fH mp c3⟩,_,rfl,p,_,_,_,rfl,rfl,hv,rfl,_,rfl,_,_,rfl,rfl,⟨mp,mb⟩,_,rfl,p',_,_,_,rfl,rfl,hw,rfl,_,rfl,_,_,rfl,rfl,⟨lp,lb⟩,_,_,rfl,rfl,⟨fH mp c2,fH lp c4⟩,dU,kk⟩
theorem oB (T:eE K mg t):bB P w K mg base dk 3 t.a_Q50 t.d_Q50 ["one", "other"] (wP K):=by
 refine T.F_Q50.ok Ag (fun vs H Q E h=>?_) (fun cdv A outer s H vs Q E hr h=>?_)
 ·obtain⟨_,_,_,_,_,_,rfl,_⟩:=h;rfl
 obtain⟨v,w,r,q,n,m,rfl,hv,hw,wr,wq,hz,hq,k⟩:=h
 refine cY.ok (af (bg (aK dh (bv ar (qv 1) ah) ah (aJ _)) (ak eR) aI)
   (ak (aE (bF (vb T) hr T.m_Q47 T.F_Q47.kp T.b_Q47 (ac (qv 0) (ac (bF (vc T) hr T.m_Q45 T.F_Q45.kp T.b_Q45 (ac (bv ar (qv 1) ah) (ac (bv ar (qv 1) ah) ae aF) aF)) ae aB) ad))))) ?_
 extract_lets +lift
 try dsimp -zeta -zetaDelta only [Cx.nox,Cx.wish,bw]
 obtain⟨p',rfl,hw⟩:=hw
 refine⟨_,rfl,p',_,_,_,rfl,rfl,hw,rfl,rfl,_,rfl,?_⟩
 refine bP (fun z=>by injection z with z;exact hq z) ?_
 refine⟨_,rfl,_,rfl,p',_,_,_,rfl,rfl,hw,rfl,_,rfl,p',_,_,_,rfl,rfl,hw,rfl,q.2,q.1,rfl,hq,bi wq.top (by omega),fun ps hps=>?_⟩
 have s1:=ai hps (.tup [.int (iU q.2 q.1).1,.int (iU q.2 q.1).2])
 refine⟨v,.ref ps,r,iU q.2 q.1,n,m,rfl,hv.mono (ax.same s1),RV.of ag,wr,vm hq wq.bot wq.top,hz,fun p hp=>?_⟩
 refine k _ _ (s1.trans (ai hp _)) ?_
 rw [← xV ⟨wr.pos,wr.cop⟩ hq]
 exact RV.of ag
theorem Bi (T:eE K mg t):bB P w K mg base dk 1 t.a_Q40 t.d_Q40 ["one", "power"] (qJ K):=by
 refine T.F_Q40.ok ic (fun vs H Q E h=>?_) (fun cdv A outer s H vs Q E hr h=>?_)
 ·obtain⟨_,_,_,rfl,_⟩:=h;rfl
 obtain⟨v,r,k₁,rfl,hv,wr,h0,h6,k⟩:=h
 refine cY.ok (af (bH 2 ic.nd ah)
   (af (bH 3 ic.nd ah)
   (af (cz PassesOwn.never rfl (bZ rfl T.z_range (ac (qv 1) ae ad)) (aL (i:=4) ic.nd rfl (by first | exact Or.inl rfl | exact Or.inr rfl))
   (af (bH 2 ic.nd (aG bY (qv 2) (bv ar (qv 0) ah)))
   (ak (bH 3 ic.nd (aG bY (qv 3) (bv ar (qv 0) ah))))))
   (ak (aE (aN (ac (qv 2) (ac (qv 3) ae ad) ad))))))) ?_
 extract_lets +lift
 try dsimp -zeta -zetaDelta only [Cx.nox,Cx.wish,bw]
 have kb:=CG h0 (by omega:k₁≤100)
 obtain⟨p,rfl,hv⟩:=hv
 refine⟨_,rfl,k₁,rfl,kb.1,kb.2,cX (lo:=0) (n:=k₁.toNat) (fun i σ H'=>∃ (x:Option V),σ=[some (.ref p),some (.int k₁),some (.int (r.1 ^ i)),some (.int (r.2 ^ i)),x]/\H'=H) ⟨none,by rw [Int.pow_zero,Int.pow_zero] <;> rfl,rfl⟩ ?_ ?_⟩
 ·rintro i σ H1 hi ⟨x,rfl,rfl⟩
  have b1:=mP (i:=i) wr.top (by omega)
  have b2:=mP (i:=i) wr.bot (by omega)
  refine⟨_,rfl,_,rfl,p,_,_,_,rfl,rfl,hv,rfl,_,_,rfl,rfl,⟨b1,bi wr.top (by decide)⟩,?_⟩
  refine⟨_,rfl,_,rfl,p,_,_,_,rfl,rfl,hv,rfl,_,_,rfl,rfl,⟨b2,bi wr.bot (by decide)⟩,?_⟩
  exact⟨_,by rw [Int.pow_succ,Int.pow_succ] <;> rfl,rfl⟩
 ·rintro σ H1 ⟨x,rfl,rfl⟩
  refine⟨_,rfl,_,rfl,dU,fun q hq=>?_⟩
  have e:=jr ⟨wr.pos,wr.cop⟩ k₁.toNat
  refine k _ _ (ai hq _) ?_
  rw [e]
  exact RV.of ag
theorem oF (T:eE K mg t):bB P w K mg base dk 1 t.a_Q30 t.d_Q30 ["one", "other"] (jf K):=by
 refine T.F_Q30.ok Am (fun vs H Q E h=>?_) (fun cdv A outer s H vs Q E hr h=>?_)
 ·obtain⟨_,_,_,_,_,_,rfl,_⟩:=h;rfl
 obtain⟨v,w,r,q,n,m,rfl,hv,hw,wr,wq,hz,k⟩:=h
 refine cY.ok (ak (aE (cR kq (aG bY (bv ar (qv 0) ah) (bv ar (qv 1) ah)) (aG bY (bv ar (qv 1) ah) (bv ar (qv 0) ah)) (aJ _)))) ?_
 extract_lets +lift
 try dsimp -zeta -zetaDelta only [Cx.nox,Cx.wish,bw]
 obtain⟨p,rfl,hv⟩:=hv
 obtain⟨p',rfl,hw⟩:=hw
 have c1:=bi wr.top (show n≤4000 by omega)
 have c2:=bi wr.bot (show n≤4000 by omega)
 have c3:=bi wq.top (show m≤4000 by omega)
 have c4:=bi wq.bot (show m≤4000 by omega)
 refine⟨_,rfl,p,_,_,_,rfl,rfl,hv,rfl,_,rfl,p',_,_,_,rfl,rfl,hw,rfl,_,_,rfl,rfl,⟨c1,c4⟩,_,rfl,p',_,_,_,rfl,rfl,hw,rfl,_,rfl,p,_,_,_,rfl,rfl,hv,rfl,_,_,rfl,rfl,⟨c3,c2⟩,_,_,rfl,rfl,k⟩
theorem oE (T:eE K mg t):bB P w K mg base dk 3 t.a_Q48 t.d_Q48 ["some"] (sM K):=by
 refine T.F_Q48.ok gc (fun vs H Q E h=>?_) (fun cdv A outer s H vs Q E hr h=>?_)
 ·obtain⟨_,_,_,_,_,rfl,_⟩:=h;rfl
 obtain⟨a,xs,rs,n,D₀,rfl,hS,hR,hWD,h0,hDn₀,hlen,hn,k⟩:=h
 refine cY.ok (af (bH 1 gc.nd uB)
   (af (cz PassesOwn.never rfl (AM (qv 0)) (aL (i:=2) gc.nd rfl (by first | exact Or.inl rfl | exact Or.inr rfl))
   (ak (w9 (zp hr) (qv 1) (bv ar (qv 2) ah) (aG bJ (uC (zp hr) (qv 1) (bv ar (qv 2) ah) ah ⟨rfl,rfl,rfl,rfl⟩) (bv ar (qv 2) ah)) rfl)))
   (af (bH 3 gc.nd (cQ (v:=.ref t.c_NOUGHT) rfl T.m_NOUGHT rfl))
   (af (cz PassesOwn.never rfl (ux (qv 1)) (lC rfl (df (aL (i:=4) gc.nd rfl (by first | exact Or.inl rfl | exact Or.inr rfl)) (df (aL (i:=5) gc.nd rfl (by first | exact Or.inl rfl | exact Or.inr rfl)) iR)))
   (ak (bH 3 gc.nd (bF (oC T) hr T.m_Q49 T.F_Q49.kp T.b_Q49 (ac (qv 3) (ac (bF (vc T) hr T.m_Q45 T.F_Q45.kp T.b_Q45 (ac (qv 5) (ac (qv 4) ae ad) ad)) ae aB) ad)))))
   (ak (aE (qv 3))))))) ?_
 extract_lets +lift
 try dsimp -zeta -zetaDelta only [Cx.nox,Cx.wish,bw]
 refine fun D hDn=>⟨_,rfl,?_⟩
 have sD:=ai hDn (.dK [])
 rcases hS with hS | hS
 refine .inl ⟨a,rfl,⟨_,sD.seq hS⟩,eV (K:=K) (a:=a) (xs:=xs) (fun i σ H'=>∃ (x:Option V) (ps:List (Int×Int)),σ=[some (.ref a),some (.ref D),x,none,none,none]/\aS H H'/\H' D=some (.dK (oX ps))/\iN n i ps/\(∀ p∈ps,p.1∣(D₀:Int))/\gG ps=fx (rs.take i)) ⟨none,[],rfl,sD,ag,iN.nil n,(fun _ h=>nomatch h),rfl⟩ (fun i σ H1 _ ⟨_,_,_,s1,_⟩=>s1.seq hS) ?_ ?_⟩
 rotate_left 2
 refine .inr ⟨a,rfl,⟨_,ax.same sD _ _ hS⟩,iY (K:=K) (a:=a) (xs:=xs) (fun i σ H'=>∃ (x:Option V) (ps:List (Int×Int)),σ=[some (.ref a),some (.ref D),x,none,none,none]/\aS H H'/\H' D=some (.dK (oX ps))/\iN n i ps/\(∀ p∈ps,p.1∣(D₀:Int))/\gG ps=fx (rs.take i)) ⟨none,[],rfl,sD,ag,iN.nil n,(fun _ h=>nomatch h),rfl⟩ (fun i σ H1 _ ⟨_,_,_,s1,_⟩=>ax.same s1 _ _ hS) ?_ ?_⟩
 all_goals first
  | (
   rintro i y σ H1 hi ⟨x,ps,rfl,s1,hD1,ok,dv,ev⟩
   obtain⟨ry,hry,hyv⟩:=hR.at hi
   have my:ry∈rs:=List.mem_of_getElem? hry
   have hil:=(List.getElem?_eq_some_iff.mp hry).1
   obtain⟨py,rfl,hSy⟩:=hyv.mono (ax.same s1)
   have el:(oX ps).length=ps.length:=List.length_map _
   have hlp:(oX ps).length < sizeLine:=by rw [el];exact aV (by have:=ok.len;omega)
   refine⟨_,rfl,D,rfl,.inl ⟨_,.inl hD1⟩,_,rfl,py,_,_,_,rfl,rfl,hSy,rfl,_,jX.k (k:=Sum.inl ry.2) hD1,_,rfl,py,_,_,_,rfl,rfl,hSy,rfl,qD ps ry.2,ry.1,qa ps ry.2,rfl,_,rfl,_,rfl,py,_,_,_,rfl,rfl,hSy,rfl,D,_,rfl,rS.k (k:=Sum.inl ry.2) hD1 hlp,?_⟩
   refine⟨_,eX ps ry.2 ry.1,rfl,fun b o q=>?_,?_,ok.add (hWD ry my).1,yK (i:=0) (n:=0) dv (hWD ry my).2,?_⟩
   ·rw [av (aA q hDn)]
    exact s1 b o q
   ·rw [pK ps _ _ ok.nd]
    exact ag
   ·rw [mv,ev,List.take_add_one,hry]
    exact (jZ _ _).symm)
  | (
   rintro σ H1 ⟨x,ps,rfl,s1,hD1,ok,dv,ev⟩
   rw [hR.1,List.take_length] at ev
   rw [hR.1] at ok
   refine⟨_,rfl,D,oX ps,rfl,hD1,fun ob=>rG (d:=D) (ob:=ob) (kvs:=oX ps) (fun j σ H'=>∃ (u:V) (acc:R) (y4 y5:Option V),σ=[some (.ref a),some (.ref D),x,some u,y4,y5]/\aS H H'/\H' D=some (.frz ob (.dK (oX ps)))/\RV K H' u acc/\Bq D₀ (64 * 2 ^ n * j) acc/\val acc=gG (ps.take j)) ⟨_,(0,1),none,none,rfl,?_,ag,⟨_,rfl,T.q_NOUGHT _⟩,⟨by decide,by decide,⟨(D₀:Int),by show (D₀:Int)=1 * D₀;omega⟩,by show 0≤_;exact Nat.zero_le _⟩,fX⟩ (fun i σ H1 ⟨_,_,_,_,_,_,z,_⟩=>z) ?_ ?_⟩
   ·intro b o q
    rw [av (aA q hDn)]
    exact s1 b o q
   ·rintro j kk v p σ H2 hkv ⟨u,acc,y4,y5,rfl,s2,hD2,r2,w2,ev2⟩ hp
    have hkv':(ps.map fun p=>((Sum.inl p.1:cJ),V.int p.2))[j]?=some (kk,v):=hkv
    rw [List.getElem?_map] at hkv'
    obtain⟨q,hq,e⟩:=Option.map_eq_some_iff.mp hkv'
    cases e
    have mq:=List.mem_of_getElem? hq
    have hjl:=(List.getElem?_eq_some_iff.mp hq).1
    have wq:=ok.wf (by omega) mq
    have lps:=ok.len
    have gq:=BQ ok dv hlen mq
    have wa:=B8 w2 (by omega) h0 hDn₀
    have bq:=ok.bot q mq
    have e1:=ai hp (.tup [kV (Sum.inl q.1),V.int q.2])
    refine⟨p,_,rfl,bo.of ag,rfl,_,_,rfl,_,_,rfl,rfl,?_⟩
    refine⟨_,rfl,_,rfl,_,rfl,q.2,q.1,rfl,(by have:=bq.1;omega),bi bq.2 (by omega),fun p1 g1=>?_⟩
    rw [lH bq.1]
    have e2:=ai g1 (.tup [.int (cK q.2 q.1).1,.int (cK q.2 q.1).2])
    refine⟨u,.ref p1,acc,cK q.2 q.1,2 * n+12,n+8,rfl,(r2.mono (ax.same e1)).mono (ax.same e2),RV.of ag,wa,wq,by omega,fun p2 g2=>?_⟩
    have e3:=ai g2 (.tup [.int (aQ acc (cK q.2 q.1)).1,.int (aQ acc (cK q.2 q.1)).2])
    have s3:=((e1.trans e2).trans e3)
    refine⟨_,aQ acc (cK q.2 q.1),_,_,rfl,s2.trans s3,s3 _ _ hD2,RV.of ag,(by rw [Nat.mul_succ];exact Bq.plus h0 w2 gq),?_⟩
    rw [dZ w2.pos wq.pos,kQ bq.1,ev2,List.take_add_one,hq]
    exact (ka _ _).symm
   ·rintro σ H2 ⟨u,acc,y4,y5,rfl,s2,hD2,r2,w2,ev2⟩
    have el:(oX ps).length=ps.length:=List.length_map _
    rw [el,List.take_length] at ev2
    have es:=zZ (fun r hr=>(hWD r hr).1.red) w2.red (ev2.trans ev)
    rw [es] at r2
    exact⟨_,rfl,k u H2 s2 r2⟩)
theorem Ds (T:eE K mg t):bB P w K mg base dk 2 t.a_Q5 t.d_Q5 ["some"] (jd K):=by
 refine T.F_Q5.ok pI (fun vs H Q E h=>?_) (fun cdv A outer s H vs Q E hr h=>?_)
 ·obtain⟨_,_,_,_,rfl,_⟩:=h;rfl
 obtain⟨a,xs,rs,D₀,rfl,hS,al,hn,d0,d1,ok,k⟩:=h
 refine cY.ok (af (bH 1 pI.nd ah)
   (af (cz PassesOwn.never rfl (gf (qv 0)) (aL (i:=2) pI.nd rfl (by first | exact Or.inl rfl | exact Or.inr rfl))
   (ak (bH 1 pI.nd (aG ik (qv 1) (aG iT (bv ar (qv 2) ah) (bF (kr T) hr T.m_Q0 T.F_Q0.kp T.b_Q0 (ac (qv 1) (ac (bv ar (qv 2) ah) ae aF) ad)))))))
   (ak (aE (dg (N':=["one", "bottom"]) (src:=[none,some 1]) rfl (by exact (gf (qv 0))) (fun _ _ _ _ _=>(by exact (by exact aL (i:=0) (by show List.Nodup (["one", "bottom"]:List Str);decide +kernel) (by exact rfl) (by first | exact Or.inl rfl | exact Or.inr rfl)))) (fun _ _ _ _ _=>cP) (fun _ _ _ _ _=>(by exact (by exact (aG ik (by exact (gN (fM (K:=K) (by exact rfl)) (by exact (qv 0)) ah (by exact fun _ _=>rfl))) (by exact (aG iT (by exact (qv 1)) (by exact (gN (fM (K:=K) (by exact rfl)) (by exact (qv 0)) ah (by exact fun _ _=>rfl))))))))) (by exact⟨rfl,rfl,rfl,rfl,trivial⟩) rfl (by decide +kernel) rfl (by decide +kernel) (by exact bT rfl ⟨rfl,trivial⟩)))))) ?_
 extract_lets +lift
 try dsimp -zeta -zetaDelta only [Cx.nox,Cx.wish,bw]
 have hlen:=al.len
 refine⟨_,rfl,a,rfl,⟨_,hS⟩,iY (K:=K) (a:=a) (xs:=xs) (fun i σ H'=>∃ (B:Int) (x3:Option V),σ=[some (.ref a),some (.int B),x3]/\H'=H/\0 < B/\B∣(D₀:Int)/\∀ r∈rs.take i,r.2∣B) ⟨1,none,rfl,rfl,by decide,⟨(D₀:Int),by omega⟩,by simp⟩ (fun i σ H1 _ ⟨_,_,_,e,_⟩=>by rw [e];exact hS) ?_ ?_⟩
 ·rintro i x σ H1 hx ⟨B,x3,rfl,rfl,b0,bd,all⟩
  obtain⟨r,hr,px,rfl,hSx⟩:=al.at hx
  obtain⟨⟨c1,c4⟩,c2⟩:=ok r (List.mem_of_getElem? hr)
  have c3:=Int.le_of_dvd (by omega) c2
  have B84:=Int.le_of_dvd (by omega) bd
  have g0:0 < (Int.gcd B r.2:Int):=bC (by omega)
  have g1:(Int.gcd B r.2:Int)≤r.2:=Int.le_of_dvd (by omega) (Int.gcd_dvd_right _ _)
  obtain⟨l0,l1,l2,l3⟩:=E8 b0 c1 bd c2
  refine⟨_,rfl,_,rfl,px,_,_,_,rfl,rfl,hSx,rfl,_,rfl,_,rfl,px,_,_,_,rfl,rfl,hSx,rfl,B,r.2,rfl,_,_,rfl,rfl,⟨by omega,by omega⟩,_,_,rfl,rfl,.inl ⟨by omega,by omega⟩,?_⟩
  refine⟨_,_,rfl,rfl,l0,l1,fun z hz=>?_⟩
  rw [List.take_add_one,hr] at hz
  rcases List.mem_append.mp hz with h | h
  ·exact Int.dvd_trans (all z h) l2
  ·have:z=r:=by simpa using h
   subst this
   exact l3
 ·rintro σ H1 ⟨B,x3,rfl,rfl,b0,bd,all⟩
  rw [hlen,List.take_length] at all
  have B84:=Int.le_of_dvd (by omega) bd
  refine⟨_,rfl,a,rfl,⟨_,hS⟩,fun D hD=>qk (wG hS) (fun _=>true) (fun i=>V.int ((qA B rs).getD i 0)) hD (by omega) (fun i x H' hi s' hx R E kR kE=>?_) fun H4 s4 h4=>?_⟩
  ·obtain⟨r,hr,px,rfl,hSx⟩:=al.at hx
   obtain⟨⟨c1,c4⟩,c2⟩:=ok r (List.mem_of_getElem? hr)
   have c3:=Int.le_of_dvd (by omega) c2
   have t':=ax.same (K:=K) s'
   have e:(qA B rs).getD i 0=r.1 * (B / r.2):=lL 0 (by unfold qA;rw [List.getElem?_map,hr];rfl)
   have q:=kR rfl _ (aS.refl _)
   rw [e] at q
   have e0:0≤B / r.2:=Int.ediv_nonneg (by omega) (by omega)
   have e1:B / r.2≤B:=Int.ediv_le_self _ (by omega)
   exact⟨hZ.set rfl,_,rfl,px,_,_,_,rfl,rfl,t' _ _ hSx,rfl,_,rfl,_,rfl,px,_,_,_,rfl,rfl,t' _ _ hSx,rfl,_,_,rfl,rfl,⟨by omega,by omega⟩,_,_,rfl,rfl,.inr ⟨by omega,by omega⟩,q⟩
  ·refine k D B H4 s4 hD b0 all ?_
   rw [h4,show xs.length=(qA B rs).length by unfold qA;rw [List.length_map];exact hlen,lT 0 V.int]
theorem Du (T:eE K mg t) (hB:base.BuiltinsAt mg t.c_LT):bB P w K mg base dk 3 t.a_Q3 t.d_Q3 ["some"] (ib K t.c_LT):=by
 refine B.Fun.okC T.F_Q3 T.lcd ze (fun vs H Q E h=>?_) (fun A outer s H vs Q E hr h=>?_)
 ·obtain⟨_,_,_,_,rfl,_⟩:=h;rfl
 obtain⟨a,xs,rs,D₀,rfl,hS,al,hn,d0,d1,ok,tb,k⟩:=h
 refine cY.ok (af (bH 1 ze.nd (bF (Ds T) hr T.m_Q5 T.F_Q5.kp T.b_Q5 (ac (qv 0) ae ad)))
   (ak (aE (uy (c0:=t.c_LC) (T:=t.c_LT) (j:=1) (x := "place") (y := "parts") rfl T.lhd hB (hr.mono (by decide)) rfl ⟨rfl,rfl,rfl,rfl,rfl,rfl⟩ rfl rfl rfl rfl rfl (fun _ _ _ _=>rfl) (fun _ _ _ _ _=>(by exact fu dG (by exact gN (m6 (K:=K) (by exact rfl)) (by exact qv 1) (by exact qv 0) (by exact fun _ _=>rfl)))) rfl T.z_sorted (ac (xc rfl T.z_range (ac (ay bc (by rfl) T.z_len boot_len (ac (qv 1) ae ad)) ae aB)) ae aB))))) ?_
 extract_lets +lift
 try dsimp -zeta -zetaDelta only [Cx.nox,Cx.wish,bw]
 refine⟨_,rfl,a,xs,rs,D₀,rfl,hS,al,hn,d0,d1,ok,fun l B H1 s1 hl b0 bd hl1=>?_⟩
 have lw:(qA B rs).length=rs.length:=List.length_map _
 have lm:((qA B rs).map V.int).length=rs.length:=by rw [List.length_map,lw]
 have iB:∀ {H H':Hp},aS H H'->TB H t.c_LT->TB H' t.c_LT:=fun s tb=>by
  rcases tb with tb | ⟨c,o,vs,tt,h1,h2,h3⟩
  ·exact .inl (s _ _ tb)
  ·exact .inr ⟨c,o,vs,tt,s _ _ h1,s _ _ h2,h3⟩
 refine⟨_,rfl,l,_,rfl,.inl (aR.of hl1),?_⟩
 rw [lm]
 refine⟨_,rfl,fun pr hpr=>?_⟩
 have s2:=ai hpr (.rng 0 rs.length)
 have s02:=s1.trans s2
 refine⟨pr,rs.length,fun i=>-((qA B rs).getD i 0),rfl,ag,by omega,iB s02 tb,fun i H' Qk hi sT q=>?_,fun lo ms H' pm so sT tb' hlo hno=>?_⟩
 ·have nT:l≠t.c_LT:=fun z=>by
   have tb1:=iB s1 tb
   rcases tb1 with e | ⟨_,_,_,_,e,_⟩
   ·rw [z,e] at hl1;cases hl1
   ·rw [z,e] at hl1;cases hl1
  have hg:((qA B rs).map V.int)[i]?=some (V.int ((qA B rs).getD i 0)):=by
   rw [List.getElem?_map,List.getElem?_eq_getElem (by omega),List.getD_eq_getElem?_getD,List.getElem?_eq_getElem (by omega)]
   rfl
  exact⟨_,rfl,_,rfl,l,_,_,_,rfl,rfl,aR.of (sT _ _ nT (s2 _ _ hl1)),bM hg,_,rfl,q⟩
 ·refine k lo ms H' (fun b o nb e=>sT b o nb (s02 _ _ e)) tb' ?_ ⟨pm,?_⟩ hlo
  ·cases e:H lo with
   | none=>rfl
   | some o=>rw [s02 _ _ e] at hno;cases hno
  ·refine List.Pairwise.imp_of_mem (fun {i j} mi mj h=>?_) so
   have hi:i < rs.length:=List.mem_range.mp (pm.mem_iff.mp mi)
   have hj:j < rs.length:=List.mem_range.mp (pm.mem_iff.mp mj)
   have gi:∀ i,i < rs.length->(qA B rs).getD i 0=(rs.getD i (0,1)).1 * (B / (rs.getD i (0,1)).2)/\rs.getD i (0,1)∈rs:=fun i hi=>by
    have e:rs[i]?=some rs[i]:=List.getElem?_eq_getElem hi
    rw [lL (0,1) e]
    exact⟨lL 0 (by unfold qA;rw [List.getElem?_map,e];rfl),List.getElem_mem hi⟩
   obtain⟨e1,m1⟩:=gi i hi
   obtain⟨e2,m2⟩:=gi j hj
   dsimp only at h
   rw [e1,e2] at h
   exact nQ b0 (ok _ m1).1.1 (ok _ m2).1.1 (bd _ m1) (bd _ m2) h
theorem Dt (T:eE K mg t):bB P w K mg base dk 4 t.a_Q4 t.d_Q4 ["low", "high"] (ia K):=by
 refine T.F_Q4.ok C1 (fun vs H Q E h=>?_) (fun cdv A outer s H vs Q E hr h=>?_)
 ·obtain⟨_,_,_,_,rfl,_⟩:=h;rfl
 obtain⟨v,w,a,b,rfl,⟨p,x,y,rfl,hS,hx,hy⟩,⟨p2,x2,y2,rfl,hS2,hx2,hy2⟩,ok,k⟩:=h
 refine cY.ok (ak (aE (bF (oB T) hr T.m_Q50 T.F_Q50.kp T.b_Q50 (ac (bF (lG T) hr T.m_Q46 T.F_Q46.kp T.b_Q46 (ac (bv ar (qv 1) ah) (ac (bv ar (qv 0) ah) ae aF) aF)) (ac (bF (lG T) hr T.m_Q46 T.F_Q46.kp T.b_Q46 (ac (bv ar (qv 1) ah) (ac (bv ar (qv 0) ah) ae aF) aF)) ae aB) aB)))) ?_
 extract_lets +lift
 try dsimp -zeta -zetaDelta only [Cx.nox,Cx.wish,bw]
 refine⟨_,rfl,p2,_,_,_,rfl,rfl,hS2,rfl,_,rfl,p,_,_,_,rfl,rfl,hS,rfl,y2,y,b.2,a.2,197,197,rfl,hy2,hy,ok.b2,ok.a2,by decide,fun v1 H1 s1 h1=>?_⟩
 refine⟨_,rfl,p2,_,_,_,rfl,rfl,ax.same s1 _ _ hS2,rfl,_,rfl,p,_,_,_,rfl,rfl,ax.same s1 _ _ hS,rfl,x2,x,b.1,a.1,98,98,rfl,hx2.mono (ax.same s1),hx.mono (ax.same s1),ok.b1,ok.a1,by decide,fun v2 H2 s2 h2=>?_⟩
 exact⟨v1,v2,_,_,198,99,rfl,h1.mono (ax.same s2),h2,ok.w2,ok.w1,by decide,ok.ne,fun v3 H3 s3 h3=>k v3 H3 (s1.trans (s2.trans s3)) h3⟩
theorem Bh (T:eE K mg t):bB P w K mg base dk 1 t.a_Q41 t.d_Q41 ["rule"] (qI K):=by
 refine T.F_Q41.ok Ai (fun vs H Q E h=>?_) (fun cdv A outer s H vs Q E hr h=>?_)
 ·obtain⟨_,_,rfl,_⟩:=h;rfl
 obtain⟨v,rl,rfl,hv,ok,k1,k2⟩:=h
 refine cY.ok (af (bg (aK dh (bv ar (qv 0) ah) (cQ (v:=.str "power") rfl T.m_POWER ⟨_,rfl⟩) (aJ _)) (ak (aE dy)) aI)
   (ak (aE (bv ar (bv ar (bv ar (qv 0) ah) (fu dG ah)) ah)))) ?_
 extract_lets +lift
 try dsimp -zeta -zetaDelta only [Cx.nox,Cx.wish,bw]
 cases rl with
 | pow kk=>
  obtain⟨p,rfl,hS⟩:=hv
  exact⟨_,rfl,p,_,_,_,rfl,rfl,hS,rfl,rfl,_,rfl,cW rfl (k1 kk rfl)⟩
 | tab rows=>
  obtain⟨p,q,xs,rfl,hS,hq,al⟩:=hv
  have ok':cj rows:=ok
  have n2:=ok'.n2
  obtain⟨xl,w,hat,hw,⟨pw,y1,y2,rfl,hSw,h1,h2⟩,_⟩:=al.last (n:=rows.length - 1) (by omega)
  refine⟨_,rfl,p,_,_,_,rfl,rfl,hS,rfl,rfl,_,rfl,bP (by decide) ?_⟩
  refine⟨_,rfl,p,_,_,_,rfl,rfl,hS,rfl,_,rfl,q,_,_,_,rfl,rfl,hq,hat,pw,_,_,_,rfl,rfl,hSw,rfl,k2 rows _ rfl ?_⟩
  unfold ja
  rw [cn hw]
  exact h1
theorem Bw (T:eE K mg t):bB P w K mg base dk 2 t.a_Q11 t.d_Q11 ["rule", "speed"] (lf K):=by
 refine T.F_Q11.ok tw (fun vs H Q E h=>?_) (fun cdv A outer s H vs Q E hr h=>?_)
 ·obtain⟨_,_,_,_,rfl,_⟩:=h;rfl
 obtain⟨v,w,rl,s,rfl,hv,ok,hw,ws,k⟩:=h
 refine cY.ok (af (bH 2 tw.nd (bF (Bh T) hr T.m_Q41 T.F_Q41.kp T.b_Q41 (ac (qv 0) ae ad)))
   (ak (aE (fe (cR pR (qv 2) dy (aJ _)) (gg (bF (oF T) hr T.m_Q30 T.F_Q30.kp T.b_Q30 (ac (qv 2) (ac (qv 1) ae ad) ad))))))) ?_
 extract_lets +lift
 try dsimp -zeta -zetaDelta only [Cx.nox,Cx.wish,bw]
 refine⟨_,rfl,v,rl,rfl,hv,ok,?_,?_⟩
 ·rintro kk rfl
  exact⟨_,rfl,rfl,_,rfl,iG rfl k⟩
 ·rintro rows x rfl hx
  obtain⟨px,rfl,_⟩:=id hx
  have ok':cj rows:=ok
  obtain⟨r,e,er⟩:=pV ok'
  have wt:Wf 98 (ja rows):=by rw [er];exact zM (ok'.sp r (List.mem_of_getElem? e))
  refine⟨_,rfl,rfl,_,rfl,pX (fun z=>nomatch z) ?_⟩
  exact⟨_,rfl,_,rfl,.ref px,w,ja rows,s,98,98,rfl,hx,hw,wt,ws,by decide,k⟩
theorem Br (T:eE K mg t):bB P w K mg base dk 2 t.a_Q20 t.d_Q20 ["rows", "speed"] (mD K):=by
 refine T.F_Q20.ok oj (fun vs H Q E h=>?_) (fun cdv A outer s H vs Q E hr h=>?_)
 ·obtain⟨_,_,_,_,_,rfl,_⟩:=h;rfl
 obtain⟨q,v,xs,rows,s,rfl,hq,al,ok,hv,hs,hb,k⟩:=h
 refine cY.ok (af (bH 2 oj.nd ah)
   (af (fD PassesOwn.never (bE (bF (oF T) hr T.m_Q30 T.F_Q30.kp T.b_Q30 (ac (bv ar (bv ar (qv 0) (qv 2)) ah) (ac (qv 1) ae ad) aF)))
   (ak (AL (i:=2) oj.nd rfl (by first | exact Or.inl rfl | exact Or.inr rfl) ah BL)))
   (ak (aE (qv 2))))) ?_
 extract_lets +lift
 try dsimp -zeta -zetaDelta only [Cx.nox,Cx.wish,bw]
 have pl:=ok.p_lt hs.bq.pos hb
 refine⟨fun m σ H'=>∃ i:Nat,σ=[some (.ref q),some v,some (.int (i:Int))]/\H'=H/\i≤dN rows s/\m=dN rows s - i,⟨_,0,rfl,rfl,Nat.zero_le _,rfl⟩,?_⟩
 rintro m σ H' ⟨i,rfl,rfl,hi,rfl⟩
 have hx0:xs[i]?=some (xs[i]'(by rw [al.len];omega)):=List.getElem?_eq_getElem _
 obtain⟨r,hr,hrv⟩:=al.at hx0
 obtain⟨pa,x,y,ex,hS,hx,hy⟩:=id hrv
 have mr:=List.mem_of_getElem? hr
 refine⟨_,rfl,_,rfl,q,_,_,_,rfl,rfl,hq,bM hx0,pa,_,_,_,ex,rfl,hS,rfl,_,rfl,x,v,r.1,s,98,98,rfl,hx,hv,zM (ok.sp r mr),hs.wf,by decide,_,rfl,?_⟩
 rw [kH hs.bq.pos ok.inc ok.allP hr]
 by_cases c:i < dN rows s
 ·refine cW c ?_
  refine⟨_,fun _ _ z=>z,?_⟩
  exact⟨_,rfl,_,_,rfl,rfl,_,(by omega),i+1,rfl,rfl,c,rfl⟩
 ·refine bP c ?_
  have e:i=dN rows s:=by omega
  subst e
  exact⟨_,rfl,k⟩
theorem Dr (T:eE K mg t) (hB:base.BuiltinsAt mg t.c_LT):bB P w K mg base dk 4 t.a_Q6 t.d_Q6 ["hands", "amounts"] (jh K t.c_LT):=by
 refine T.F_Q6.ok jm (fun vs H Q E h=>?_) (fun cdv A outer s H vs Q E hr h=>?_)
 ·obtain⟨_,_,_,_,rfl,_⟩:=h;rfl
 obtain⟨hh,pa,xs,rs,rfl,hS,al,am,h1,h9,tb,k⟩:=h
 refine cY.ok (af (bH 2 jm.nd (bD ae))
   (af (bH 3 jm.nd (bF (oE T) hr T.m_Q48 T.F_Q48.kp T.b_Q48 (ac (qv 1) ae ad)))
   (af (oo (cz PassesOwn.never rfl (de (bI (Du T hB) (hr.mono (by decide)) rfl T.m_Q3 T.F_Q3.kp T.b_Q3 .nil ef (ac (qv 1) ae ad))) (aL (i:=4) jm.nd rfl (by first | exact Or.inl rfl | exact Or.inr rfl))
   (af (bH 5 jm.nd (bv ar (qv 1) (qv 4)))
   (af (bg (ii (bE (bF (oF T) hr T.m_Q30 T.F_Q30.kp T.b_Q30 (ac (bF (oB T) hr T.m_Q50 T.F_Q50.kp T.b_Q50 (ac (qv 3) (ac (aN (ac (aG fh (qv 0) (ay bc (by rfl) T.z_len boot_len (ac (qv 2) ae ad))) (ac ah ae ap) ba)) ae aO) ad)) (ac (qv 5) ae ad) aB)))) (ak uw) aI)
   (af (fc (jq PySem.F.plainAttrs_list PySem.F.slot_list_append PySem.F.type_list_append dz (qv 2) (ac (qv 5) ae ad)))
   (ak (bH 3 jm.nd (bF (lG T) hr T.m_Q46 T.F_Q46.kp T.b_Q46 (ac (qv 3) (ac (qv 5) ae ad) ad)))))))))
   (af (bH 6 jm.nd (aG fh (qv 0) (ay bc (by rfl) T.z_len boot_len (ac (qv 2) ae ad))))
   (ak (aE (aG ju (qv 2) (aG pP (bD (ac (bF (oB T) hr T.m_Q50 T.F_Q50.kp T.b_Q50 (ac (qv 3) (ac (aN (ac (qv 6) (ac ah ae ap) ad)) ae aO) ad)) ae aB)) (qv 6))))))))) ?_
 extract_lets +lift
 try dsimp -zeta -zetaDelta only [Cx.nox,Cx.wish,bw]
 have hlen:=al.len
 have l9:=am.len
 refine⟨(by show 0≤sizeLine;exact Nat.zero_le _),fun la hla=>?_⟩
 have s0:=ai hla (.lst [])
 have hq0:upd H la (.lst []) la=some (.lst []):=ag
 generalize upd H la (.lst [])=H0 at s0 hq0 ⊢
 have t0:=ax.same (K:=K) s0
 refine⟨_,rfl,pa,xs,rs,60,DM,rfl,.inr (t0 _ _ hS),lW (al.mono fun _ _ z=>z.mono t0),(fun r hr=>?_),by decide,by decide,by omega,by decide,fun u0 H1 s1 r0=>?_⟩
 ·have o:=am.ok r hr
  exact⟨o.bq.wf (by decide) (by decide) (by decide),o.bq.dvd⟩
 have s01:=s0.trans s1
 have t1:=ax.same (K:=K) s01
 refine⟨fun σ H'=>∃ (kk:Nat) (S:List R) (x4 x5:Option V) (u:V) (qs:List V),σ=[some (.int hh),some (.ref pa),some (.ref la),some u,x4,x5,none]/\cN t.c_LT H H'/\TB H' t.c_LT/\H' la=some (.lst qs)/\bG (RV K H') qs (S.take kk)/\RV K H' u (bR (S.drop kk))/\S.Perm rs/\iM S/\yQ hh S kk,?_,?_⟩
 ·refine⟨_,rfl,pa,xs,rs,DM,rfl,t1 _ _ hS,al.mono fun _ _ z=>z.mono t1,by omega,by decide,by decide,(fun r hr=>?_),iB s01 tb,fun lo ms H2 s2 tb2 hlo0 fo hlo=>?_⟩
  ·have o:=am.ok r hr
   exact⟨⟨o.bq.pos,o.bot⟩,o.bq.dvd⟩
  obtain⟨pm,so⟩:=DO fo
  have inM:∀ m∈ms,m < rs.length:=fun m hm=>List.mem_range.mp (fo.1.mem_iff.mp hm)
  have lms:ms.length=rs.length:=by rw [fo.1.length_eq,List.length_range]
  have amS:=am.perm pm
  have gS:∀ (i m:Nat),ms[i]?=some m->(ms.map fun i=>rs.getD i (0,1)).getD i (0,1)=rs.getD m (0,1):=fun i m e=>by
   rw [List.getD_eq_getElem?_getD,List.getElem?_map,e]
   rfl
  have lS:(ms.map fun i=>rs.getD i (0,1)).length=rs.length:=by rw [List.length_map,lms]
  generalize hSS:(ms.map fun i=>rs.getD i (0,1))=S at pm so amS gS lS
  have tT2:=dt (K:=K) s2 (iB s01 tb)
  have nT:la≠t.c_LT:=fun z=>by
   obtain⟨ps,e⟩:=TB.tbl (iB s0 tb)
   rw [← z,hq0] at e
   cases e
  have sT2:cN t.c_LT H H2:=fun b o nb e=>s2 b o nb (s01 _ _ e)
  have e0:bR rs=bR (S.drop 0):=by rw [List.drop_zero];exact (sH pm amS.red).symm
  have hlolst:aR K H2 lo (vk ms):=aR.of hlo
  refine⟨lo,rfl,⟨_,hlolst⟩,eV (K:=K) (a:=lo) (xs:=vk ms) (fun i σ H'=>∃ (x4 x5:Option V) (u:V) (qs:List V),σ=[some (.int hh),some (.ref pa),some (.ref la),some u,x4,x5,none]/\(∀ b o,b≠la->H2 b=some o->H' b=some o)/\ax K H2 H'/\H' la=some (.lst qs)/\bG (RV K H') qs (S.take i)/\RV K H' u (bR (S.drop i))/\∀ j,j < i->nN hh S j=true) ⟨none,none,u0,[],rfl,fun _ _ _ q=>q,ax.refl _ _,s2 _ _ nT (s1 _ _ hq0),.nil,e0 ▸ r0.mono tT2,fun j hj=>absurd hj (Nat.not_lt_zero _)⟩ (fun i σ H' _ ⟨_,_,_,_,_,kp,_⟩=>aR.of (kp _ _ (fun z=>by rw [z,s1 _ _ hq0] at hlo0;cases hlo0) hlo)) ?_ ?_⟩
  ·rintro i x σ HI hx ⟨x4,x5,u,qs,rfl,kp,tI,hq,alq,ru,go⟩
   have hi:i < ms.length:=by have:=(List.getElem?_eq_some_iff.mp hx).1;rw [mT] at this;exact this
   have em:ms[i]?=some (ms[i]'hi):=List.getElem?_eq_getElem _
   rw [yc em] at hx
   cases hx
   have lt:=inM _ (List.getElem_mem hi)
   have eS:=gS i _ em
   generalize ms[i]'hi=mm at em lt eS ⊢
   obtain⟨xa,hxa⟩:∃ y,xs[mm]?=some y:=⟨_,List.getElem?_eq_getElem (by omega)⟩
   obtain⟨r,hr',rva0⟩:=al.at hxa
   have er:S.getD i (0,1)=r:=by rw [eS,List.getD_eq_getElem?_getD,hr'];rfl
   have iS:i < S.length:=by omega
   have ih:i < hh:=lX amS h1 (Nat.le_of_lt iS) go
   have tT:=(t1.trans tT2).trans tI
   have rva:=rva0.mono tT
   have o:=am.ok r (List.mem_of_getElem? hr')
   have bd:=cD amS i
   have lq:=alq.len
   have li:qs.length=i:=by rw [lq,List.length_take];omega
   refine⟨_,rfl,_,rfl,pa,_,_,_,rfl,rfl,tT _ _ hS,bM hxa,?_⟩
   refine⟨_,rfl,_,rfl,_,rfl,la,_,rfl,.inl (aR.of hq),_,_,rfl,rfl,dU,fun p2 hp2=>?_⟩
   dsimp only
   rw [li,show ((hh:Nat):Int) - ((i:Nat):Int)=((hh - i:Nat):Int) by omega]
   have s3:=ai hp2 (.tup [.int ((hh - i:Nat):Int),.int 1])
   have r3:RV K (upd HI p2 (.tup [.int ((hh - i:Nat):Int),.int 1])) (.ref p2) (((hh - i:Nat):Int),1):=RV.of ag
   generalize upd HI p2 (.tup [.int ((hh - i:Nat):Int),.int 1])=H3 at s3 r3 ⊢
   have bh:Bq 1 9 ((((hh - i:Nat):Int),1):R):=io (by omega)
   refine⟨u,.ref p2,bR (S.drop i),(((hh - i:Nat):Int),1),60,10,rfl,ru.mono (ax.same s3),r3,bd.wf (by decide) (by decide) (by decide),bh.wf (by decide) (by decide) (by decide),by decide,(by show ((hh - i:Nat):Int)≠0;omega),fun um H4 s4 rm=>?_⟩
   have mo:=lI amS ih h9
   have emn:eI (bR (S.drop i)) (((hh - i:Nat):Int),1)=cA hh S i:=rfl
   rw [emn] at rm
   have s34:=s3.trans s4
   have t34:=ax.same (K:=K) s34
   refine⟨_,rfl,um,xa,cA hh S i,r,98,60,rfl,rm,rva.mono t34,mo.sp.wf,o.bq.wf (by decide) (by decide) (by decide),by decide,_,rfl,?_⟩
   have eg:nN hh S i=aD (cA hh S i) r:=by unfold nN;rw [er]
   have ht1:S.take (i+1)=S.take i++[r]:=by
    rw [List.take_add_one,List.getElem?_eq_getElem iS]
    have:S[i]'iS=r:=by rw [← er,List.getD_eq_getElem?_getD,List.getElem?_eq_getElem iS];rfl
    rw [this];rfl
   cases c:aD (cA hh S i) r with
   | false=>
    refine fj ?_
    refine⟨i,S,_,_,u,qs,rfl,fun b o nb e=>s34 _ _ (kp b o (aA e hla) (sT2 b o nb e)),?_,s34 _ _ hq,alq.mono fun _ _ z=>z.mono t34,ru.mono t34,pm,so,Nat.le_of_lt iS,go,fun _=>by rw [eg,c]⟩
    have nTl:t.c_LT≠la:=Ne.symm nT
    rcases tb2 with e | ⟨c',o',vs,tt,g1,g2,g3⟩
    ·exact .inl (s34 _ _ (kp _ _ nTl e))
    ·have hla2:=s2 _ _ nT (s1 _ _ hq0)
     exact .inr ⟨c',o',vs,tt,s34 _ _ (kp _ _ nTl g1),s34 _ _ (kp _ _ (fun z=>by rw [z,hla2] at g2;cases g2) g2),g3⟩
   | true=>
    refine cU ?_
    have hq4:=s34 _ _ hq
    refine⟨_,rfl,.inl ⟨rfl,_,aR.of hq4⟩,_,rfl,la,qs,_,rfl,rfl,hq4,aV (by omega),?_⟩
    have tu:=ax.up (K:=K) hq4 (qs++[xa])
    have kp5:∀ b o,b≠la->H2 b=some o->upd H4 la (.lst (qs++[xa])) b=some o:=fun b o nb e=>by rw [av nb];exact s34 _ _ (kp b o nb e)
    have t45:=t34.trans tu
    have al5:=(alq.mono fun _ _ z=>z.mono t45).snoc (rva.mono t45)
    rw [← ht1] at al5
    have hq5:upd H4 la (.lst (qs++[xa])) la=some (.lst (qs++[xa])):=ag
    have ru5:=ru.mono t45
    have rv5:=rva.mono t45
    have tI5:=tI.trans t45
    generalize upd H4 la (.lst (qs++[xa]))=H5 at kp5 al5 hq5 ru5 rv5 tI5 ⊢
    refine⟨_,rfl,_,rfl,u,xa,bR (S.drop i),r,60,60,rfl,ru5,rv5,bd.wf (by decide) (by decide) (by decide),o.bq.wf (by decide) (by decide) (by decide),by decide,fun u6 H6 s6 r6=>?_⟩
    rw [← er,qN amS iS] at r6
    have t6:=ax.same (K:=K) s6
    refine⟨_,_,u6,_,rfl,fun b o nb e=>s6 _ _ (kp5 b o nb e),tI5.trans t6,s6 _ _ hq5,al5.mono fun _ _ z=>z.mono t6,r6,fun j hj=>?_⟩
    by_cases e:j=i
    ·rw [e,eg,c]
    ·exact go j (by omega)
  ·rintro σ HI ⟨x4,x5,u,qs,rfl,kp,tI,hq,alq,ru,go⟩
   rw [mT,lms,← lS] at alq ru go
   refine⟨S.length,S,_,_,u,qs,rfl,fun b o nb e=>kp b o (aA e hla) (sT2 b o nb e),?_,hq,alq,ru,pm,so,Nat.le_refl _,go,fun z=>absurd z (Nat.lt_irrefl _)⟩
   have nTl:t.c_LT≠la:=Ne.symm nT
   rcases tb2 with e | ⟨c',o',vs,tt,g1,g2,g3⟩
   ·exact .inl (kp _ _ nTl e)
   ·have hla2:=s2 _ _ nT (s1 _ _ hq0)
    exact .inr ⟨c',o',vs,tt,kp _ _ nTl g1,kp _ _ (fun z=>by rw [z,hla2] at g2;cases g2) g2,g3⟩
 ·rintro σ HI ⟨kk,S,x4,x5,u,qs,rfl,sT,tbI,hq,alq,ru,pm,so,alo⟩
  have amS:=am.perm pm
  have kh:=lX amS h1 alo.le alo.go
  have kS:=alo.le
  have lS:S.length≤9:=amS.len
  have lq:=alq.len
  have li:qs.length=kk:=by rw [lq,List.length_take];omega
  refine⟨_,rfl,_,rfl,la,_,rfl,.inl (aR.of hq),_,_,rfl,rfl,?_⟩
  dsimp only
  rw [li,show ((hh:Nat):Int) - ((kk:Nat):Int)=((hh - kk:Nat):Int) by omega]
  refine⟨_,rfl,_,rfl,_,rfl,dU,fun p2 hp2=>?_⟩
  have s3:=ai hp2 (.tup [.int ((hh - kk:Nat):Int),.int 1])
  have r3:RV K (upd HI p2 (.tup [.int ((hh - kk:Nat):Int),.int 1])) (.ref p2) (((hh - kk:Nat):Int),1):=RV.of ag
  generalize upd HI p2 (.tup [.int ((hh - kk:Nat):Int),.int 1])=H3 at s3 r3 ⊢
  have bh:Bq 1 9 ((((hh - kk:Nat):Int),1):R):=io (by omega)
  have bd:=cD amS kk
  refine⟨u,.ref p2,bR (S.drop kk),(((hh - kk:Nat):Int),1),60,10,rfl,ru.mono (ax.same s3),r3,bd.wf (by decide) (by decide) (by decide),bh.wf (by decide) (by decide) (by decide),by decide,(by show ((hh - kk:Nat):Int)≠0;omega),fun um H4 s4 rm=>?_⟩
  have emn:eI (bR (S.drop kk)) (((hh - kk:Nat):Int),1)=cA hh S kk:=rfl
  rw [emn] at rm
  refine⟨yS,fun l1 hl1=>?_⟩
  have s5:=ai hl1 (.lst [um])
  refine⟨_,rfl,l1,um,hh - kk,rfl,rfl,ag,by omega,fun l2 hl2=>?_⟩
  have s6:=ai hl2 (.lst (List.replicate (hh - kk) um))
  have h2:upd (upd H4 l1 (.lst [um])) l2 (.lst (List.replicate (hh - kk) um)) l2=some (.lst (List.replicate (hh - kk) um)):=ag
  have s36:=((s3.trans s4).trans s5).trans s6
  have s56:=s5.trans s6
  generalize upd (upd H4 l1 (.lst [um])) l2 (.lst (List.replicate (hh - kk) um))=H6 at s6 h2 s36 s56 ⊢
  refine⟨la,l2,_,_,rfl,rfl,s36 _ _ hq,h2,Nat.le_trans (show _≤1000 by rw [List.length_replicate];omega) i5,fun l3 hl3=>?_⟩
  have s7:=ai hl3 (.lst (qs++List.replicate (hh - kk) um))
  have s37:=s36.trans s7
  have t37:=ax.same (K:=K) s37
  have al7:bG (RV K (upd H6 l3 (.lst (qs++List.replicate (hh - kk) um)))) (qs++List.replicate (hh - kk) um) (pZ hh S kk):=(alq.mono fun _ _ z=>z.mono t37).join (bG.rep (rm.mono (ax.same (s56.trans s7))) _)
  rw [vM am pm so alo] at al7
  exact k l3 _ _ (fun b o nb e=>s37 _ _ (sT b o nb e)) (iB s37 tbI) ag al7
theorem Bn (T:eE K mg t):bB P w K mg base dk 1 t.a_Q23 t.d_Q23 ["_law_script"] (mE K):=by
 refine T.F_Q23.ok Ap (fun vs H Q E h=>?_) (fun cdv A outer s H vs Q E hr h=>?_)
 ·obtain⟨_,_,rfl,_⟩:=h;rfl
 obtain⟨a,ns,rfl,hS,hl,k⟩:=h
 refine cY.ok (ak (aE (bD (ac (qv 0) (ac ah (ac ah ae ap) ap) ad)))) ?_
 extract_lets +lift
 try dsimp -zeta -zetaDelta only [Cx.nox,Cx.wish,bw]
 refine⟨_,rfl,zK,fun t ht=>?_⟩
 exact k t _ (ai ht _) ht (bx.mk3 hS hl ht)
theorem bA (T:eE K mg t):bB P w K mg base dk 1 t.a_Q24 t.d_Q24 ["_law_tape_here", "_law_many"] (mL K):=by
 refine T.F_Q24.ok ie (fun vs H Q E h=>?_) (fun cdv A outer s H vs Q E hr h=>?_)
 ·obtain⟨_,_,_,rfl,_⟩:=h;rfl
 obtain⟨t₁,s₁,m,rfl,tp,hm0,hm1,k⟩:=h
 refine cY.ok (af (bg (aK dh (bv bj (qv 0) ah) ah (aJ _)) (af (bH 2 ie.nd (bv bj (qv 0) ah))
   (af (ij (aG bJ (qv 2) ah) (oq (qv 0) ah jj))
   (af (bH 3 ie.nd (qv 2))
   (af (bg (aK pS (ay bc (by rfl) T.z_len boot_len (ac (bv bj (qv 0) ah) ae aF)) ah (aJ _)) (ak (bH 3 ie.nd (bv bj (bv bj (qv 0) ah) (aG eK (qv 2) (ay bc (by rfl) T.z_len boot_len (ac (bv bj (qv 0) ah) ae aF)))))) aI)
   (af (bg (fS (mO (aK kq (qv 3) (aG Bb ah ah) (aJ _)) (jo (aK Dn (qv 2) (ay bc (by rfl) T.z_len boot_len (ac (bv bj (qv 0) ah) ae aF)) (aJ _))))) (af (bH 4 ie.nd (aG eK (aG ik (aG bJ (aG eK (qv 3) ah) ah) (aG bJ ah (aG ik ah (aG eK (qv 2) ah)))) ah))
   (ak (aE (aG eK (aG iT (aG eK (aG ik (aG bJ (qv 4) (aG ik ah (qv 2))) ah) ah) ah) (qv 1))))) aI)
   (ak (ij (qv 3) (oq (qv 0) ah jj)))))))) aI)
   (af (bH 5 ie.nd (aG eK (bv bj (qv 0) ah) (qv 1)))
   (af (ij (aG iT (bv bj (qv 0) ah) (qv 1)) (oq (qv 0) ah jj))
   (ak (aE (qv 5)))))) ?_
 extract_lets +lift
 try dsimp -zeta -zetaDelta only [Cx.nox,Cx.wish,bw]
 obtain⟨ns,p,q,ht,hs,hlen,hp0,hq0⟩:=tp.ex
 have hs':∀ o,aR K (upd H t₁ o) s₁ (ns.map V.int):=fun o=>hs.elim (fun z=>.inl (lv z.1 z.2.symm)) fun z=>z _
 have tap:∀ (p' q':Int),0≤p'->0≤q'->bx K (upd H t₁ (.lst [.ref s₁,.int p',.int q'])) t₁ s₁:=fun p' q' a b=>⟨ns,p',q',ag,hs.elim (fun z=>.inl ⟨lv z.1 z.2.symm,z.2⟩) fun z=>.inr z,hlen,a,b⟩
 have hl:((ns.map V.int).length:Int)=(ns.length:Int):=by rw [List.length_map]
 refine⟨_,rfl,t₁,_,_,_,rfl,rfl,aR.of ht,rfl,rfl,_,rfl,?_⟩
 by_cases c0:q=0
 ·refine cW (by rw [c0]) ?_
  refine⟨_,rfl,t₁,_,_,_,rfl,rfl,aR.of ht,rfl,?_⟩
  refine⟨_,rfl,_,_,rfl,rfl,_,rfl,t₁,_,_,_,rfl,rfl,ht,rfl,?_⟩
  refine⟨_,rfl,?_⟩
  refine⟨_,rfl,t₁,_,_,_,rfl,rfl,aR.of ag,rfl,s₁,_,rfl,.inl (hs' _),_,_,rfl,rfl,_,rfl,?_⟩
  refine rA (fun c9=>?_) (fun _=>?_)
  ·have c8:(0:Int) < (ns.length:Int):=by
    have c7:(0:Int) < ((ns.map V.int).length:Int):=of_decide_eq_true c9
    rw [hl] at c7;exact c7
   obtain⟨z,hz⟩:=Dg (ns:=ns) (r:=p % (ns.length:Int)) (Int.emod_nonneg _ (by omega)) (Int.emod_lt_of_pos _ c8)
   rw [← hl] at hz c8
   refine⟨_,rfl,t₁,_,_,_,rfl,rfl,aR.of ag,rfl,_,rfl,_,rfl,t₁,_,_,_,rfl,rfl,aR.of ag,rfl,s₁,_,rfl,.inl (hs' _),_,_,rfl,rfl,c8,s₁,_,_,_,rfl,rfl,hs' _,hz,?_⟩
   refine⟨_,rfl,_,_,rfl,rfl,⟨by decide,by decide,by decide⟩,_,_,rfl,rfl,_,rfl,?_⟩
   refine rA (fun _=>?_) (fun d1=>?_)
   ·refine fj ?_
    refine⟨_,rfl,_,_,rfl,rfl,(by show (0:Int) < _;decide),_,_,rfl,rfl,_,rfl,_,_,rfl,rfl,(by show (0:Int) < _;decide),_,_,rfl,rfl,.inl ⟨by omega,by omega⟩,_,_,rfl,rfl,_,_,rfl,rfl,.inl ⟨by omega,by omega⟩,_,_,rfl,rfl,(by show (0:Int) < _;decide),?_⟩
    refine⟨_,rfl,_,rfl,_,_,rfl,rfl,.inl ⟨by omega,by omega⟩,_,_,rfl,rfl,_,_,rfl,rfl,.inr ⟨by decide,by decide⟩,_,_,rfl,rfl,(by show (0:Int) < _;decide),_,_,rfl,rfl,⟨by decide,by decide⟩,_,rfl,_,_,rfl,rfl,hm0,?_⟩
    exact k _ _ (Int.emod_nonneg _ (by omega)) (Int.emod_lt_of_pos _ hm0) (tap (p+1) q (by omega) hq0)
   ·refine⟨_,rfl,_,rfl,t₁,_,_,_,rfl,rfl,aR.of ag,rfl,s₁,_,rfl,.inl (hs' _),_,_,rfl,rfl,_,rfl,?_⟩
    refine rA (fun _=>?_) (fun _=>?_)
    ·refine⟨_,rfl,_,_,rfl,rfl,(by show (0:Int) < _;decide),_,_,rfl,rfl,_,rfl,_,_,rfl,rfl,(by show (0:Int) < _;decide),_,_,rfl,rfl,.inl ⟨by omega,by omega⟩,_,_,rfl,rfl,_,_,rfl,rfl,.inl ⟨by omega,by omega⟩,_,_,rfl,rfl,(by show (0:Int) < _;decide),?_⟩
     refine⟨_,rfl,_,rfl,_,_,rfl,rfl,.inl ⟨by omega,by omega⟩,_,_,rfl,rfl,_,_,rfl,rfl,.inr ⟨by decide,by decide⟩,_,_,rfl,rfl,(by show (0:Int) < _;decide),_,_,rfl,rfl,⟨by decide,by decide⟩,_,rfl,_,_,rfl,rfl,hm0,?_⟩
     exact k _ _ (Int.emod_nonneg _ (by omega)) (Int.emod_lt_of_pos _ hm0) (tap (p+1) q (by omega) hq0)
    ·have d2:(0:Int)≤z:=by
      have d3:1000000000000000000≤z:=by simpa using d1
      omega
     refine⟨_,rfl,_,rfl,t₁,_,_,_,rfl,rfl,ag,rfl,?_⟩
     rw [gF]
     refine⟨_,rfl,t₁,_,_,_,rfl,rfl,aR.of ag,rfl,_,rfl,_,_,rfl,rfl,hm0,?_⟩
     refine⟨_,rfl,t₁,_,_,_,rfl,rfl,aR.of ag,rfl,_,rfl,_,_,rfl,rfl,⟨hm0,hm1⟩,_,rfl,t₁,_,_,_,rfl,rfl,ag,rfl,?_⟩
     refine⟨_,rfl,?_⟩
     rw [gF]
     exact k _ _ (Int.emod_nonneg _ (by omega)) (Int.emod_lt_of_pos _ hm0) (tap (p+1) (z / m) (by omega) (Int.ediv_nonneg d2 (by omega)))
  ·obtain⟨z,hz⟩:∃ z,z=p:=⟨_,rfl⟩
   refine⟨_,rfl,_,_,rfl,rfl,⟨by decide,by decide,by decide⟩,_,_,rfl,rfl,_,rfl,?_⟩
   refine rA (fun _=>?_) (fun d1=>?_)
   ·refine fj ?_
    refine⟨_,rfl,_,_,rfl,rfl,(by show (0:Int) < _;decide),_,_,rfl,rfl,_,rfl,_,_,rfl,rfl,(by show (0:Int) < _;decide),_,_,rfl,rfl,.inl ⟨by omega,by omega⟩,_,_,rfl,rfl,_,_,rfl,rfl,.inl ⟨by omega,by omega⟩,_,_,rfl,rfl,(by show (0:Int) < _;decide),?_⟩
    refine⟨_,rfl,_,rfl,_,_,rfl,rfl,.inl ⟨by omega,by omega⟩,_,_,rfl,rfl,_,_,rfl,rfl,.inr ⟨by decide,by decide⟩,_,_,rfl,rfl,(by show (0:Int) < _;decide),_,_,rfl,rfl,⟨by decide,by decide⟩,_,rfl,_,_,rfl,rfl,hm0,?_⟩
    exact k _ _ (Int.emod_nonneg _ (by omega)) (Int.emod_lt_of_pos _ hm0) (tap (p+1) q (by omega) hq0)
   ·refine⟨_,rfl,_,rfl,t₁,_,_,_,rfl,rfl,aR.of ag,rfl,s₁,_,rfl,.inl (hs' _),_,_,rfl,rfl,_,rfl,?_⟩
    refine rA (fun _=>?_) (fun _=>?_)
    ·refine⟨_,rfl,_,_,rfl,rfl,(by show (0:Int) < _;decide),_,_,rfl,rfl,_,rfl,_,_,rfl,rfl,(by show (0:Int) < _;decide),_,_,rfl,rfl,.inl ⟨by omega,by omega⟩,_,_,rfl,rfl,_,_,rfl,rfl,.inl ⟨by omega,by omega⟩,_,_,rfl,rfl,(by show (0:Int) < _;decide),?_⟩
     refine⟨_,rfl,_,rfl,_,_,rfl,rfl,.inl ⟨by omega,by omega⟩,_,_,rfl,rfl,_,_,rfl,rfl,.inr ⟨by decide,by decide⟩,_,_,rfl,rfl,(by show (0:Int) < _;decide),_,_,rfl,rfl,⟨by decide,by decide⟩,_,rfl,_,_,rfl,rfl,hm0,?_⟩
     exact k _ _ (Int.emod_nonneg _ (by omega)) (Int.emod_lt_of_pos _ hm0) (tap (p+1) q (by omega) hq0)
    ·have d2:(0:Int)≤p:=by
      have d3:1000000000000000000≤p:=by simpa using d1
      omega
     refine⟨_,rfl,_,rfl,t₁,_,_,_,rfl,rfl,ag,rfl,?_⟩
     rw [gF]
     refine⟨_,rfl,t₁,_,_,_,rfl,rfl,aR.of ag,rfl,_,rfl,_,_,rfl,rfl,hm0,?_⟩
     refine⟨_,rfl,t₁,_,_,_,rfl,rfl,aR.of ag,rfl,_,rfl,_,_,rfl,rfl,⟨hm0,hm1⟩,_,rfl,t₁,_,_,_,rfl,rfl,ag,rfl,?_⟩
     refine⟨_,rfl,?_⟩
     rw [gF]
     exact k _ _ (Int.emod_nonneg _ (by omega)) (Int.emod_lt_of_pos _ hm0) (tap (p+1) (p / m) (by omega) (Int.ediv_nonneg d2 (by omega)))
 refine bP (fun z=>c0 (by injection z)) ?_
 refine⟨_,rfl,t₁,_,_,_,rfl,rfl,aR.of ht,rfl,_,rfl,_,_,rfl,rfl,hm0,?_⟩
 refine⟨_,rfl,t₁,_,_,_,rfl,rfl,aR.of ht,rfl,_,rfl,_,_,rfl,rfl,⟨hm0,hm1⟩,_,rfl,t₁,_,_,_,rfl,rfl,ht,rfl,?_⟩
 refine⟨_,rfl,?_⟩
 exact k _ _ (Int.emod_nonneg _ (by omega)) (Int.emod_lt_of_pos _ hm0) (tap p (q / m) hp0 (Int.ediv_nonneg hq0 (by omega)))
theorem vg (T:eE K mg t):bB P w K mg base dk 2 t.a_Q12 t.d_Q12 ["_law_due", "_law_found"] (k8 K):=by
 refine T.F_Q12.ok tq (fun vs H Q E h=>?_) (fun cdv A outer s H vs Q E hr h=>?_)
 ·obtain⟨_,_,_,rfl,_⟩:=h;rfl
 obtain⟨v,w,r,rfl,hv,hw,k⟩:=h
 refine cY.ok (af (bg (fS (mO (bE (ay aW (by rfl) T.z_isinstance boot_isinstance (ac (qv 0) (ac (bf (v:=V.ty "tuple") rfl T.z_tuple boot_tuple rfl) ae ad) ad))) (jo (bE (ay aW (by rfl) T.z_isinstance boot_isinstance (ac (qv 0) (ac (bf (v:=V.ty "list") rfl T.z_list boot_list rfl) ae ad) ad)))))) (af (bg (aK gQ (ay aW (by rfl) T.z_isinstance boot_isinstance (ac (qv 0) (ac (bf (v:=V.ty "tuple") rfl T.z_tuple boot_tuple rfl) ae ad) ad)) (ay aW (by rfl) T.z_isinstance boot_isinstance (ac (qv 1) (ac (bf (v:=V.ty "tuple") rfl T.z_tuple boot_tuple rfl) ae ad) ad)) (aJ _)) (ak (aE dE)) aI)
   (af (bg (aK gQ (ay aW (by rfl) T.z_isinstance boot_isinstance (ac (qv 0) (ac (bf (v:=V.ty "list") rfl T.z_list boot_list rfl) ae ad) ad)) (ay aW (by rfl) T.z_isinstance boot_isinstance (ac (qv 1) (ac (bf (v:=V.ty "list") rfl T.z_list boot_list rfl) ae ad) ad)) (aJ _)) (ak (aE dE)) aI)
   (af (bg (aK gQ (ay bc (by rfl) T.z_len boot_len (ac (qv 0) ae ad)) (ay bc (by rfl) T.z_len boot_len (ac (qv 1) ae ad)) (aJ _)) (ak (aE dE)) aI)
   (ak (aE (ay (rR rfl) (by rfl) T.z_all boot_all (ac (dg (N':=["_law_k", "_law_due", "_law_found"]) (src:=[none,some 0,some 1]) rfl (by exact (bZ rfl T.z_range (ac (ay bc (by rfl) T.z_len boot_len (ac (qv 0) ae ad)) ae aB))) (fun _ _ _ _ _=>(by exact (by exact aL (i:=0) (by show List.Nodup (["_law_k", "_law_due", "_law_found"]:List Str);decide +kernel) (by exact rfl) (by first | exact Or.inl rfl | exact Or.inr rfl)))) (fun _ _ _ _ _=>cP) (fun _ _ _ _ _=>(by exact (by exact (bI (qY T) (by exact hr.mono (by decide)) (by exact rfl) T.m_Q12 T.F_Q12.kp T.b_Q12 (by exact .nil) (by exact ef) (ac (by exact (gN (fM (K:=K) (by exact rfl)) (by exact (qv 1)) (by exact (qv 0)) (by exact fun _ _=>rfl))) (ac (by exact (gN (fM (K:=K) (by exact rfl)) (by exact (qv 2)) (by exact (qv 0)) (by exact fun _ _=>rfl))) ae aF) aF))))) (by exact⟨rfl,rfl,rfl,rfl,⟨rfl,rfl,rfl,rfl,trivial⟩⟩) rfl (by decide +kernel) rfl (by decide +kernel) (by exact bT rfl ⟨rfl,⟨rfl,trivial⟩⟩)) ae dD))))))) aI)
   (af (bg (aK gl (qv 0) dy (aJ _)) (ak (aE (cR gl (qv 1) dy (aJ _)))) aI)
   (af (bg (bE (ay aW (by rfl) T.z_isinstance boot_isinstance (ac (qv 0) (ac (bf (v:=V.ty "str") rfl T.z_str boot_str rfl) ae ad) ad))) (ak (aE (fe (ay aW (by rfl) T.z_isinstance boot_isinstance (ac (qv 1) (ac (bf (v:=V.ty "str") rfl T.z_str boot_str rfl) ae ad) ad)) (gg (cR dh (qv 1) (qv 0) (aJ _)))))) aI)
   (af (bg (bE (ay aW (by rfl) T.z_isinstance boot_isinstance (ac (qv 0) (ac (bf (v:=V.ty "bool") rfl T.z_bool boot_bool rfl) ae ad) ad))) (ak (aE (fe (ay aW (by rfl) T.z_isinstance boot_isinstance (ac (qv 1) (ac (bf (v:=V.ty "bool") rfl T.z_bool boot_bool rfl) ae ad) ad)) (gg (cR dh (qv 1) (qv 0) (aJ _)))))) aI)
   (ak (aE (fe (ay aW (by rfl) T.z_isinstance boot_isinstance (ac (qv 1) (ac (bf (v:=V.ty "int") rfl T.z_int boot_int rfl) ae ad) ad)) (fe (uz (ay aW (by rfl) T.z_isinstance boot_isinstance (ac (qv 1) (ac (bf (v:=V.ty "bool") rfl T.z_bool boot_bool rfl) ae ad) ad))) (gg (cR dh (qv 1) (qv 0) (aJ _))))))))))) ?_
 extract_lets +lift
 try dsimp -zeta -zetaDelta only [Cx.nox,Cx.wish,bw]
 have dv:=hv.deep
 have dw:=hw.deep
 obtain⟨a,rfl,e⟩:=hv
 obtain⟨b,rfl,e'⟩:=hw
 refine⟨_,rfl,_,_,_,_,rfl,dv,eC,_,rfl,fj ?_⟩
 refine⟨_,rfl,_,_,_,_,rfl,dv,eC,_,rfl,_,_,_,_,rfl,dw,eC,rfl,_,rfl,iG rfl ?_⟩
 refine⟨_,rfl,_,_,_,_,rfl,dv,fU,_,rfl,_,_,_,_,rfl,dw,fU,rfl,_,rfl,iG rfl ?_⟩
 refine⟨_,rfl,a,_,rfl,.inr e,_,rfl,b,_,rfl,.inr e',rfl,_,rfl,iG rfl ?_⟩
 refine⟨_,rfl,a,_,rfl,.inr e,_,rfl,(by show -(2:Int) ^ 62≤((2:Nat):Int);decide),(by show ((2:Nat):Int) < 2 ^ 62;decide),fun D hD=>qk wH (fun _=>true) (fun _=>V.bl true) hD (by show 2≤1000;decide) (fun i x H' hi s' hx R E kR kE=>?_) fun H4 s4 h4=>?_⟩
 ·subst hx
  rw [Int.zero_add]
  have t':=ax.same (K:=K) s'
  obtain⟨y,hy⟩:∃ y:Int,[V.int r.1,V.int r.2][i]?=some (.int y):=by
   match i,hi with
   | 0,_=>exact⟨_,rfl⟩
   | 1,_=>exact⟨_,rfl⟩
  exact⟨hZ.set rfl,_,rfl,_,rfl,a,_,_,_,rfl,rfl,t' _ _ e,bM hy,_,rfl,_,rfl,b,_,_,_,rfl,rfl,t' _ _ e',bM hy,y,rfl,kR rfl _ (aS.refl _)⟩
 ·exact⟨D,[true,true],rfl,aR.of h4,k H4 s4⟩
theorem gt (T:eE K mg t):bB P w K mg base dk 1 t.a_Q25 t.d_Q25 ["_law_top", "_law_bottom"] (mK K):=by
 refine T.F_Q25.ok oi (fun vs H Q E h=>?_) (fun cdv A outer s H vs Q E hr h=>?_)
 ·obtain⟨_,_,rfl,_⟩:=h;rfl
 obtain⟨a,b,rfl,hb,hz,k⟩:=h
 refine cY.ok (af (lA (i:=2) (j:=3) rfl oi.nd rfl rfl (by decide) rfl rfl (ac (ay jM (by rfl) T.z_abs boot_abs (ac (qv 0) ae ad)) (ac (qv 1) ae ad) aB) rfl)
   (af (fD PassesOwn.never (aK gQ (qv 3) ah (aJ _))
   (ak (lA (i:=2) (j:=3) rfl oi.nd rfl rfl (by decide) rfl rfl (ac (qv 3) (ac (aG eK (qv 2) (qv 3)) ae ba) ad) rfl)))
   (ak (aE (aN (ac (aG eh (qv 0) (qv 2)) (ac (aG eh (qv 1) (qv 2)) ae ba) ba)))))) ?_
 extract_lets +lift
 try dsimp -zeta -zetaDelta only [Cx.nox,Cx.wish,bw]
 have gp:=bC (a:=a) hb
 have gb:=jH (a:=a) hb hz
 refine⟨_,rfl,_,rfl,_,rfl,_,_,rfl,?_⟩
 rw [o2]
 refine⟨fun m σ H'=>∃ (x y:Int),σ=[some (.int a),some (.int b),some (.int x),some (.int y)]/\H'=H/\0≤x/\0≤y/\Int.gcd x y=Int.gcd a b/\m=y.toNat,⟨_,_,_,rfl,rfl,by omega,by omega,(by simp [Int.gcd]),rfl⟩,?_⟩
 rintro m σ H' ⟨x,y,rfl,rfl,hx,hy,hg,rfl⟩
 refine⟨_,rfl,rfl,_,rfl,?_⟩
 by_cases c:y=0
 ·subst c
  refine iG rfl ?_
  have e:(x:Int)=(Int.gcd x 0:Nat):=by simp [Int.gcd];omega
  rw [hg] at e
  subst e
  exact⟨_,rfl,_,rfl,_,_,rfl,rfl,⟨gp,gb⟩,_,rfl,_,rfl,_,_,rfl,rfl,⟨gp,gb⟩,dU,fun p hp=>k p hp⟩
 ·refine pX (fun z=>c (by injection z)) ?_
  refine⟨_,fun _ _ z=>z,?_⟩
  refine⟨_,rfl,_,rfl,_,rfl,_,_,rfl,rfl,(by omega),_,_,rfl,?_⟩
  refine⟨_,?_,y,x % y,rfl,rfl,hy,Int.emod_nonneg _ c,?_,rfl⟩
  ·have:=Int.emod_lt_of_pos x (show 0 < y by omega)
   have:=Int.emod_nonneg x c
   omega
  ·rw [ng hx (by omega),hg]
theorem dI (T:eE K mg t):bB P w K mg base dk 2 t.a_Q31 t.d_Q31 ["_law_one", "_law_other"] (nZ K):=by
 refine T.F_Q31.ok Al (fun vs H Q E h=>?_) (fun cdv A outer s H vs Q E hr h=>?_)
 ·obtain⟨_,_,_,_,_,_,rfl,_⟩:=h;rfl
 obtain⟨v,w,r,q,n,m,rfl,hv,hw,wr,wq,hz,k⟩:=h
 refine cY.ok (ak (aE (bF (gt T) hr T.m_Q25 T.F_Q25.kp T.b_Q25 (ac (aG bJ (aG bY (bv ar (qv 0) ah) (bv ar (qv 1) ah)) (aG bY (bv ar (qv 1) ah) (bv ar (qv 0) ah))) (ac (aG bY (bv ar (qv 0) ah) (bv ar (qv 1) ah)) ae ba) ba)))) ?_
 extract_lets +lift
 try dsimp -zeta -zetaDelta only [Cx.nox,Cx.wish,bw]
 obtain⟨p,rfl,hv⟩:=hv
 obtain⟨p',rfl,hw⟩:=hw
 have c1:=bi wr.top (show n≤4000 by omega)
 have c2:=bi wr.bot (show n≤4000 by omega)
 have c3:=bi wq.top (show m≤4000 by omega)
 have c4:=bi wq.bot (show m≤4000 by omega)
 refine⟨_,rfl,p,_,_,_,rfl,rfl,hv,rfl,_,rfl,p',_,_,_,rfl,rfl,hw,rfl,_,_,rfl,rfl,⟨c1,c4⟩,_,rfl,p',_,_,_,rfl,rfl,hw,rfl,_,rfl,p,_,_,_,rfl,rfl,hv,rfl,_,_,rfl,rfl,⟨c3,c2⟩,_,_,rfl,rfl,_,rfl,p,_,_,_,rfl,rfl,hv,rfl,_,rfl,p',_,_,_,rfl,rfl,hw,rfl,_,_,rfl,rfl,⟨c2,c4⟩,_,_,rfl,Int.mul_pos wr.pos wq.pos,bi (dJ wr.bot wq.bot) (by omega),k⟩
theorem im (T:eE K mg t):bB P w K mg base dk 2 t.a_Q32 t.d_Q32 ["_law_one", "_law_other"] (nY K):=by
 refine T.F_Q32.ok Ak (fun vs H Q E h=>?_) (fun cdv A outer s H vs Q E hr h=>?_)
 ·obtain⟨_,_,_,_,_,_,rfl,_⟩:=h;rfl
 obtain⟨v,w,r,q,n,m,rfl,hv,hw,wr,wq,hz,k⟩:=h
 refine cY.ok (ak (aE (bF (gt T) hr T.m_Q25 T.F_Q25.kp T.b_Q25 (ac (aG bY (bv ar (qv 0) ah) (bv ar (qv 1) ah)) (ac (aG bY (bv ar (qv 0) ah) (bv ar (qv 1) ah)) ae ba) ba)))) ?_
 extract_lets +lift
 try dsimp -zeta -zetaDelta only [Cx.nox,Cx.wish,bw]
 obtain⟨p,rfl,hv⟩:=hv
 obtain⟨p',rfl,hw⟩:=hw
 have c1:=bi wr.top (show n≤4000 by omega)
 have c2:=bi wr.bot (show n≤4000 by omega)
 have c3:=bi wq.top (show m≤4000 by omega)
 have c4:=bi wq.bot (show m≤4000 by omega)
 refine⟨_,rfl,p,_,_,_,rfl,rfl,hv,rfl,_,rfl,p',_,_,_,rfl,rfl,hw,rfl,_,_,rfl,rfl,⟨c1,c3⟩,_,rfl,p,_,_,_,rfl,rfl,hv,rfl,_,rfl,p',_,_,_,rfl,rfl,hw,rfl,_,_,rfl,rfl,⟨c2,c4⟩,_,_,rfl,Int.mul_pos wr.pos wq.pos,bi (dJ wr.bot wq.bot) (by omega),k⟩
theorem gs (T:eE K mg t):bB P w K mg base dk 1 t.a_Q26 t.d_Q26 ["_law_one", "_law_other"] (mJ K):=by
 refine T.F_Q26.ok Ao (fun vs H Q E h=>?_) (fun cdv A outer s H vs Q E hr h=>?_)
 ·obtain⟨_,_,_,_,_,_,rfl,_⟩:=h;rfl
 obtain⟨v,w,r,q,n,m,rfl,hv,hw,wr,wq,hz,k⟩:=h
 refine cY.ok (ak (aE (cR kq (aG bY (bv ar (qv 0) ah) (bv ar (qv 1) ah)) (aG bY (bv ar (qv 1) ah) (bv ar (qv 0) ah)) (aJ _)))) ?_
 extract_lets +lift
 try dsimp -zeta -zetaDelta only [Cx.nox,Cx.wish,bw]
 obtain⟨p,rfl,hv⟩:=hv
 obtain⟨p',rfl,hw⟩:=hw
 have c1:=bi wr.top (show n≤4000 by omega)
 have c2:=bi wr.bot (show n≤4000 by omega)
 have c3:=bi wq.top (show m≤4000 by omega)
 have c4:=bi wq.bot (show m≤4000 by omega)
 refine⟨_,rfl,p,_,_,_,rfl,rfl,hv,rfl,_,rfl,p',_,_,_,rfl,rfl,hw,rfl,_,_,rfl,rfl,⟨c1,c4⟩,_,rfl,p',_,_,_,rfl,rfl,hw,rfl,_,rfl,p,_,_,_,rfl,rfl,hv,rfl,_,_,rfl,rfl,⟨c3,c2⟩,_,_,rfl,rfl,k⟩
theorem Bv (T:eE K mg t):bB P w K mg base dk 2 t.a_Q13 t.d_Q13 ["_law_tape_here", "_law_many"] (kX K):=by
 refine T.F_Q13.ok d9 (fun vs H Q E h=>?_) (fun cdv A outer s H vs Q E hr h=>?_)
 ·obtain⟨_,_,_,rfl,_⟩:=h;rfl
 obtain⟨t₁,s₁,m,rfl,tp,hm,k⟩:=h
 refine cY.ok (af (bH 2 d9.nd (bv bj (bD (ac ah (ac ah (ac ah (ac ah ae ap) ap) ap) ap)) (bF (bA T) hr T.m_Q24 T.F_Q24.kp T.b_Q24 (ac (qv 0) (ac ah ae ap) ad))))
   (af (bH 3 d9.nd (bD ae))
   (af (cz PassesOwn.never rfl (bZ rfl T.z_range (ac (qv 1) ae ad)) (aL (i:=4) d9.nd rfl (by first | exact Or.inl rfl | exact Or.inr rfl))
   (af (bH 5 d9.nd (bF (bA T) hr T.m_Q24 T.F_Q24.kp T.b_Q24 (ac (qv 0) (ac (qv 2) ae ad) ad)))
   (af (bH 6 d9.nd (aG bJ (qv 5) (bF (bA T) hr T.m_Q24 T.F_Q24.kp T.b_Q24 (ac (qv 0) (ac (aG fh (qv 2) (qv 5)) ae ba) ad))))
   (af (bH 7 d9.nd (bF (bA T) hr T.m_Q24 T.F_Q24.kp T.b_Q24 (ac (qv 0) (ac ah ae ap) ad)))
   (af (bg (aK dh (qv 7) ah (aJ _)) (ak (bH 6 d9.nd (qv 5))) aI)
   (af (bg (aK dh (qv 7) ah (aJ _)) (ak (lA (i:=5) (j:=6) rfl d9.nd rfl rfl (by decide) rfl rfl (ac ah (ac (aG fh (qv 2) ah) ae ba) ap) rfl)) aI)
   (af (bg (fS (jp (aK dh (qv 7) ah (aJ _)) (gK (aK pS (qv 4) ah (aJ _))))) (ak (ij (fE wS (bv bj (qv 3) (bF (bA T) hr T.m_Q24 T.F_Q24.kp T.b_Q24 (ac (qv 0) (ac (qv 4) ae ad) ad))) gM (gL ah)) (lC rfl (df (aL (i:=5) d9.nd rfl (by first | exact Or.inl rfl | exact Or.inr rfl)) (df (aL (i:=6) d9.nd rfl (by first | exact Or.inl rfl | exact Or.inr rfl)) iR))))) aI)
   (ak (fc (jq PySem.F.plainAttrs_list PySem.F.slot_list_append PySem.F.type_list_append dz (qv 3) (ac (aN (ac (qv 5) (ac (qv 6) (ac (bF (gt T) hr T.m_Q25 T.F_Q25.kp T.b_Q25 (ac (aG bJ ah (bF (bA T) hr T.m_Q24 T.F_Q24.kp T.b_Q24 (ac (qv 0) (ac ah ae ap) ad))) (ac (bv bj (bD (ac ah (ac ah (ac ah (ac ah (ac ah (ac ah ae ap) ap) ap) ap) ap) ap)) (bF (bA T) hr T.m_Q24 T.F_Q24.kp T.b_Q24 (ac (qv 0) (ac ah ae ap) ad))) ae aF) ba)) ae aB) ad) ad)) ae aO)))))))))))
   (ak (aE (cc cy (by rfl) T.z_tuple boot_tuple (ac (qv 3) ae ad))))))) ?_
 extract_lets +lift
 try dsimp -zeta -zetaDelta only [Cx.nox,Cx.wish,bw]
 obtain⟨y0,e0⟩:=tp.lst
 refine⟨EC,fun le hle=>?_⟩
 have nle:le≠t₁:=fun z=>by subst z;rw [e0] at hle;cases hle
 have s0:=ai hle (.lst [.int 3,.int 7,.int 12,.int 24])
 have T0:=tp.new hle (.lst [.int 3,.int 7,.int 12,.int 24])
 have h00:upd H le (.lst [.int 3,.int 7,.int 12,.int 24]) le=some (.lst [.int 3,.int 7,.int 12,.int 24]):=ag
 generalize upd H le (.lst [.int 3,.int 7,.int 12,.int 24])=H0 at T0 s0 h00 ⊢
 obtain⟨y00,e00⟩:=T0.lst
 refine⟨_,rfl,t₁,s₁,4,rfl,T0,by omega,by omega,fun r0 x0_ a0 b0 T0=>?_⟩
 have S0:aX t₁ H (upd H0 t₁ (.lst x0_)):=(aX.same s0 tp.lst).trans (aX.up e00)
 have h01:upd H0 t₁ (.lst x0_) le=some (.lst [.int 3,.int 7,.int 12,.int 24]):=by rw [av nle];exact h00
 generalize upd H0 t₁ (.lst x0_)=HA at T0 S0 h01 ⊢
 rename_i T0'
 obtain⟨en,hen,en1,en2⟩:∃ e:Nat,jN [V.int 3,.int 7,.int 12,.int 24] r0=some (.int e)/\3≤e/\e≤24:=by
  rcases (show r0=0∨r0=1∨r0=2∨r0=3 by omega) with rfl | rfl | rfl | rfl
  ·exact⟨3,rfl,by decide,by decide⟩
  ·exact⟨7,rfl,by decide,by decide⟩
  ·exact⟨12,rfl,by decide,by decide⟩
  ·exact⟨24,rfl,by decide,by decide⟩
 refine⟨le,_,_,_,rfl,rfl,aR.of h01,hen,?_⟩
 refine⟨(by show 0≤sizeLine;exact Nat.zero_le _),fun lw hlw0=>?_⟩
 obtain⟨yA,eA⟩:=T0.lst
 have nl:lw≠t₁:=fun z=>by subst z;rw [eA] at hlw0;cases hlw0
 have nls:=T0.off hlw0
 refine⟨_,rfl,m,rfl,by omega,by omega,cX (lo:=0) (n:=(m:Int).toNat) (fun i σ H'=>∃ (xs:List V) (ws:List Wk) (x5 x6 x7 x8:Option V),σ=[some (.ref t₁),some (.int m),some (.int en),some (.ref lw),x5,x6,x7,x8]/\bx K H' t₁ s₁/\(∀ b o,b≠t₁->HA b=some o->H' b=some o)/\H' lw=some (.lst xs)/\bG (Cp K H') xs ws/\ws.length=i/\∀ w∈ws,Ca w) ⟨[],[],none,none,none,none,rfl,T0.new hlw0 _,(fun b o _ q=>ai hlw0 _ _ _ q),ag,.nil,rfl,fun w hw=>by cases hw⟩ ?_ ?_⟩
 ·rintro i σ H1 hi ⟨xs,ws,x5,x6,x7,x8,rfl,T1,kp,hlw,alw,hlen,okw⟩
  rw [Int.zero_add]
  obtain⟨y1,e1⟩:=T1.lst
  refine⟨_,rfl,_,rfl,t₁,s₁,en,rfl,T1,by omega,by omega,fun r2 x2_ a2 b2 T2=>?_⟩
  obtain⟨ff,rfl⟩:=Int.eq_ofNat_of_zero_le a2
  have S2:aX t₁ H1 _:=aX.up (ys:=x2_) e1
  generalize upd H1 t₁ (.lst x2_)=H2 at T2 S2 ⊢
  obtain⟨y2,e2⟩:=T2.lst
  refine⟨_,rfl,_,rfl,_,rfl,_,rfl,_,_,rfl,rfl,t₁,s₁,(en:Int) - ff,rfl,T2,by omega,by omega,fun r3 x3_ a3 b3 T3=>?_⟩
  have S3:=S2.trans (aX.up (ys:=x3_) e2)
  generalize upd H2 t₁ (.lst x3_)=H3 at T3 S3 ⊢
  obtain⟨y3,e3⟩:=T3.lst
  refine⟨_,_,rfl,rfl,?_⟩
  obtain⟨la,hla⟩:∃ la:Nat,(ff:Int)+r3=(la:Nat):=⟨((ff:Int)+r3).toNat,by omega⟩
  dsimp only
  rw [hla]
  refine⟨_,rfl,t₁,s₁,7,rfl,T3,by omega,by omega,fun r4 x4_ a4 b4 T4=>?_⟩
  have S4:=S3.trans (aX.up (ys:=x4_) e3)
  generalize hHH:upd H3 t₁ (.lst x4_)=HH at T4 S4 ⊢
  have kp4:=S4.keep
  have tst4:ax K H1 HH:=ax.step S4
  refine⟨_,rfl,rfl,_,rfl,?_⟩
  have c4:r4=0∨r4=1∨(r4=2/\0 < i)∨(r4=2/\¬ 0 < i)∨(r4≠0/\r4≠1/\r4≠2):=by omega
  rcases c4 with rfl | rfl | ⟨rfl,ci⟩ | ⟨rfl,ci⟩ | ⟨c0,c1,c2⟩
  refine cW rfl ?_
  refine⟨_,rfl,?_⟩
  refine⟨_,rfl,rfl,_,rfl,bP (by intro z;cases z) ?_⟩
  refine⟨_,rfl,rfl,_,rfl,cU (cU ?_)⟩
  rotate_left
  refine bP (by intro z;cases z) ?_
  refine⟨_,rfl,rfl,_,rfl,?_⟩
  refine cW rfl ?_
  refine⟨_,rfl,_,_,rfl,rfl,_,_,rfl,?_⟩
  refine⟨_,rfl,rfl,_,rfl,cU (cU ?_)⟩
  dsimp only
  rw [show (en:Int) - 1=((en - 1:Nat):Int) by omega]
  rotate_left
  refine bP (by intro z;cases z) ?_
  refine⟨_,rfl,rfl,_,rfl,?_⟩
  refine bP (by intro z;cases z) ?_
  refine⟨_,rfl,rfl,_,rfl,?_⟩
  refine fj ?_
  refine⟨_,rfl,_,_,rfl,rfl,_,rfl,?_⟩
  refine cW (by omega) ?_
  obtain⟨y4,e4⟩:=T4.lst
  have hlw4:HH lw=some (.lst xs):=kp4 _ _ nl hlw
  refine⟨_,rfl,_,rfl,_,rfl,t₁,s₁,i,rfl,T4,by omega,by omega,fun r9 x9_ a9 b9 T9=>?_⟩
  have S9':=S4.trans (aX.up (ys:=x9_) e4)
  have hlwN:upd HH t₁ (.lst x9_) lw=some (.lst xs):=by rw [av nl];exact hlw4
  clear hHH kp4 tst4 T4
  generalize upd HH t₁ (.lst x9_)=HN at T9 S9' hlwN ⊢
  obtain⟨j,rfl⟩:=Int.eq_ofNat_of_zero_le a9
  obtain⟨xw,hxw⟩:∃ xw,xs[j]?=some xw:=⟨_,List.getElem?_eq_getElem (by rw [alw.len];omega)⟩
  obtain⟨w,hw,pw0,xa,rfl,hSw,ra⟩:=alw.at hxw
  have okw0:=okw w (List.mem_of_getElem? hw)
  have hSwN:=ax.step (K:=K) S9' _ _ hSw
  refine⟨lw,_,_,_,rfl,rfl,aR.of hlwN,bM hxw,?_⟩
  refine⟨_,rfl,pw0,_,rfl,hSwN,fun pc HH sQ hpc=>?_⟩
  rw [show fy [V.int (w.1:Nat),V.int (w.2.1:Nat),xa] none (some 2)=[V.int (w.1:Nat),V.int (w.2.1:Nat)] from lR (n:=2) (by show 2≤3;decide)] at hpc
  refine⟨pc,_,rfl,hpc,rfl,_,_,rfl,_,_,rfl,rfl,?_⟩
  have S4:=S9'.trans (aX.same sQ T9.lst)
  have T4:=T9.same sQ
  have kp4:=S4.keep
  have tst4:ax K H1 HH:=ax.step S4
  have lew:=okw0.le
  have ltw:=okw0.lt
  obtain⟨wf,wl,wr⟩:=w
  replace lew:wf≤wl:=lew
  replace ltw:wl < 24:=ltw
  clear e4 y4 hlw4
  rotate_left
  refine bP (by intro z;cases z) ?_
  refine⟨_,rfl,rfl,_,rfl,?_⟩
  refine bP (by intro z;cases z) ?_
  refine⟨_,rfl,rfl,_,rfl,?_⟩
  refine fj ?_
  refine⟨_,rfl,_,_,rfl,rfl,_,rfl,?_⟩
  refine bP (by omega) ?_
  rotate_left
  refine bP (fun z=>c0 (by injection z)) ?_
  refine⟨_,rfl,rfl,_,rfl,?_⟩
  refine bP (fun z=>c1 (by injection z)) ?_
  refine⟨_,rfl,rfl,_,rfl,?_⟩
  refine bP (fun z=>c2 (by injection z)) (cU ?_)
  rotate_left
  all_goals
   obtain⟨y4,e4⟩:=T4.lst
   have hlw4:HH lw=some (.lst xs):=kp4 _ _ nl hlw
   refine⟨_,rfl,.inl ⟨rfl,_,aR.of hlw4⟩,?_⟩
   refine⟨_,rfl,_,rfl,_,rfl,t₁,s₁,12,rfl,T4,by omega,by omega,fun r5 x5_ a5 b5 T5=>?_⟩
   have S5:aX t₁ HH _:=aX.up (ys:=x5_) e4
   generalize upd HH t₁ (.lst x5_)=H5 at T5 S5 ⊢
   obtain⟨y5,e5⟩:=T5.lst
   refine⟨_,_,rfl,rfl,GJ,fun l6 h6=>?_⟩
   have S6:=S5.trans (aX.new T5.lst h6 (.lst [.int 1,.int 1,.int 2,.int 3,.int 4,.int 7]))
   have n6:l6≠t₁:=fun z=>by subst z;rw [e5] at h6;cases h6
   have T6':=T5.new h6 (.lst [.int 1,.int 1,.int 2,.int 3,.int 4,.int 7])
   obtain⟨y6,e6⟩:=T6'.lst
   have h6':upd H5 l6 (.lst [.int 1,.int 1,.int 2,.int 3,.int 4,.int 7]) l6=some (.lst [.int 1,.int 1,.int 2,.int 3,.int 4,.int 7]):=ag
   generalize upd H5 l6 (.lst [.int 1,.int 1,.int 2,.int 3,.int 4,.int 7])=H6 at T6' S6 e6 h6' ⊢
   refine⟨_,rfl,t₁,s₁,6,rfl,T6',by omega,by omega,fun r7 x7_ a7 b7 T7=>?_⟩
   have S7:=S6.trans (aX.up (ys:=x7_) e6)
   have h67:upd H6 t₁ (.lst x7_) l6=some (.lst [.int 1,.int 1,.int 2,.int 3,.int 4,.int 7]):=by rw [av n6];exact h6'
   generalize upd H6 t₁ (.lst x7_)=H7 at T7 S7 h67 ⊢
   obtain⟨bb,hbb,bo1,bo2,bo3⟩:∃ b:Int,jN [V.int 1,.int 1,.int 2,.int 3,.int 4,.int 7] r7=some (.int b)/\1≤b/\b≤7/\b∣84:=by
    rcases (show r7=0∨r7=1∨r7=2∨r7=3∨r7=4∨r7=5 by omega) with rfl | rfl | rfl | rfl | rfl | rfl
    ·exact⟨1,rfl,by decide,by decide,by decide⟩
    ·exact⟨1,rfl,by decide,by decide,by decide⟩
    ·exact⟨2,rfl,by decide,by decide,by decide⟩
    ·exact⟨3,rfl,by decide,by decide,by decide⟩
    ·exact⟨4,rfl,by decide,by decide,by decide⟩
    ·exact⟨7,rfl,by decide,by decide,by decide⟩
   refine⟨l6,_,_,_,rfl,rfl,aR.of h67,hbb,?_⟩
   refine⟨1+r5,bb,rfl,by omega,bi (n:=3) (by show bb.natAbs < 8;omega) (by decide),fun pf hpf=>?_⟩
   have am:=qq (a:=1+r5) (by omega) (by omega) bo1 bo2 bo3
   have s8:=ai hpf (.tup [.int (cK (1+r5) bb).1,.int (cK (1+r5) bb).2])
   have rf:RV K _ (.ref pf) (cK (1+r5) bb):=⟨pf,rfl,bo.of (ag (H:=H7) (a:=pf) (o:=.tup [.int (cK (1+r5) bb).1,.int (cK (1+r5) bb).2]))⟩
   have T8:=T7.same s8
   generalize upd H7 pf (.tup [.int (cK (1+r5) bb).1,.int (cK (1+r5) bb).2])=H8 at T8 s8 rf ⊢
   refine⟨zK,fun pw hpw=>?_⟩
  ·have s9:=ai hpw (.tup [.int (ff:Nat),.int (ff:Nat),.ref pf])
   have hpw9:bo K _ pw [.int (ff:Nat),.int (ff:Nat),.ref pf]:=bo.of (ag (H:=H8) (a:=pw) (o:=.tup [.int (ff:Nat),.int (ff:Nat),.ref pf]))
   have T9:=T8.same s9
   have rf9:=rf.mono (ax.same s9)
   generalize upd H8 pw (.tup [.int (ff:Nat),.int (ff:Nat),.ref pf])=H9 at T9 s9 rf9 hpw9 ⊢
   have S9:=S7.trans (aX.same (s8.trans s9) T7.lst)
   have hlw9:=S9.keep _ _ nl hlw4
   refine⟨lw,xs,_,rfl,rfl,hlw9,aV (by rw [alw.len];omega),?_⟩
   have t9:ax K H1 (upd H9 lw (.lst (xs++[.ref pw]))):=(tst4.trans (ax.step S9)).trans (ax.up hlw9 _)
   refine⟨_,ws++[(ff,ff,cK (1+r5) bb)],_,_,_,_,rfl,T9.upl nl nls _,fun b o nb q=>?_,ag,(alw.mono fun v d m=>m.mono t9).snoc ⟨pw,.ref pf,rfl,ax.up (K:=K) hlw9 _ _ _ hpw9,rf9.mono (ax.up hlw9 _)⟩,by rw [List.length_append,hlen];rfl,fun z hz=>?_⟩
   ·rw [av (aA q hlw0)]
    exact S9.keep _ _ nb (kp4 _ _ nb (kp b o nb q))
   ·rcases List.mem_append.mp hz with h | h
    ·exact okw z h
    ·rw [List.mem_singleton] at h
     subst h
     exact⟨by show ff≤ff;omega,by show ff < 24;omega,am⟩
  ·have s9:=ai hpw (.tup [.int (0:Nat),.int ((en - 1):Nat),.ref pf])
   have hpw9:bo K _ pw [.int (0:Nat),.int ((en - 1):Nat),.ref pf]:=bo.of (ag (H:=H8) (a:=pw) (o:=.tup [.int (0:Nat),.int ((en - 1):Nat),.ref pf]))
   have T9:=T8.same s9
   have rf9:=rf.mono (ax.same s9)
   generalize upd H8 pw (.tup [.int (0:Nat),.int ((en - 1):Nat),.ref pf])=H9 at T9 s9 rf9 hpw9 ⊢
   have S9:=S7.trans (aX.same (s8.trans s9) T7.lst)
   have hlw9:=S9.keep _ _ nl hlw4
   refine⟨lw,xs,_,rfl,rfl,hlw9,aV (by rw [alw.len];omega),?_⟩
   have t9:ax K H1 (upd H9 lw (.lst (xs++[.ref pw]))):=(tst4.trans (ax.step S9)).trans (ax.up hlw9 _)
   refine⟨_,ws++[(0,(en - 1),cK (1+r5) bb)],_,_,_,_,rfl,T9.upl nl nls _,fun b o nb q=>?_,ag,(alw.mono fun v d m=>m.mono t9).snoc ⟨pw,.ref pf,rfl,ax.up (K:=K) hlw9 _ _ _ hpw9,rf9.mono (ax.up hlw9 _)⟩,by rw [List.length_append,hlen];rfl,fun z hz=>?_⟩
   ·rw [av (aA q hlw0)]
    exact S9.keep _ _ nb (kp4 _ _ nb (kp b o nb q))
   ·rcases List.mem_append.mp hz with h | h
    ·exact okw z h
    ·rw [List.mem_singleton] at h
     subst h
     exact⟨by show 0≤(en - 1);omega,by show (en - 1) < 24;omega,am⟩
  ·have s9:=ai hpw (.tup [.int (wf:Nat),.int (wl:Nat),.ref pf])
   have hpw9:bo K _ pw [.int (wf:Nat),.int (wl:Nat),.ref pf]:=bo.of (ag (H:=H8) (a:=pw) (o:=.tup [.int (wf:Nat),.int (wl:Nat),.ref pf]))
   have T9:=T8.same s9
   have rf9:=rf.mono (ax.same s9)
   generalize upd H8 pw (.tup [.int (wf:Nat),.int (wl:Nat),.ref pf])=H9 at T9 s9 rf9 hpw9 ⊢
   have S9:=S7.trans (aX.same (s8.trans s9) T7.lst)
   have hlw9:=S9.keep _ _ nl hlw4
   refine⟨lw,xs,_,rfl,rfl,hlw9,aV (by rw [alw.len];omega),?_⟩
   have t9:ax K H1 (upd H9 lw (.lst (xs++[.ref pw]))):=(tst4.trans (ax.step S9)).trans (ax.up hlw9 _)
   refine⟨_,ws++[(wf,wl,cK (1+r5) bb)],_,_,_,_,rfl,T9.upl nl nls _,fun b o nb q=>?_,ag,(alw.mono fun v d m=>m.mono t9).snoc ⟨pw,.ref pf,rfl,ax.up (K:=K) hlw9 _ _ _ hpw9,rf9.mono (ax.up hlw9 _)⟩,by rw [List.length_append,hlen];rfl,fun z hz=>?_⟩
   ·rw [av (aA q hlw0)]
    exact S9.keep _ _ nb (kp4 _ _ nb (kp b o nb q))
   ·rcases List.mem_append.mp hz with h | h
    ·exact okw z h
    ·rw [List.mem_singleton] at h
     subst h
     exact⟨by show wf≤wl;omega,by show wl < 24;omega,am⟩
  ·have s9:=ai hpw (.tup [.int (ff:Nat),.int (la:Nat),.ref pf])
   have hpw9:bo K _ pw [.int (ff:Nat),.int (la:Nat),.ref pf]:=bo.of (ag (H:=H8) (a:=pw) (o:=.tup [.int (ff:Nat),.int (la:Nat),.ref pf]))
   have T9:=T8.same s9
   have rf9:=rf.mono (ax.same s9)
   generalize upd H8 pw (.tup [.int (ff:Nat),.int (la:Nat),.ref pf])=H9 at T9 s9 rf9 hpw9 ⊢
   have S9:=S7.trans (aX.same (s8.trans s9) T7.lst)
   have hlw9:=S9.keep _ _ nl hlw4
   refine⟨lw,xs,_,rfl,rfl,hlw9,aV (by rw [alw.len];omega),?_⟩
   have t9:ax K H1 (upd H9 lw (.lst (xs++[.ref pw]))):=(tst4.trans (ax.step S9)).trans (ax.up hlw9 _)
   refine⟨_,ws++[(ff,la,cK (1+r5) bb)],_,_,_,_,rfl,T9.upl nl nls _,fun b o nb q=>?_,ag,(alw.mono fun v d m=>m.mono t9).snoc ⟨pw,.ref pf,rfl,ax.up (K:=K) hlw9 _ _ _ hpw9,rf9.mono (ax.up hlw9 _)⟩,by rw [List.length_append,hlen];rfl,fun z hz=>?_⟩
   ·rw [av (aA q hlw0)]
    exact S9.keep _ _ nb (kp4 _ _ nb (kp b o nb q))
   ·rcases List.mem_append.mp hz with h | h
    ·exact okw z h
    ·rw [List.mem_singleton] at h
     subst h
     exact⟨by show ff≤la;omega,by show la < 24;omega,am⟩
  ·have s9:=ai hpw (.tup [.int (ff:Nat),.int (la:Nat),.ref pf])
   have hpw9:bo K _ pw [.int (ff:Nat),.int (la:Nat),.ref pf]:=bo.of (ag (H:=H8) (a:=pw) (o:=.tup [.int (ff:Nat),.int (la:Nat),.ref pf]))
   have T9:=T8.same s9
   have rf9:=rf.mono (ax.same s9)
   generalize upd H8 pw (.tup [.int (ff:Nat),.int (la:Nat),.ref pf])=H9 at T9 s9 rf9 hpw9 ⊢
   have S9:=S7.trans (aX.same (s8.trans s9) T7.lst)
   have hlw9:=S9.keep _ _ nl hlw4
   refine⟨lw,xs,_,rfl,rfl,hlw9,aV (by rw [alw.len];omega),?_⟩
   have t9:ax K H1 (upd H9 lw (.lst (xs++[.ref pw]))):=(tst4.trans (ax.step S9)).trans (ax.up hlw9 _)
   refine⟨_,ws++[(ff,la,cK (1+r5) bb)],_,_,_,_,rfl,T9.upl nl nls _,fun b o nb q=>?_,ag,(alw.mono fun v d m=>m.mono t9).snoc ⟨pw,.ref pf,rfl,ax.up (K:=K) hlw9 _ _ _ hpw9,rf9.mono (ax.up hlw9 _)⟩,by rw [List.length_append,hlen];rfl,fun z hz=>?_⟩
   ·rw [av (aA q hlw0)]
    exact S9.keep _ _ nb (kp4 _ _ nb (kp b o nb q))
   ·rcases List.mem_append.mp hz with h | h
    ·exact okw z h
    ·rw [List.mem_singleton] at h
     subst h
     exact⟨by show ff≤la;omega,by show la < 24;omega,am⟩
 ·rintro σ H1 ⟨xs,ws,x5,x6,x7,x8,rfl,T1,kp,hlw,alw,hlen,okw⟩
  refine⟨_,rfl,lw,_,rfl,.inl ⟨aR.of hlw,fun p hp=>?_⟩⟩
  have s5:=ai hp (.tup xs)
  exact k (.ref p) ws _ ((S0.trans ⟨kp,T0.lst,T1.lst⟩).trans (aX.same s5 T1.lst)) (T1.same s5) ⟨p,xs,rfl,bo.of ag,alw.mono fun _ _ q=>q.mono (ax.same s5)⟩ (by rw [hlen];omega) okw
theorem Bx (T:eE K mg t):bB P w K mg base dk 2 t.a_Q10 t.d_Q10 ["_law_some"] (jR K):=by
 refine T.F_Q10.ok lu (fun vs H Q E h=>?_) (fun cdv A outer s H vs Q E hr h=>?_)
 ·obtain⟨_,_,_,rfl,_⟩:=h;rfl
 obtain⟨a,xs,rs,rfl,hS,al0,wf,n20,k⟩:=h
 refine cY.ok (af (bH 1 lu.nd (bD ae))
   (af (cz PassesOwn.never rfl (de (qv 0)) (aL (i:=2) lu.nd rfl (by first | exact Or.inl rfl | exact Or.inr rfl))
   (af (bH 3 lu.nd (ay bc (by rfl) T.z_len boot_len (ac (dg (N':=["_law_other", "_law_one"]) (src:=[none,some 2]) rfl (by exact (de (qv 1))) (fun _ _ _ _ _=>(by exact (by exact aL (i:=0) (by show List.Nodup (["_law_other", "_law_one"]:List Str);decide +kernel) (by exact rfl) (by first | exact Or.inl rfl | exact Or.inr rfl)))) (fun _ _ _ _ _=>(lx (bE (by exact (bI (gs T) (by exact hr.mono (by decide)) (by exact rfl) T.m_Q26 T.F_Q26.kp T.b_Q26 (by exact .nil) (by exact ef) (ac (by exact (qv 0)) (ac (by exact (qv 1)) ae ad) ad)))))) (fun _ _ _ _ _=>(by exact (by exact (qv 0)))) (by exact⟨rfl,rfl,rfl,rfl,trivial⟩) rfl (by decide +kernel) rfl (by decide +kernel) (by exact bT rfl ⟨rfl,trivial⟩)) ae dD)))
   (ak (bg (aK (qX hr) (qv 2) (qv 1) (by with_unfolding_all rfl)) (ak (fc (jq PySem.F.plainAttrs_list PySem.F.slot_list_insert PySem.F.type_list_insert kx (qv 1) (ac (qv 3) (ac (qv 2) ae ad) ad)))) aI))))
   (ak (aE (qv 1))))) ?_
 extract_lets +lift
 try dsimp -zeta -zetaDelta only [Cx.nox,Cx.wish,bw]
 have hxl:=al0.len
 refine⟨(by show 0≤sizeLine;exact Nat.zero_le _),fun l hl=>?_⟩
 have s0:=ai hl (.lst [])
 have nin:∀ b o,H b=some o->b≠l:=fun b o q=>aA q hl
 refine⟨_,rfl,a,rfl,⟨_,s0.seq hS⟩,eV (K:=K) (a:=a) (xs:=xs) (fun i σ H'=>∃ (x2 x3:Option V) (ys:List V) (zs:List R),σ=[some (.ref a),some (.ref l),x2,x3]/\aS H H'/\H' l=some (.lst ys)/\bG (RV K H') ys zs/\zs.length≤i/\Cs zs/\∀ z∈zs,z∈rs) ⟨none,none,[],[],rfl,s0,ag,.nil,Nat.le_refl _,List.Pairwise.nil,fun z hz=>nomatch hz⟩ (fun i σ H' _ ⟨_,_,_,_,_,s,_⟩=>s.seq hS) ?_ ?_⟩
 ·rintro i x σ H1 hx ⟨x2,x3,ys,zs,rfl,s1,hl1,al1,hlen,ris,sub⟩
  obtain⟨z,hz0,rvz⟩:=al0.at hx
  have hil:i < xs.length:=(List.getElem?_eq_some_iff.mp hx).1
  have mz:=List.mem_of_getElem? hz0
  have wz:=wf z mz
  have hz:=rvz.mono (ax.same s1)
  refine⟨_,rfl,l,rfl,⟨_,aR.of hl1⟩,fun D hD=>ix (K:=K) (P:=RV K) (p:=fun y=>aD y z) (fun _ _ _ _ t p=>p.mono t) hD (aR.of hl1) al1 (by omega) (fun j x d H3 hx hd s3 pd R E kR kE=>?_) fun H3 ds s3 hD3 al3=>?_⟩
  ·refine⟨hZ.set rfl,_,rfl,_,rfl,_,_,d,z,98,98,rfl,pd,hz.mono (ax.same s3),wf d (sub d (List.mem_of_getElem? hd)),wz,by decide,_,rfl,?_⟩
   cases c:aD d z with
   | true=>exact fj ⟨_,rfl,kR _ (aS.refl _) c⟩
   | false=>exact cU (kE _ (aS.refl _) c)
  refine⟨D,ds,rfl,.inl (aR.of hD3),?_⟩
  have dl:ds.length=(zs.filter fun y=>aD y z).length:=al3.len
  have dle:ds.length≤zs.length:=by rw [dl];exact List.length_filter_le _ _
  have s13:=s1.trans s3
  have hl3:=s3 _ _ hl1
  have hz3:=hz.mono (ax.same s3)
  have alz:=al1.mono fun _ _ q=>q.mono (ax.same s3)
  obtain⟨pz,rfl,hSz⟩:=id hz3
  refine⟨_,rfl,_,rfl,l,ys,zs.map dR,dR z,rfl,aR.of hl3,alz.deep fun _ _ q=>q.deep,yh zs,hz3.deep,iu z,gW z,_,rfl,?_⟩
  rw [B5]
  by_cases cm:z∈zs
  ·rw [decide_eq_true cm]
   refine cU ?_
   exact⟨_,_,ys,zs,rfl,s13,hl3,alz,by omega,ris,sub⟩
  ·rw [decide_eq_false cm]
   refine fj ?_
   refine⟨_,rfl,.inl ⟨rfl,_,aR.of hl3⟩,_,rfl,_,rfl,l,ys,ds.length,.ref pz,rfl,rfl,hl3,by rw [al1.len];exact dle,aV (by rw [al1.len];omega),?_⟩
   have tm:=ax.up (K:=K) hl3 (ys.take ds.length++.ref pz :: ys.drop ds.length)
   refine⟨_,_,_,zs.take ds.length++z :: zs.drop ds.length,rfl,fun b o q=>?_,ag,?_,?_,?_,?_⟩
   ·rw [av (nin b o q)]
    exact s13 _ _ q
   ·have alm:=alz.mono fun _ _ q=>q.mono tm
    exact (alm.take _).join (.cons (hz3.mono tm) (alm.drop _))
   ·rw [List.length_append,List.length_cons,List.length_take,List.length_drop]
    omega
   ·rw [dl]
    exact wX (fun y hy=>⟨(wf y (sub y hy)).pos,(wf y (sub y hy)).cop⟩) ⟨wz.pos,wz.cop⟩ ris cm
   ·intro y hy
    rcases List.mem_append.mp hy with q | q
    ·exact sub y (List.mem_of_mem_take q)
    ·rcases List.mem_cons.mp q with q | q
     ·rw [q];exact mz
     ·exact sub y (List.mem_of_mem_drop q)
 ·rintro σ H1 ⟨x2,x3,ys,zs,rfl,s1,hl1,al1,hlen,ris,sub⟩
  exact⟨_,rfl,k l ys zs H1 s1 hl hl1 al1 (by omega) ris sub⟩
theorem Bu (T:eE K mg t):bB P w K mg base dk 3 t.a_Q14 t.d_Q14 ["_law_rule_here", "_law_speed"] (k6 K):=by
 refine T.F_Q14.ok d8 (fun vs H Q E h=>?_) (fun cdv A outer s H vs Q E hr h=>?_)
 ·obtain⟨_,_,_,_,rfl,_⟩:=h;rfl
 obtain⟨v,w,rl,s,rfl,hv,ok,hw,hs,hb,k⟩:=h
 refine cY.ok (af (bg (aK dh (bv ar (qv 0) ah) lD (aJ _)) (af (bH 2 d8.nd (aN (ac ah (ac ah ae ap) ap)))
   (af (cz PassesOwn.never rfl (bZ rfl T.z_range (ac (bv ar (qv 0) ah) ae aF)) (aL (i:=3) d8.nd rfl (by first | exact Or.inl rfl | exact Or.inr rfl))
   (ak (bH 2 d8.nd (bF (im T) hr T.m_Q32 T.F_Q32.kp T.b_Q32 (ac (qv 2) (ac (qv 1) ae ad) ad)))))
   (ak (aE (qv 2))))) aI)
   (af (bH 4 d8.nd (bv ar (qv 0) ah))
   (af (bH 5 d8.nd ah)
   (af (fD PassesOwn.never (bE (bF (gs T) hr T.m_Q26 T.F_Q26.kp T.b_Q26 (ac (bv ar (bv ar (qv 4) (qv 5)) ah) (ac (qv 1) ae ad) aF)))
   (ak (bH 5 d8.nd (aG bJ (qv 5) ah))))
   (af (lA (i:=6) (j:=7) rfl d8.nd rfl rfl (by decide) rfl rfl (ac (bv ar (qv 4) (aG fh (qv 5) ah)) (ac (bv ar (qv 4) (qv 5)) ae aF) aF) rfl)
   (af (bH 8 d8.nd (bF (dI T) hr T.m_Q31 T.F_Q31.kp T.b_Q31 (ac (bv ar (qv 7) ah) (ac (aN (ac (fu dG (bv ar (bv ar (qv 6) ah) ah)) (ac (bv ar (bv ar (qv 6) ah) ah) ae aF) gH)) ae aO) aF)))
   (af (bH 9 d8.nd (bF (dI T) hr T.m_Q31 T.F_Q31.kp T.b_Q31 (ac (qv 1) (ac (aN (ac (fu dG (bv ar (bv ar (qv 6) ah) ah)) (ac (bv ar (bv ar (qv 6) ah) ah) ae aF) gH)) ae aO) ad)))
   (af (bH 10 d8.nd (bF (dI T) hr T.m_Q31 T.F_Q31.kp T.b_Q31 (ac (bv ar (qv 7) ah) (ac (aN (ac (fu dG (bv ar (bv ar (qv 6) ah) ah)) (ac (bv ar (bv ar (qv 6) ah) ah) ae aF) gH)) ae aO) aF)))
   (ak (aE (bF (dI T) hr T.m_Q31 T.F_Q31.kp T.b_Q31 (ac (bv ar (qv 6) ah) (ac (bF (im T) hr T.m_Q32 T.F_Q32.kp T.b_Q32 (ac (bF (im T) hr T.m_Q32 T.F_Q32.kp T.b_Q32 (ac (qv 10) (ac (qv 9) ae ad) ad)) (ac (aN (ac (bv ar (qv 8) ah) (ac (bv ar (qv 8) ah) ae aF) aF)) ae aO) aB)) ae aB) aF)))))))))))) ?_
 extract_lets +lift
 try dsimp -zeta -zetaDelta only [Cx.nox,Cx.wish,bw]
 cases rl with
 | pow kk=>
  obtain⟨p,rfl,hS⟩:=hv
  have ok':2≤kk/\kk≤4:=ok
  refine⟨_,rfl,p,_,_,_,rfl,rfl,hS,rfl,rfl,_,rfl,cW rfl ?_⟩
  refine⟨dU,fun p0 h0=>?_⟩
  have s0:=ai h0 (.tup [.int 1,.int 1])
  have r0:RV K (upd H p0 (.tup [.int 1,.int 1])) (.ref p0) (gO s 0):=RV.of ag
  generalize upd H p0 (.tup [.int 1,.int 1])=H0 at s0 r0 ⊢
  refine⟨_,rfl,p,_,_,_,rfl,rfl,ax.same s0 _ _ hS,rfl,kk,rfl,by omega,by omega,cX (lo:=0) (n:=kk.toNat) (fun i σ H'=>∃ (u:V) (x3:Option V),σ=[some (.ref p),some w,some u,x3,none,none,none,none,none,none,none]/\aS H H'/\RV K H' u (gO s i)) ⟨_,none,rfl,s0,r0⟩ ?_ ?_⟩
  ·rintro i σ H1 hi ⟨u,x3,rfl,sm,hu⟩
   have wp:=uK hs.wf i
   have le:1+i * 98≤500:=by
    have:i * 98≤4 * 98:=Nat.mul_le_mul_right _ (by omega)
    omega
   refine⟨_,rfl,_,rfl,u,w,gO s i,s,500,98,rfl,hu,hw.mono (ax.same sm),wp.mono le,hs.wf,by decide,fun q g=>?_⟩
   have e:=ai g (.tup [.int (aC (gO s i) s).1,.int (aC (gO s i) s).2])
   exact⟨_,_,rfl,sm.trans e,om (K:=K) e⟩
  ·rintro σ H1 ⟨u,x3,rfl,sm,hu⟩
   exact⟨_,rfl,k _ _ sm hu⟩
 | tab rows=>
  have ok':cj rows:=ok
  obtain⟨p,q,xs,rfl,hS,hq,al⟩:=hv
  have n2:=ok'.n2
  have hlen:xs.length=rows.length:=al.len
  have pl:=ok'.p_lt hs.bq.pos hb
  refine⟨_,rfl,p,_,_,_,rfl,rfl,hS,rfl,rfl,_,rfl,bP (by decide) ?_⟩
  refine⟨_,rfl,p,_,_,_,rfl,rfl,hS,rfl,?_⟩
  refine⟨fun m σ H'=>∃ i:Nat,σ=[some (.ref p),some w,none,none,some (.ref q),some (.int (i:Int)),none,none,none,none,none]/\H'=H/\1≤i/\(i=1∨i≤dN rows s)/\m=rows.length - i,⟨_,1,rfl,rfl,Nat.le_refl _,.inl rfl,rfl⟩,?_⟩
  rintro m σ H' ⟨i,rfl,rfl,i1,hi,rfl⟩
  have hir:i < rows.length:=by omega
  have hx0:xs[i]?=some (xs[i]'(by omega)):=List.getElem?_eq_getElem _
  obtain⟨r,hr,hrv⟩:=al.at hx0
  obtain⟨pa,x,y,ex,hSr,hx,hy⟩:=id hrv
  have mr:=List.mem_of_getElem? hr
  refine⟨_,rfl,_,rfl,q,_,_,_,rfl,rfl,hq,bM hx0,pa,_,_,_,ex,rfl,hSr,rfl,_,rfl,x,w,r.1,s,98,98,rfl,hx,hw,zM (ok'.sp r mr),hs.wf,by decide,_,rfl,?_⟩
  rw [kH hs.bq.pos ok'.inc ok'.allP hr]
  by_cases c:i < dN rows s
  ·refine cW c ?_
   refine⟨_,fun _ _ z=>z,?_⟩
   exact⟨_,rfl,_,_,rfl,rfl,_,(by omega),i+1,rfl,rfl,by omega,.inr c,rfl⟩
  ·refine bP c ?_
   have hw0:xs[i - 1]?=some (xs[i - 1]'(by omega)):=List.getElem?_eq_getElem _
   obtain⟨r0,hr0,hrv0⟩:=al.at hw0
   obtain⟨pb,x0,y0,ex0,hS0,⟨px0,rfl,hx0'⟩,⟨py0,rfl,hy0⟩⟩:=id hrv0
   have m0:=List.mem_of_getElem? hr0
   have e1i:i - 1+1=i:=by omega
   have sl:=z8 ok' (by omega) hr0 hr
   have hlt:aD r0.1 r.1=true:=by
    obtain⟨h1,e1'⟩:=List.getElem?_eq_some_iff.mp hr0
    obtain⟨h2,e2'⟩:=List.getElem?_eq_some_iff.mp hr
    have:=List.pairwise_iff_getElem.mp ok'.inc (i - 1) i h1 h2 (by omega)
    rw [e1',e2'] at this
    exact this
   have hpos:0 < (aj r.1 r0.1).1:=by
    have:=dF.mp hlt
    exact iV (by omega) (Int.mul_pos sl.b1.pos sl.a1.pos)
   have due:js (.tab rows) s=gR r0 r s:=by
    show ow rows s=_
    unfold ow
    by_cases c0:dN rows s=0
    ·rw [if_pos c0]
     have ez:=pj ok' hs c0
     obtain⟨yz,ey⟩:=ok'.zero
     have i0:i - 1=0:=by omega
     rw [i0] at hr0
     rw [cn hr0]
     rw [ey] at hr0
     cases hr0
     rw [ez]
     unfold gR
     exact (rg (ok'.pw _ m0).red (eU sl.w2.pos sl.ne) (ok'.sp _ m0).red).symm
    ·rw [if_neg c0]
     have ei:dN rows s=i:=by omega
     rw [ei,cn hr0,cn hr]
   have k':qE K _ Q (gR r0 r s):=due ▸ k
   have lw:=vB (ok'.sp _ m0).red (ok'.pw _ m0).red (ok'.sp _ mr).red (ok'.pw _ mr).red hs.bq.red hpos
   rw [← lw] at k'
   have wneg1:Wf 98 ((-r0.1.1,r0.1.2):R):=⟨sl.a1.pos,by show (-r0.1.1).natAbs < _;rw [Int.natAbs_neg];exact sl.a1.top,sl.a1.bot,by show Int.gcd (-r0.1.1) r0.1.2=1;rw [Int.neg_gcd];exact sl.a1.cop⟩
   have wneg2:Wf 197 ((-r0.2.1,r0.2.2):R):=⟨sl.a2.pos,by show (-r0.2.1).natAbs < _;rw [Int.natAbs_neg];exact sl.a2.top,sl.a2.bot,by show Int.gcd (-r0.2.1) r0.2.2=1;rw [Int.neg_gcd];exact sl.a2.cop⟩
   have winv:Wf 99 (((aj r.1 r0.1).2,(aj r.1 r0.1).1):R):=⟨hpos,sl.w1.bot,sl.w1.top,by show Int.gcd (aj r.1 r0.1).2 (aj r.1 r0.1).1=1;rw [Int.gcd_comm];exact sl.w1.cop⟩
   have wfar:Wf 197 (aj s r0.1):=mW hs.wf sl.a1
   refine⟨_,rfl,_,rfl,_,_,rfl,rfl,q,_,_,_,rfl,rfl,hq,(by rw [show ((i:Int) - 1)=((i - 1:Nat):Int) by omega];exact bM hw0),_,rfl,_,rfl,q,_,_,_,rfl,rfl,hq,bM hx0,_,_,rfl,?_⟩
   refine⟨_,rfl,pa,_,_,_,ex,rfl,hSr,rfl,_,rfl,pb,_,_,_,ex0,rfl,hS0,rfl,px0,_,_,_,rfl,rfl,hx0',rfl,_,rfl,_,rfl,pb,_,_,_,ex0,rfl,hS0,rfl,px0,_,_,_,rfl,rfl,hx0',rfl,dU,fun p1 g1=>?_⟩
   have f1:=ai g1 (.tup [.int (-r0.1.1),.int r0.1.2])
   have r1:RV K (upd H' p1 (.tup [.int (-r0.1.1),.int r0.1.2])) (.ref p1) (-r0.1.1,r0.1.2):=RV.of ag
   generalize upd H' p1 (.tup [.int (-r0.1.1),.int r0.1.2])=G1 at f1 r1 ⊢
   have c1:=f1
   refine⟨x,.ref p1,r.1,(-r0.1.1,r0.1.2),98,98,rfl,(hx.mono (ax.same c1)),r1,sl.b1,wneg1,by decide,fun p2 g2=>?_⟩
   rw [gP]
   have f2:=ai g2 (.tup [.int (aj r.1 r0.1).1,.int (aj r.1 r0.1).2])
   have r2:RV K (upd G1 p2 (.tup [.int (aj r.1 r0.1).1,.int (aj r.1 r0.1).2])) (.ref p2) (aj r.1 r0.1):=RV.of ag
   generalize upd G1 p2 (.tup [.int (aj r.1 r0.1).1,.int (aj r.1 r0.1).2])=G2 at f2 r2 ⊢
   have c2:=c1.trans f2
   refine⟨_,rfl,_,rfl,pb,_,_,_,ex0,rfl,(ax.same (K:=K) c2 _ _ hS0),rfl,px0,_,_,_,rfl,rfl,(ax.same (K:=K) c2 _ _ hx0'),rfl,_,rfl,_,rfl,pb,_,_,_,ex0,rfl,(ax.same (K:=K) c2 _ _ hS0),rfl,px0,_,_,_,rfl,rfl,(ax.same (K:=K) c2 _ _ hx0'),rfl,dU,fun p3 g3=>?_⟩
   have f3:=ai g3 (.tup [.int (-r0.1.1),.int r0.1.2])
   have r3:RV K (upd G2 p3 (.tup [.int (-r0.1.1),.int r0.1.2])) (.ref p3) (-r0.1.1,r0.1.2):=RV.of ag
   generalize upd G2 p3 (.tup [.int (-r0.1.1),.int r0.1.2])=G3 at f3 r3 ⊢
   have c3:=c2.trans f3
   refine⟨w,.ref p3,s,(-r0.1.1,r0.1.2),98,98,rfl,(hw.mono (ax.same c3)),r3,hs.wf,wneg1,by decide,fun p4 g4=>?_⟩
   rw [gP]
   have f4:=ai g4 (.tup [.int (aj s r0.1).1,.int (aj s r0.1).2])
   have r4:RV K (upd G3 p4 (.tup [.int (aj s r0.1).1,.int (aj s r0.1).2])) (.ref p4) (aj s r0.1):=RV.of ag
   generalize upd G3 p4 (.tup [.int (aj s r0.1).1,.int (aj s r0.1).2])=G4 at f4 r4 ⊢
   have c4:=c3.trans f4
   refine⟨_,rfl,pa,_,_,_,ex,rfl,(ax.same (K:=K) c4 _ _ hSr),rfl,_,rfl,pb,_,_,_,ex0,rfl,(ax.same (K:=K) c4 _ _ hS0),rfl,py0,_,_,_,rfl,rfl,(ax.same (K:=K) c4 _ _ hy0),rfl,_,rfl,_,rfl,pb,_,_,_,ex0,rfl,(ax.same (K:=K) c4 _ _ hS0),rfl,py0,_,_,_,rfl,rfl,(ax.same (K:=K) c4 _ _ hy0),rfl,dU,fun p5 g5=>?_⟩
   have f5:=ai g5 (.tup [.int (-r0.2.1),.int r0.2.2])
   have r5:RV K (upd G4 p5 (.tup [.int (-r0.2.1),.int r0.2.2])) (.ref p5) (-r0.2.1,r0.2.2):=RV.of ag
   generalize upd G4 p5 (.tup [.int (-r0.2.1),.int r0.2.2])=G5 at f5 r5 ⊢
   have c5:=c4.trans f5
   refine⟨y,.ref p5,r.2,(-r0.2.1,r0.2.2),197,197,rfl,(hy.mono (ax.same c5)),r5,sl.b2,wneg2,by decide,fun p6 g6=>?_⟩
   rw [gP]
   have f6:=ai g6 (.tup [.int (aj r.2 r0.2).1,.int (aj r.2 r0.2).2])
   have r6:RV K (upd G5 p6 (.tup [.int (aj r.2 r0.2).1,.int (aj r.2 r0.2).2])) (.ref p6) (aj r.2 r0.2):=RV.of ag
   generalize upd G5 p6 (.tup [.int (aj r.2 r0.2).1,.int (aj r.2 r0.2).2])=G6 at f6 r6 ⊢
   have c6:=c5.trans f6
   have rw2:RV K G6 (.ref p2) (aj r.1 r0.1):=r2.mono (ax.same (((f3.trans f4).trans f5).trans f6))
   have rf4:RV K G6 (.ref p4) (aj s r0.1):=r4.mono (ax.same (f5.trans f6))
   obtain⟨pw_,epw,sqw⟩:=rw2
   cases epw
   refine⟨_,rfl,pb,_,_,_,ex0,rfl,(ax.same (K:=K) c6 _ _ hS0),rfl,_,rfl,_,rfl,.ref p6,.ref p4,(aj r.2 r0.2),(aj s r0.1),198,197,rfl,r6,rf4,sl.w2,wfar,by decide,fun p7 g7=>?_⟩
   have f7:=ai g7 (.tup [.int (aC (aj r.2 r0.2) (aj s r0.1)).1,.int (aC (aj r.2 r0.2) (aj s r0.1)).2])
   have r7:RV K (upd G6 p7 (.tup [.int (aC (aj r.2 r0.2) (aj s r0.1)).1,.int (aC (aj r.2 r0.2) (aj s r0.1)).2])) (.ref p7) (aC (aj r.2 r0.2) (aj s r0.1)):=RV.of ag
   generalize upd G6 p7 (.tup [.int (aC (aj r.2 r0.2) (aj s r0.1)).1,.int (aC (aj r.2 r0.2) (aj s r0.1)).2])=G7 at f7 r7 ⊢
   have c7:=c6.trans f7
   have sqw7:=ax.same (K:=K) f7 _ _ sqw
   refine⟨_,rfl,p2,_,_,_,rfl,rfl,sqw7,rfl,_,rfl,p2,_,_,_,rfl,rfl,sqw7,rfl,dU,fun p8 g8=>?_⟩
   have f8:=ai g8 (.tup [.int (aj r.1 r0.1).2,.int (aj r.1 r0.1).1])
   have r8:RV K (upd G7 p8 (.tup [.int (aj r.1 r0.1).2,.int (aj r.1 r0.1).1])) (.ref p8) ((aj r.1 r0.1).2,(aj r.1 r0.1).1):=RV.of ag
   generalize upd G7 p8 (.tup [.int (aj r.1 r0.1).2,.int (aj r.1 r0.1).1])=G8 at f8 r8 ⊢
   have c8:=c7.trans f8
   refine⟨.ref p7,.ref p8,(aC (aj r.2 r0.2) (aj s r0.1)),((aj r.1 r0.1).2,(aj r.1 r0.1).1),395,99,rfl,r7.mono (ax.same f8),r8,fB sl.w2 wfar,winv,by decide,fun p9 g9=>?_⟩
   have f9:=ai g9 (.tup [.int (aC (aC (aj r.2 r0.2) (aj s r0.1)) ((aj r.1 r0.1).2,(aj r.1 r0.1).1)).1,.int (aC (aC (aj r.2 r0.2) (aj s r0.1)) ((aj r.1 r0.1).2,(aj r.1 r0.1).1)).2])
   have r9:RV K (upd G8 p9 (.tup [.int (aC (aC (aj r.2 r0.2) (aj s r0.1)) ((aj r.1 r0.1).2,(aj r.1 r0.1).1)).1,.int (aC (aC (aj r.2 r0.2) (aj s r0.1)) ((aj r.1 r0.1).2,(aj r.1 r0.1).1)).2])) (.ref p9) (aC (aC (aj r.2 r0.2) (aj s r0.1)) ((aj r.1 r0.1).2,(aj r.1 r0.1).1)):=RV.of ag
   generalize upd G8 p9 (.tup [.int (aC (aC (aj r.2 r0.2) (aj s r0.1)) ((aj r.1 r0.1).2,(aj r.1 r0.1).1)).1,.int (aC (aC (aj r.2 r0.2) (aj s r0.1)) ((aj r.1 r0.1).2,(aj r.1 r0.1).1)).2])=G9 at f9 r9 ⊢
   have c9:=c8.trans f9
   refine⟨.ref py0,.ref p9,r0.2,(aC (aC (aj r.2 r0.2) (aj s r0.1)) ((aj r.1 r0.1).2,(aj r.1 r0.1).1)),197,494,rfl,⟨py0,rfl,(ax.same (K:=K) c9 _ _ hy0)⟩,r9,sl.a2,fB (fB sl.w2 wfar) winv,by decide,fun pe ge=>?_⟩
   exact k' _ _ (c9.trans (ai ge _)) (RV.of ag)
theorem Bl (T:eE K mg t):bB P w K mg base dk 3 t.a_Q28 t.d_Q28 ["_law_tape_here", "_law_works_here"] (mH K):=by
 refine T.F_Q28.ok dn (fun vs H Q E h=>?_) (fun cdv A outer s H vs Q E hr h=>?_)
 ·obtain⟨_,_,_,_,rfl,_⟩:=h;rfl
 obtain⟨t₁,s₁,v,ws,rfl,tp,⟨p,xs,rfl,hp,al⟩,l9,okw,k⟩:=h
 refine cY.ok (af (iQ (i:=2) (N':=["_law_turn"]) (src:=[none]) dn.nd rfl (by first | exact Or.inl rfl | exact Or.inr rfl) rfl (by exact (bZ rfl T.z_range (ac ah ae ap))) (fun _ _ _ _ _=>(by exact (by exact aL (i:=0) (by show List.Nodup (["_law_turn"]:List Str);decide +kernel) (by exact rfl) (by first | exact Or.inl rfl | exact Or.inr rfl)))) (fun _ _ _ _ _=>cP) (fun _ _ _ _ _=>(by exact (by exact (bD ae)))) (by exact trivial) rfl (by decide +kernel) rfl (by decide +kernel) (by exact bT rfl trivial))
   (af (cz PassesOwn.never rfl (bZ rfl T.z_range (ac (ay bc (by rfl) T.z_len boot_len (ac (qv 1) ae ad)) ae aB)) (aL (i:=3) dn.nd rfl (by first | exact Or.inl rfl | exact Or.inr rfl))
   (af (ij (bv ar (qv 1) (qv 3)) (lC rfl (df (aL (i:=4) dn.nd rfl (by first | exact Or.inl rfl | exact Or.inr rfl)) (df (aL (i:=5) dn.nd rfl (by first | exact Or.inl rfl | exact Or.inr rfl)) (df (aL (i:=6) dn.nd rfl (by first | exact Or.inl rfl | exact Or.inr rfl)) iR)))))
   (af (bH 7 dn.nd (aG bJ (aG fh (qv 5) (qv 4)) ah))
   (af (bH 8 dn.nd (aG bJ ah (bF (bA T) hr T.m_Q24 T.F_Q24.kp T.b_Q24 (ac (qv 0) (ac (ay (rP rfl) (by rfl) T.z_min boot_min (ac ah (ac (qv 7) ae ad) ap)) ae aB) ad))))
   (af (oo (bg (aK dh (bF (bA T) hr T.m_Q24 T.F_Q24.kp T.b_Q24 (ac (qv 0) (ac ah ae ap) ad)) ah (aJ _)) (ak (bH 8 dn.nd (qv 7))) aI))
   (af (bH 9 dn.nd (bF (bA T) hr T.m_Q24 T.F_Q24.kp T.b_Q24 (ac (qv 0) (ac (qv 7) ae ad) ad)))
   (af (iQ (i:=10) (N':=["_law_k", "_law_many", "_law_tape_here"]) (src:=[none,some 8,some 0]) dn.nd rfl (by first | exact Or.inl rfl | exact Or.inr rfl) rfl (by exact (bZ rfl T.z_range (ac (qv 8) ae ad))) (fun _ _ _ _ _=>(by exact (by exact aL (i:=0) (by show List.Nodup (["_law_k", "_law_many", "_law_tape_here"]:List Str);decide +kernel) (by exact rfl) (by first | exact Or.inl rfl | exact Or.inr rfl)))) (fun _ _ _ _ _=>cP) (fun _ _ _ _ _=>(by exact (by exact (gN (m6 (K:=K) (by exact rfl)) (by exact (bD (ac (by exact (aG bJ ah (by exact (bI (bA T) (by exact hr.mono (by decide)) (by exact rfl) T.m_Q24 T.F_Q24.kp T.b_Q24 (by exact .nil) (by exact ef) (ac (by exact (qv 2)) (ac ah ae ap) ad))))) (ac ah ae ap) ba))) (by exact (cc rQ (by exact rfl) T.z_int boot_int (ac (by exact (cR pS (by exact (qv 1)) ah (aJ _))) ae sK))) (by exact fun _ _=>rfl))))) (by exact⟨rfl,rfl,rfl,rfl,⟨rfl,rfl,rfl,rfl,trivial⟩⟩) rfl (by decide +kernel) rfl (by decide +kernel) (by exact bT rfl ⟨rfl,⟨rfl,trivial⟩⟩))
   (ak (cz PassesOwn.never rfl (bZ rfl T.z_range (ac (qv 8) ae ad)) (aL (i:=11) dn.nd rfl (by first | exact Or.inl rfl | exact Or.inr rfl))
   (af (bH 12 dn.nd (bF (im T) hr T.m_Q32 T.F_Q32.kp T.b_Q32 (ac (qv 6) (ac (bF (gt T) hr T.m_Q25 T.F_Q25.kp T.b_Q25 (ac (bv bj (qv 10) (qv 11)) (ac (ay (rO rfl) (by rfl) T.z_sum boot_sum (ac (qv 10) ae ad)) ae aB) aF)) ae aB) ad)))
   (ak (fc (jq PySem.F.plainAttrs_list PySem.F.slot_list_append PySem.F.type_list_append dz (bv bj (qv 2) (aG bJ (qv 4) (aG eK (aG bJ (qv 9) (qv 11)) (qv 7)))) (ac (aN (ac (qv 3) (ac (qv 12) ae ad) ad)) ae aO))))))))))))))
   (ak (aE (cc cy (by rfl) T.z_tuple boot_tuple (ac (dg (N':=["_law_turn"]) (src:=[none]) rfl (by exact (de (qv 2))) (fun _ _ _ _ _=>(by exact (by exact aL (i:=0) (by show List.Nodup (["_law_turn"]:List Str);decide +kernel) (by exact rfl) (by first | exact Or.inl rfl | exact Or.inr rfl)))) (fun _ _ _ _ _=>cP) (fun _ _ _ _ _=>(by exact (by exact (cc (eD (K:=K) (by exact rfl)) (by exact rfl) T.z_tuple boot_tuple (ac (by exact (qv 0)) ae ad))))) (by exact trivial) rfl (by decide +kernel) rfl (by decide +kernel) (by exact bT rfl trivial)) ae dD)))))) ?_
 extract_lets +lift
 try dsimp -zeta -zetaDelta only [Cx.nox,Cx.wish,bw]
 refine⟨24,rfl,by decide,by decide,fun D hD=>nC (J:=wE 0 24) (n:=24) (fun i ys H'=>∃ rows:List Addr,ys=rows.map V.ref/\rows.length=i/\rows.Nodup/\D∉rows/\(∀ r∈rows,H r=none)/\aS H H'/\H' D=some (.lst ys)/\∀ r∈rows,H' r=some (.lst [])) ⟨[],rfl,rfl,List.nodup_nil,(fun z=>by cases z),(fun r hr=>by cases hr),ai hD _,ag,fun r hr=>by cases hr⟩ (fun i ys H' hi _=>hi) (fun ys H1 ⟨rows,e1,e2,e3,e4,e5,e6,e7,e8⟩=>⟨Nat.le_refl _,?_⟩) ?_⟩
 rotate_left
 ·rintro i ys H1 x H2 hi ⟨rows,rfl,e2,e3,e4,e5,e6,e7,e8⟩ ⟨rfl,rfl⟩ R E kR kE
  refine⟨hZ.set rfl,?_⟩
  refine⟨(by show 0≤sizeLine;exact Nat.zero_le _),fun r hr=>?_⟩
  have s2:=ai hr (.lst [])
  have nr:r∉rows:=fun m=>by rw [e8 r m] at hr;cases hr
  have nD:r≠D:=fun z=>by subst z;rw [e7] at hr;cases hr
  have hD4:=s2 _ _ e7
  refine kR (.ref r) _ hD4 (aV (by rw [List.length_map];omega)) ⟨rows++[r],by rw [List.map_append];rfl,by rw [List.length_append,e2];rfl,?_,?_,fun z hz=>?_,fun b o q=>?_,ag,fun z hz=>?_⟩
  ·rw [List.nodup_append]
   exact⟨e3,List.nodup_cons.mpr ⟨(fun z=>by cases z),List.nodup_nil⟩,fun a ha b hb=>by rw [List.mem_singleton.mp hb];exact fun z=>nr (by rw [← z];exact ha)⟩
  ·intro m
   rcases List.mem_append.mp m with z | z
   ·exact e4 z
   ·exact nD (List.mem_singleton.mp z).symm
  ·rcases List.mem_append.mp hz with y | y
   ·exact e5 z y
   ·rw [List.mem_singleton.mp y]
    cases c:H r with
    | none=>rfl
    | some o=>rw [e6 _ _ c] at hr;cases hr
  ·rw [av (aA q hD)]
   exact s2 _ _ (e6 _ _ q)
  ·rcases List.mem_append.mp hz with y | y
   ·rw [av (show z≠D from fun w=>e4 (by rw [← w];exact y))]
    exact s2 _ _ (e8 z y)
   ·rw [List.mem_singleton.mp y,av nD,ag]
 have nD1:D≠t₁:=fun z=>by subst z;obtain⟨_,e⟩:=tp.lst;rw [hD] at e;cases e
 have nrt:t₁∉rows:=fun m=>by obtain⟨_,e⟩:=tp.lst;rw [e5 _ m] at e;cases e
 have g1:qz K H1 D rows (List.replicate 24 []):=by
  refine⟨by rw [e7,e1],e2,by rw [List.length_replicate],e3,e4,fun i r c hr hc=>?_⟩
  rw [List.getElem?_replicate] at hc
  split at hc
  ·cases hc;exact⟨[],e8 r (List.mem_of_getElem? hr),.nil⟩
  ·cases hc
 have T1:=tp.same e6
 have kp1:∀ b o,b≠t₁->H b=some o->H1 b=some o:=fun b o _ q=>e6 _ _ q
 have nul:∀ c∈List.replicate 24 ([]:List Pc),c.length≤0/\∀ q∈c,yP q.2/\0≤q.1/\q.1 < 24:=fun c hc=>by
  rw [(List.mem_replicate.mp hc).2]
  exact⟨Nat.le_refl _,fun q hq=>by cases hq⟩
 generalize List.replicate 24 ([]:List Pc)=pl0 at g1 nul
 have rnH:∀ r∈rows,H r=none:=e5
 have rnS:∀ r∈rows,r≠s₁∨Cc K s₁:=fun r m=>tp.off (rnH r m)
 clear e1 e6 e7 e8
 have hp1:∀ {H':Hp},(∀ b o,b≠t₁->H b=some o->H' b=some o)->bo K H' p xs:=fun {H'} kp=>by
  rcases hp with (h | ⟨ob,h⟩) | h
  ·exact .inl (.inl (kp _ _ (fun z=>by subst z;obtain⟨_,e⟩:=tp.lst;rw [h] at e;cases e) h))
  ·exact .inl (.inr ⟨ob,kp _ _ (fun z=>by subst z;obtain⟨_,e⟩:=tp.lst;rw [h] at e;cases e) h⟩)
  ·exact .inr h
 have hlx:=al.len
 refine⟨_,rfl,p,_,rfl,.inr (hp1 kp1),_,rfl,by omega,by omega,cX (lo:=0) (n:=(xs.length:Int).toNat) (fun i σ H'=>∃ (pl:List (List Pc)) (x3 x4 x5 x6 x7 x8 x9 xA xB xC:Option V),σ=[some (.ref t₁),some (.ref p),some (.ref D),x3,x4,x5,x6,x7,x8,x9,xA,xB,xC]/\(∀ b o,b≠t₁->H b=some o->H' b=some o)/\bx K H' t₁ s₁/\qz K H' D rows pl/\∀ c∈pl,c.length≤i/\∀ q∈c,yP q.2/\0≤q.1/\q.1 < 24) ⟨pl0,none,none,none,none,none,none,none,none,none,none,rfl,kp1,T1,g1,nul⟩ ?_ ?_⟩
 ·rintro i σ H2 hi ⟨pl,x3,x4,x5,x6,x7,x8,x9,xA,xB,xC,rfl,kp,T2,g2,okp⟩
  rw [Int.zero_add]
  obtain⟨xw,hx⟩:∃ x,xs[i]?=some x:=⟨_,List.getElem?_eq_getElem (by omega)⟩
  obtain⟨w,hw,pw,xa,rfl,hSw,ra⟩:=al.at hx
  have wb:=okw w (List.mem_of_getElem? hw)
  have S02:aX t₁ H H2:=⟨kp,tp.lst,T2.lst⟩
  have t2:=ax.step (K:=K) S02
  have wl:=wb.le
  have w24:=wb.lt
  obtain⟨n,hn⟩:∃ n:Nat,n=w.2.1 - w.1+1:=⟨_,rfl⟩
  refine⟨_,rfl,_,rfl,p,_,_,_,rfl,rfl,hp1 kp,bM hx,pw,_,rfl,t2 _ _ hSw,rfl,_,_,rfl,_,_,rfl,_,_,rfl,rfl,?_⟩
  refine⟨_,rfl,_,rfl,_,_,rfl,rfl,_,_,rfl,rfl,?_⟩
  dsimp only
  rw [show ((w.2.1:Nat):Int) - ((w.1:Nat):Int)+1=((n:Nat):Int) by omega]
  obtain⟨mn,hmn,mn1,mn4,mnn⟩:∃ mn:Int,(if ((n:Nat):Int) < 4 then ((n:Nat):Int) else 4)=mn/\1≤mn/\mn≤4/\mn≤n:=⟨_,rfl,by split <;> omega,by split <;> omega,by split <;> omega⟩
  obtain⟨y2,e2'⟩:=T2.lst
  refine⟨_,rfl,_,rfl,_,_,rfl,?_⟩
  rw [hmn]
  refine⟨t₁,s₁,mn,rfl,T2,by omega,by omega,fun r3 x3_ a3 b3 T3=>?_⟩
  have S23:aX t₁ H2 _:=aX.up (ys:=x3_) e2'
  generalize upd H2 t₁ (.lst x3_)=H3 at T3 S23 ⊢
  obtain⟨rr,rfl⟩:=Int.eq_ofNat_of_zero_le a3
  refine⟨_,_,rfl,rfl,?_⟩
  dsimp only
  rw [show (1:Int)+((rr:Nat):Int)=((1+rr:Nat):Int) by omega]
  refine⟨fun σ H'=>∃ (mm:Nat),σ=[some (.ref t₁),some (.ref p),some (.ref D),some (.int (i:Nat)),some (.int (w.1:Nat)),some (.int (w.2.1:Nat)),some xa,some (.int (n:Nat)),some (.int (mm:Nat)),x9,xA,xB,xC]/\aX t₁ H2 H'/\bx K H' t₁ s₁/\1≤mm/\mm≤n,?_,?_⟩
  ·obtain⟨y3,e3'⟩:=T3.lst
   refine⟨_,rfl,t₁,s₁,3,rfl,T3,by omega,by omega,fun r4 x4_ a4 b4 T4=>⟨rfl,_,rfl,?_⟩⟩
   have S24:=S23.trans (aX.up (ys:=x4_) e3')
   by_cases c:r4=0
   ·exact cW (by rw [c]) ⟨_,rfl,n,rfl,S24,T4,by omega,Nat.le_refl _⟩
   ·exact bP (fun z=>c (by injection z)) ⟨1+rr,rfl,S24,T4,by omega,by omega⟩
  ·rintro _ H4 ⟨mm,rfl,S24,T4,mm1,mmn⟩
   obtain⟨y4,e4'⟩:=T4.lst
   refine⟨_,rfl,_,rfl,t₁,s₁,n,rfl,T4,by omega,by omega,fun r5 x5_ a5 b5 T5=>?_⟩
   have S25:=S24.trans (aX.up (ys:=x5_) e4')
   generalize upd H4 t₁ (.lst x5_)=H5 at T5 S25 ⊢
   obtain⟨aa,rfl⟩:=Int.eq_ofNat_of_zero_le a5
   clear S23 S24 T3 T4 e4' e2'
   refine⟨_,rfl,mm,rfl,by omega,by omega,fun D3 hD3=>?_⟩
   rw [Int.toNat_natCast]
   have n3t:D3≠t₁:=fun z=>by subst z;obtain⟨_,e⟩:=T5.lst;rw [hD3] at e;cases e
   have n3s:=T5.off hD3
   refine nC (J:=wE 0 mm) (n:=mm) (fun j ys H'=>∃ ns:List Int,ys=ns.map V.int/\ns.length=j/\(∀ z∈ns,1≤z/\z≤4/\(4 < mm->z=1))/\(∀ b o,b≠t₁->b≠D3->H5 b=some o->H' b=some o)/\bx K H' t₁ s₁/\H' D3=some (.lst ys)) ⟨[],rfl,rfl,(fun z hz=>by cases hz),(fun b o _ nb q=>by rw [av nb];exact q),T5.same (ai hD3 _),ag⟩ (fun j ys H' hj _=>hj) (fun ys H6 ⟨ns,f1,f2,f3,f5,T6,f7⟩=>⟨Nat.le_refl _,?_⟩) ?_
   rotate_left
   ·rintro j ys H' x H'' hj ⟨ns,rfl,ln,rng,kp',T',hD'⟩ ⟨rfl,rfl⟩ Rk E kR kE
    obtain⟨y8,e8⟩:=T'.lst
    refine⟨hZ.set rfl,_,rfl,t₁,s₁,4,rfl,T',by decide,by decide,fun r zs a b T8=>⟨_,_,rfl,rfl,dU,fun l8 h8=>?_⟩⟩
    have S8:aX t₁ H'' _:=aX.up (ys:=zs) e8
    generalize upd H'' t₁ (.lst zs)=HA at T8 S8 h8 ⊢
    have s9:=ai h8 (.lst [.int (1+r),.int 1])
    have h9:upd HA l8 (.lst [.int (1+r),.int 1]) l8=some (.lst [.int (1+r),.int 1]):=ag
    generalize upd HA l8 (.lst [.int (1+r),.int 1])=HB at s9 h9 ⊢
    refine⟨_,rfl,_,_,rfl,rfl,.inr ⟨_,rfl,?_⟩⟩
    obtain⟨z,hz,z1,z4,z5⟩:∃ z:Int,jN [V.int (1+r),.int 1] (if decide (((mm:Nat):Int) > 4)=true then 1 else 0)=some (.int z)/\1≤z/\z≤4/\(4 < mm->z=1):=by
     by_cases c:4 < mm
     ·exact⟨1,by rw [if_pos (decide_eq_true (show ((mm:Nat):Int) > 4 by omega))];rfl,by decide,by decide,fun _=>rfl⟩
     ·exact⟨1+r,by rw [if_neg (by rw [decide_eq_false (show ¬ ((mm:Nat):Int) > 4 by omega)];exact Bool.false_ne_true)];rfl,by omega,by omega,fun q=>absurd q c⟩
    refine⟨l8,_,_,_,rfl,rfl,aR.of h9,hz,?_⟩
    exact kR _ _ (s9 _ _ (S8.keep _ _ n3t hD')) (aV (by rw [List.length_map];omega)) ⟨ns++[z],by rw [List.map_append];rfl,by rw [List.length_append,ln];rfl,(fun y hy=>by
     rcases List.mem_append.mp hy with h | h
     ·exact rng y h
     ·rw [List.mem_singleton.mp h];exact⟨z1,z4,z5⟩),(fun b o nb nb2 q=>by rw [av nb2];exact s9 _ _ (S8.keep _ _ nb (kp' b o nb nb2 q))),(T8.same s9).upl n3t n3s _,ag⟩
   have kp6:∀ b o,b≠t₁->H5 b=some o->H6 b=some o:=fun b o nb q=>f5 b o nb (aA q hD3) q
   have S56:aX t₁ H5 H6:=⟨kp6,T5.lst,T6.lst⟩
   have g5:=g2.step nD1 nrt S25
   have g6:=g5.step nD1 nrt S56
   have S06:=(S02.trans S25).trans S56
   rw [f1] at f7
   have n3r:D3∉rows:=fun m=>by obtain⟨_,_,h,_⟩:=g5.at m;rw [hD3] at h;cases h
   refine⟨_,rfl,mm,rfl,by omega,by omega,cX (lo:=0) (n:=(mm:Int).toNat) (fun j σ H'=>∃ (pl':List (List Pc)) (xB xC:Option V),σ=[some (.ref t₁),some (.ref p),some (.ref D),some (.int (i:Nat)),some (.int (w.1:Nat)),some (.int (w.2.1:Nat)),some xa,some (.int (n:Nat)),some (.int (mm:Nat)),some (.int (aa:Nat)),some (.ref D3),xB,xC]/\(∀ b o,b∉rows->H6 b=some o->H' b=some o)/\bx K H' t₁ s₁/\qz K H' D rows pl'/\∀ (u:Nat) (c:List Pc),pl'[u]?=some c->c.length≤i+(if u∈Cm w.1 aa n j then 1 else 0)/\∀ q∈c,yP q.2/\0≤q.1/\q.1 < 24) ⟨pl,xB,xC,rfl,(fun b o _ q=>q),T6,g6,fun u c hc=>by have:=okp c (List.mem_of_getElem? hc);exact⟨by omega,this.2⟩⟩ ?_ ?_⟩
   rotate_left
   ·rintro σ H8 ⟨pl',xB,xC,rfl,kp',T8,g8,ok8⟩
    refine⟨pl',_,_,_,_,_,_,_,_,_,_,rfl,fun b o nb q=>kp' b o (fun m=>by rw [rnH b m] at q;cases q) (S06.keep b o nb q),T8,g8,fun c hc=>?_⟩
    obtain⟨u,hu⟩:=List.getElem?_of_mem hc
    have:=ok8 u c hu
    refine⟨Nat.le_trans this.1 ?_,this.2⟩
    split <;> omega
   rintro j σ H8 hj ⟨pl',xB,xC,rfl,kp',T8,g8,ok8⟩
   rw [Int.zero_add]
   have kH8:∀ b o,b≠t₁->H b=some o->H8 b=some o:=fun b o nb q=>kp' b o (fun m=>by rw [rnH b m] at q;cases q) (S06.keep b o nb q)
   have S08:aX t₁ H H8:=⟨kH8,tp.lst,T8.lst⟩
   have t8:=ax.step (K:=K) S08
   have ra8:=ra.mono t8
   have h38:=kp' _ _ n3r f7
   rw [Int.toNat_natCast] at hj
   obtain⟨a,ha⟩:∃ a,ns[j]?=some a:=⟨_,List.getElem?_eq_getElem (by omega)⟩
   have hats:(ns.map V.int)[j]?=some (.int a):=by rw [List.getElem?_map,ha];rfl
   have ma:=List.mem_of_getElem? ha
   have a1:=(f3 a ma).1
   have sm:a≤ns.sum/\ns.sum≤24:=Aa (by rw [f2];exact f3) (by omega) ma
   obtain⟨bsh,psh,qsh⟩:=z9 a1 sm.1 sm.2
   refine⟨_,rfl,_,rfl,_,rfl,D3,_,_,_,rfl,rfl,aR.of h38,bM hats,_,rfl,D3,ns,rfl,aR.of h38,a,ns.sum,rfl,by omega,bi (n:=8) (by omega) (by decide),fun q1 g1'=>?_⟩
   generalize cK a ns.sum=sh at bsh psh qsh ⊢
   have s10:=ai g1' (.tup [.int sh.1,.int sh.2])
   have r10:RV K (upd H8 q1 (.tup [.int sh.1,.int sh.2])) (.ref q1) sh:=RV.of ag
   generalize upd H8 q1 (.tup [.int sh.1,.int sh.2])=H10 at s10 r10 ⊢
   refine⟨xa,.ref q1,w.2.2,sh,4,40,rfl,ra8.mono (ax.same s10),r10,wb.am.wf,bsh.wf (by decide) (by decide) (by decide),by decide,fun q2 g2'=>?_⟩
   have apr:=xT wb.am bsh psh qsh
   generalize aC w.2.2 sh=pr at apr ⊢
   have s11:=ai g2' (.tup [.int pr.1,.int pr.2])
   have r11:RV K (upd H10 q2 (.tup [.int pr.1,.int pr.2])) (.ref q2) pr:=RV.of ag
   have s8b:=s10.trans s11
   generalize upd H10 q2 (.tup [.int pr.1,.int pr.2])=H11 at r11 s8b ⊢
   have g11:=g8.same s8b
   have n0:0 < n:=by omega
   have mlt:=Nat.mod_lt (aa+j) n0
   have u24:w.1+(aa+j) % n < 24:=by omega
   have unot:=wJ (f:=w.1) (a:=aa) (n:=n) (j:=j) (by omega)
   have usuc:=si (f:=w.1) (a:=aa) (n:=n) (j:=j)
   refine⟨_,rfl,_,rfl,_,rfl,_,rfl,_,_,rfl,rfl,_,rfl,_,_,rfl,rfl,(by omega),_,_,rfl,rfl,?_⟩
   dsimp only
   rw [show ((w.1:Nat):Int)+(((aa:Nat):Int)+((j:Nat):Int)) % ((n:Nat):Int)=((w.1+(aa+j) % n:Nat):Int) by rw [Int.natCast_add,Int.natCast_emod,Int.natCast_add]]
   generalize w.1+(aa+j) % n=u at u24 unot usuc ⊢
   obtain⟨r,hr'⟩:∃ r,rows[u]?=some r:=⟨_,List.getElem?_eq_getElem (by rw [g11.len];exact u24)⟩
   obtain⟨c,hc⟩:∃ c,pl'[u]?=some c:=⟨_,List.getElem?_eq_getElem (by rw [g11.pln];exact u24)⟩
   obtain⟨zs,hz,az⟩:=g11.row u r c hr' hc
   have hat:(rows.map V.ref)[u]?=some (.ref r):=by rw [List.getElem?_map,hr'];rfl
   have mr:=List.mem_of_getElem? hr'
   have nrt1:r≠t₁:=fun z=>nrt (by rw [← z];exact mr)
   have okc:=ok8 u c hc
   rw [if_neg unot] at okc
   have i9:i < 9:=by have:=(List.getElem?_eq_some_iff.mp hw).1;omega
   have lz:zs.length=c.length:=az.len
   refine⟨D,_,_,_,rfl,rfl,aR.of g11.top,bM hat,.inl ⟨rfl,_,aR.of hz⟩,_,rfl,_,rfl,dU,fun q3 g3'=>?_⟩
   have s12:=ai g3' (.tup [.int (i:Nat),.ref q2])
   have hpc:yO K (upd H11 q3 (.tup [.int (i:Nat),.ref q2])) (.ref q3) ((i:Int),pr):=⟨q3,.ref q2,rfl,bo.of ag,r11.mono (ax.same s12)⟩
   generalize upd H11 q3 (.tup [.int (i:Nat),.ref q2])=H12 at s12 hpc ⊢
   have s8c:=s8b.trans s12
   refine⟨r,zs,_,rfl,rfl,s12 _ _ hz,aV (by omega),?_⟩
   refine⟨pl'.set u (c++[((i:Int),pr)]),_,_,rfl,fun b o nb q=>?_,(T8.same s8c).upl nrt1 (rnS r mr) _,(g11.same s12).app hr' hc (s12 _ _ hz) (az.mono fun _ _ z=>z.mono (ax.same s12)) hpc,fun u' c' hc'=>?_⟩
   ·rw [av (fun z=>nb (by rw [z];exact mr))]
    exact s8c _ _ (kp' b o nb q)
   ·rw [usuc]
    by_cases e:u'=u
    ·subst e
     rw [List.getElem?_set_self (List.getElem?_eq_some_iff.mp hc).1] at hc'
     cases hc'
     rw [if_pos (List.mem_append_right _ List.mem_cons_self)]
     refine⟨?_,fun q hq=>?_⟩
     ·rw [List.length_append]
      have:=okc.1
      show c.length+1≤i+1
      omega
     ·rcases List.mem_append.mp hq with h | h
      ·exact okc.2 q h
      ·rw [List.mem_singleton.mp h];exact⟨apr,by show (0:Int)≤(i:Int);omega,by show (i:Int) < 24;omega⟩
    ·rw [List.getElem?_set_ne (Ne.symm e)] at hc'
     have o':=ok8 u' c' hc'
     refine⟨Nat.le_trans o'.1 (Nat.add_le_add_left ?_ _),o'.2⟩
     by_cases m:u'∈Cm w.1 aa n j
     ·rw [if_pos m,if_pos (List.mem_append_left _ m)]
      exact Nat.le_refl _
     ·rw [if_neg m];exact Nat.zero_le _
 ·rintro σ H2 ⟨pl,x3,x4,x5,x6,x7,x8,x9,xA,xB,xC,rfl,kp,T2,g2,okp⟩
  refine⟨_,rfl,D,rfl,⟨_,aR.of g2.top⟩,fun D2 hD2=>kG (K:=K) (a:=D) (xs:=rows.map V.ref) (ds:=pl) (P:=Cq K) (f:=fun c=>c) (fun _ _ _ _ t z=>z.mono t) hD2 (aR.of g2.top) (by rw [List.length_map,g2.len,g2.pln]) (by rw [g2.pln];decide) (fun i x d H' hx hd sm Rk E kR=>?_) fun HA ms sA hmA amA=>?_⟩
  ·rw [List.getElem?_map] at hx
   obtain⟨r,hr',rfl⟩:∃ r,rows[i]?=some r/\x=.ref r:=by
    cases hrr:rows[i]? with
    | none=>rw [hrr] at hx;cases hx
    | some r=>rw [hrr] at hx;cases hx;exact⟨r,rfl,rfl⟩
   obtain⟨zs,hz,az⟩:=g2.row i r d hr' hd
   refine⟨hZ.set rfl,_,rfl,r,zs,rfl,.inl ⟨aR.of (sm _ _ hz),fun l hl=>?_⟩⟩
   have e:=ai hl (.tup zs)
   exact kR _ _ e ⟨l,zs,rfl,bo.of ag,az.mono fun _ _ z=>z.mono (ax.same (sm.trans e))⟩
  rw [show pl.map (fun c=>c)=pl from List.map_id' pl] at amA
  refine⟨D2,ms,rfl,.inl ⟨aR.of hmA,fun l hl=>?_⟩⟩
  have e:=ai hl (.tup ms)
  have sAe:=sA.trans e
  refine k _ pl _ ⟨fun b o nb q=>sAe _ _ (kp b o nb q),tp.lst,(T2.same sAe).lst⟩ (T2.same sAe) ⟨l,ms,rfl,bo.of ag,amA.mono fun _ _ z=>z.mono (ax.same e)⟩ ⟨by rw [g2.pln];exact Nat.le_refl _,fun c hc=>⟨fun q hq=>?_,?_⟩,fun c hc q hq=>((okp c hc).2 q hq).2⟩ (by rw [g2.pln];decide)
  ·obtain⟨z,hz,rfl⟩:=List.mem_map.mp hq
   exact ((okp c hc).2 z hz).1
  ·unfold l7
   rw [List.length_map]
   have:=(okp c hc).1
   omega
theorem Dw (T:eE K mg t):bB P w K mg base dk 2 t.a_Q1 t.d_Q1 ["_law_some"] (fY K):=by
 refine T.F_Q1.ok tz (fun vs H Q E h=>?_) (fun cdv A outer s H vs Q E hr h=>?_)
 ·obtain⟨_,_,_,rfl,_⟩:=h;rfl
 obtain⟨a,xs,rs,rfl,hS,al0,wf,n60,k⟩:=h
 refine cY.ok (af (bH 1 tz.nd (bD ae))
   (af (cz PassesOwn.never rfl (gf (qv 0)) (aL (i:=2) tz.nd rfl (by first | exact Or.inl rfl | exact Or.inr rfl))
   (ak (fc (jq PySem.F.plainAttrs_list PySem.F.slot_list_insert PySem.F.type_list_insert kx (qv 1) (ac (ay bc (by rfl) T.z_len boot_len (ac (dg (N':=["_law_other", "_law_one"]) (src:=[none,some 2]) rfl (by exact (de (qv 1))) (fun _ _ _ _ _=>(by exact (by exact aL (i:=0) (by show List.Nodup (["_law_other", "_law_one"]:List Str);decide +kernel) (by exact rfl) (by first | exact Or.inl rfl | exact Or.inr rfl)))) (fun _ _ _ _ _=>(lx (ii (bE (by exact (bI (gs T) (by exact hr.mono (by decide)) (by exact rfl) T.m_Q26 T.F_Q26.kp T.b_Q26 (by exact .nil) (by exact ef) (ac (by exact (qv 1)) (ac (by exact (qv 0)) ae ad) ad))))))) (fun _ _ _ _ _=>(by exact (by exact (qv 0)))) (by exact⟨rfl,rfl,rfl,rfl,trivial⟩) rfl (by decide +kernel) rfl (by decide +kernel) (by exact bT rfl ⟨rfl,trivial⟩)) ae dD)) (ac (qv 2) ae ad) aB)))))
   (ak (aE (qv 1))))) ?_
 extract_lets +lift
 try dsimp -zeta -zetaDelta only [Cx.nox,Cx.wish,bw]
 have hxl:=al0.len
 refine⟨(by show 0≤sizeLine;exact Nat.zero_le _),fun l hl=>?_⟩
 have s0:=ai hl (.lst [])
 have nin:∀ b o,H b=some o->b≠l:=fun b o q=>aA q hl
 refine⟨_,rfl,a,rfl,⟨_,ax.same (K:=K) s0 _ _ hS⟩,iY (K:=K) (a:=a) (xs:=xs) (fun i σ H'=>∃ (x2:Option V) (ys:List V) (zs:List R),σ=[some (.ref a),some (.ref l),x2]/\aS H H'/\H' l=some (.lst ys)/\bG (RV K H') ys zs/\zs.Perm (rs.take i)/\o8 zs) ⟨none,[],[],rfl,s0,ag,.nil,List.Perm.refl _,List.Pairwise.nil⟩ (fun i σ H' _ ⟨_,_,_,_,s,_⟩=>ax.same (K:=K) s _ _ hS) ?_ ?_⟩
 ·rintro i x σ H1 hx ⟨x2,ys,zs,rfl,s1,hl1,al1,pm,so⟩
  obtain⟨z,hz0,rvz⟩:=al0.at hx
  have hil:i < xs.length:=(List.getElem?_eq_some_iff.mp hx).1
  have wz:=wf z (List.mem_of_getElem? hz0)
  have hz:=rvz.mono (ax.same s1)
  have sub:∀ y∈zs,Wf 400 y:=fun y hy=>wf y (List.mem_of_mem_take (pm.mem_iff.mp hy))
  have lz:zs.length≤i:=by rw [pm.length_eq,List.length_take];omega
  have ly:=al1.len
  refine⟨_,rfl,.inl ⟨rfl,_,aR.of hl1⟩,_,rfl,l,rfl,⟨_,aR.of hl1⟩,fun D hD=>ix (K:=K) (P:=RV K) (p:=fun y=>!aD z y) (fun _ _ _ _ t p=>p.mono t) hD (aR.of hl1) al1 (by omega) (fun j x d H3 hx hd s3 pd R E kR kE=>?_) fun H3 ds s3 hD3 al3=>?_⟩
  ·refine⟨hZ.set rfl,_,rfl,_,rfl,_,_,z,d,400,400,rfl,hz.mono (ax.same s3),pd,wz,sub d (List.mem_of_getElem? hd),by decide,_,rfl,?_⟩
   cases c:aD z d with
   | true=>exact cU (kE _ (aS.refl _) (by rw [c];rfl))
   | false=>exact fj ⟨_,rfl,kR _ (aS.refl _) (by rw [c];rfl)⟩
  have dl:ds.length=(zs.filter fun y=>!aD z y).length:=al3.len
  have dle:ds.length≤zs.length:=by rw [dl];exact List.length_filter_le _ _
  have s13:=s1.trans s3
  have hl3:=s3 _ _ hl1
  have hz3:=hz.mono (ax.same s3)
  have alz:=al1.mono fun _ _ q=>q.mono (ax.same s3)
  refine⟨D,ds,rfl,.inl (aR.of hD3),_,rfl,l,ys,ds.length,x,rfl,rfl,hl3,by omega,aV (by omega),?_⟩
  have tm:=ax.up (K:=K) hl3 (ys.take ds.length++x :: ys.drop ds.length)
  refine⟨_,_,zs.take ds.length++z :: zs.drop ds.length,rfl,fun b o q=>?_,ag,?_,?_,?_⟩
  ·rw [av (nin b o q)]
   exact s13 _ _ q
  ·have alm:=alz.mono fun _ _ q=>q.mono tm
   exact (alm.take _).join (.cons (hz3.mono tm) (alm.drop _))
  ·rw [List.take_add_one,hz0]
   exact vJ _ pm
  ·rw [dl]
   exact wQ wz.pos (fun y hy=>(sub y hy).pos) so
 ·rintro σ H1 ⟨x2,ys,zs,rfl,s1,hl1,al1,pm,so⟩
  rw [hxl,List.take_length] at pm
  exact⟨_,rfl,k l ys zs H1 s1 hl hl1 al1 pm so⟩
theorem Bt (T:eE K mg t):kP P w K mg base dk 1 t.a_Q15 t.d_Q15 ["_law_e"] (k7 K t.c_Q34):=by
 refine T.F_Q15.okM tj (fun vs H Q E h=>?_) (fun cdv A outer s H vs Q E hr h=>?_)
 ·obtain⟨_,_,_,rfl,_⟩:=h;rfl
 obtain⟨x,dd,fs,rfl,ex,ed,k⟩:=h
 refine cY.ok (af (bH 1 tj.nd (bD (ac (ay (hJ (K:=K) rfl) (by rfl) T.z_isinstance boot_isinstance (ac (qv 0) (ac (cQ (v:=.ref t.c_Q34) rfl T.m_Q34 rfl) ae ad) ad)) (ac (ay (hJ (K:=K) rfl) (by rfl) T.z_isinstance boot_isinstance (ac (qv 0) (ac (cQ (v:=.ref t.c_Q18) rfl T.m_Q18 rfl) ae ad) ad)) (ac (ay (hJ (K:=K) rfl) (by rfl) T.z_isinstance boot_isinstance (ac (qv 0) (ac (bf (v:=V.ty "ValueError") rfl T.z_ValueError PyProof.Rows.Boot.ValueError rfl) ae ad) ad)) ae aB) aB) aB)))
   (ak (aE (aG ju (qv 1) (bD (ac (ay (hJ (K:=K) rfl) (by rfl) T.z_isinstance boot_isinstance (ac (qv 0) (ac (aN (ac (cQ (v:=.ref t.c_Q35) rfl T.m_Q35 rfl) (ac (cQ (v:=.ref t.c_Q42) rfl T.m_Q42 rfl) (ac (cQ (v:=.ref t.c_Q43) rfl T.m_Q43 rfl) (ac (cQ (v:=.ref t.c_Q36) rfl T.m_Q36 rfl) (ac (cQ (v:=.ref t.c_Q44) rfl T.m_Q44 rfl) (ac (cQ (v:=.ref t.c_Q37) rfl T.m_Q37 rfl) (ac (cQ (v:=.ref t.c_Q19) rfl T.m_Q19 rfl) ae ad) ad) ad) ad) ad) ad) ad)) ae aO) ad)) ae aB)))))) ?_
 extract_lets +lift
 try dsimp -zeta -zetaDelta only [Cx.nox,Cx.wish,bw]
 have cl:=T.X_Q34.cl
 have gx:=T.g_Q34
 refine⟨_,rfl,x,_,dd,_,_,_,true,rfl,ex,ed,cl,gx,.inr (.inl ⟨_,rfl,T.y_self⟩),_,rfl,x,_,dd,_,_,_,true,rfl,ex,ed,cl,gx,.inr (.inl ⟨_,rfl,T.y_base⟩),_,rfl,x,_,dd,_,_,_,true,rfl,ex,ed,cl,gx,.inl ⟨_,rfl,T.y_val⟩,zK,fun l1 h1=>?_⟩
 have s1:=ai h1 (.lst [.bl true,.bl true,.bl true])
 have hl1:upd H l1 (.lst [.bl true,.bl true,.bl true]) l1=some (.lst [.bl true,.bl true,.bl true]):=ag
 generalize upd H l1 (.lst [.bl true,.bl true,.bl true])=H1 at s1 hl1 ⊢
 refine⟨_,rfl,_,rfl,GI,fun p2 g2=>?_⟩
 have s2:=ai g2 (.tup [.ref t.c_Q35,.ref t.c_Q42,.ref t.c_Q43,.ref t.c_Q36,.ref t.c_Q44,.ref t.c_Q37,.ref t.c_Q19])
 have s12:=s1.trans s2
 refine⟨x,_,dd,_,_,_,false,rfl,s12 _ _ ex,s12 _ _ ed,cl,gx,.inr (.inr ⟨p2,[t.c_Q35,t.c_Q42,t.c_Q43,t.c_Q36,t.c_Q44,t.c_Q37,t.c_Q19],rfl,ag,T.y_not⟩),yS,fun l3 h3=>?_⟩
 have s3:=ai h3 (.lst [.bl false])
 refine⟨l1,l3,_,_,rfl,rfl,s3 _ _ (s2 _ _ hl1),ag,EC,fun l4 h4=>?_⟩
 exact k l4 _ ((s12.trans s3).trans (ai h4 _)) ag
theorem Dp (T:eE K mg t):bB P w K mg base dk 3 t.a_Q8 t.d_Q8 ["_law_tape_here"] (je K):=by
 refine T.F_Q8.ok jk (fun vs H Q E h=>?_) (fun cdv A outer s H vs Q E hr h=>?_)
 ·obtain⟨_,_,rfl,_⟩:=h;rfl
 obtain⟨t₁,s₁,rfl,tp,k⟩:=h
 refine cY.ok (af (bH 1 jk.nd (bD ae))
   (af (cz PassesOwn.never rfl (bZ rfl T.z_range (ac (bF (bA T) hr T.m_Q24 T.F_Q24.kp T.b_Q24 (ac (qv 0) (ac ah ae ap) ad)) ae aB)) (aL (i:=2) jk.nd rfl (by first | exact Or.inl rfl | exact Or.inr rfl))
   (af (bH 3 jk.nd (bF (gt T) hr T.m_Q25 T.F_Q25.kp T.b_Q25 (ac (aG bJ ah (bF (bA T) hr T.m_Q24 T.F_Q24.kp T.b_Q24 (ac (qv 0) (ac ah ae ap) ad))) (ac (bv bj (bD (ac ah (ac ah (ac ah (ac ah (ac ah ae ap) ap) ap) ap) ap)) (bF (bA T) hr T.m_Q24 T.F_Q24.kp T.b_Q24 (ac (qv 0) (ac ah ae ap) ad))) ae aF) ba)))
   (af (bH 4 jk.nd (bF (bA T) hr T.m_Q24 T.F_Q24.kp T.b_Q24 (ac (qv 0) (ac ah ae ap) ad)))
   (af (bg (aK dh (qv 4) ah (aJ _)) (ak (bH 3 jk.nd (bF (dI T) hr T.m_Q31 T.F_Q31.kp T.b_Q31 (ac (qv 3) (ac (aN (ac (aG bJ ah (bF (bA T) hr T.m_Q24 T.F_Q24.kp T.b_Q24 (ac (qv 0) (ac ah ae ap) ad))) (ac ah ae ap) ba)) ae aO) ad)))) aI)
   (af (bg (fS (jp (aK dh (qv 4) ah (aJ _)) (gK (aK pS (qv 2) ah (aJ _))))) (ak (bH 3 jk.nd (bv bj (qv 1) (bF (bA T) hr T.m_Q24 T.F_Q24.kp T.b_Q24 (ac (qv 0) (ac (qv 2) ae ad) ad))))) aI)
   (ak (fc (jq PySem.F.plainAttrs_list PySem.F.slot_list_append PySem.F.type_list_append dz (qv 1) (ac (qv 3) ae ad)))))))))
   (ak (aE (cc cy (by rfl) T.z_tuple boot_tuple (ac (qv 1) ae ad)))))) ?_
 extract_lets +lift
 try dsimp -zeta -zetaDelta only [Cx.nox,Cx.wish,bw]
 refine⟨(by show 0≤sizeLine;exact Nat.zero_le _),fun lw hlw0=>?_⟩
 obtain⟨yA,eA⟩:=tp.lst
 have nl:lw≠t₁:=fun z=>by subst z;rw [eA] at hlw0;cases hlw0
 have nls:=tp.off hlw0
 have T0:=tp.new hlw0 (.lst [])
 have s0:=ai hlw0 (.lst [])
 have h0:upd H lw (.lst []) lw=some (.lst []):=ag
 generalize upd H lw (.lst [])=H0 at T0 s0 h0 ⊢
 obtain⟨yB,eB⟩:=T0.lst
 refine⟨_,rfl,t₁,s₁,10,rfl,T0,by omega,by omega,fun r0 x0_ a0 b0 T1=>?_⟩
 have kpA:∀ b o,b≠t₁->H b=some o->upd H0 t₁ (.lst x0_) b=some o:=fun b o nb q=>by rw [av nb];exact s0 _ _ q
 have hA:upd H0 t₁ (.lst x0_) lw=some (.lst []):=by rw [av nl];exact h0
 generalize upd H0 t₁ (.lst x0_)=HA at T1 kpA hA ⊢
 obtain⟨m,rfl⟩:=Int.eq_ofNat_of_zero_le a0
 refine⟨m,rfl,by omega,by omega,cX (lo:=0) (n:=(m:Int).toNat) (fun i σ H'=>∃ (xs:List V) (rs:List R) (x2 x3 x4:Option V),σ=[some (.ref t₁),some (.ref lw),x2,x3,x4]/\bx K H' t₁ s₁/\(∀ b o,b≠t₁->H b=some o->H' b=some o)/\H' lw=some (.lst xs)/\bG (RV K H') xs rs/\rs.length=i/\∀ r∈rs,Ct r) ⟨[],[],none,none,none,rfl,T1,kpA,hA,.nil,rfl,fun w hw=>by cases hw⟩ ?_ ?_⟩
 ·rintro i σ H1 hi ⟨xs,rs,x2,x3,x4,rfl,T,kp,hlw,alw,hlen,okw⟩
  rw [Int.zero_add]
  obtain⟨y1,e1⟩:=T.lst
  refine⟨_,rfl,t₁,s₁,9,rfl,T,by omega,by omega,fun r2 x2_ a2 b2 T2=>?_⟩
  have S2:aX t₁ H1 _:=aX.up (ys:=x2_) e1
  generalize upd H1 t₁ (.lst x2_)=H2 at T2 S2 ⊢
  refine⟨_,_,rfl,rfl,FF,fun l6 h6=>?_⟩
  obtain⟨y2,e2⟩:=T2.lst
  have n6:l6≠t₁:=fun z=>by subst z;rw [e2] at h6;cases h6
  have S3:=S2.trans (aX.new T2.lst h6 (.lst [.int 1,.int 2,.int 3,.int 4,.int 7]))
  have T3:=T2.new h6 (.lst [.int 1,.int 2,.int 3,.int 4,.int 7])
  have h63:upd H2 l6 (.lst [.int 1,.int 2,.int 3,.int 4,.int 7]) l6=some (.lst [.int 1,.int 2,.int 3,.int 4,.int 7]):=ag
  generalize upd H2 l6 (.lst [.int 1,.int 2,.int 3,.int 4,.int 7])=H3 at T3 S3 h63 ⊢
  obtain⟨y3,e3⟩:=T3.lst
  refine⟨_,rfl,t₁,s₁,5,rfl,T3,by omega,by omega,fun r7 x7_ a7 b7 T4=>?_⟩
  have S4:=S3.trans (aX.up (ys:=x7_) e3)
  have h64:upd H3 t₁ (.lst x7_) l6=some (.lst [.int 1,.int 2,.int 3,.int 4,.int 7]):=by rw [av n6];exact h63
  generalize upd H3 t₁ (.lst x7_)=H4 at T4 S4 h64 ⊢
  obtain⟨bb,hbb,bo1,bo2,bo3⟩:∃ b:Int,jN [V.int 1,.int 2,.int 3,.int 4,.int 7] r7=some (.int b)/\1≤b/\b≤7/\b∣84:=by
   rcases (show r7=0∨r7=1∨r7=2∨r7=3∨r7=4 by omega) with rfl | rfl | rfl | rfl | rfl
   ·exact⟨1,rfl,by decide,by decide,by decide⟩
   ·exact⟨2,rfl,by decide,by decide,by decide⟩
   ·exact⟨3,rfl,by decide,by decide,by decide⟩
   ·exact⟨4,rfl,by decide,by decide,by decide⟩
   ·exact⟨7,rfl,by decide,by decide,by decide⟩
  refine⟨l6,_,_,_,rfl,rfl,aR.of h64,hbb,?_⟩
  refine⟨1+r2,bb,rfl,by omega,bi (n:=3) (by show bb.natAbs < 8;omega) (by decide),fun pf hpf=>?_⟩
  have am:=qq (a:=1+r2) (by omega) (by omega) bo1 bo2 bo3
  generalize cK (1+r2) bb=ra at am ⊢
  have s8:=ai hpf (.tup [.int ra.1,.int ra.2])
  have rf:RV K (upd H4 pf (.tup [.int ra.1,.int ra.2])) (.ref pf) ra:=RV.of ag
  have T5:=T4.same s8
  have S5:=S4.trans (aX.same s8 T4.lst)
  generalize upd H4 pf (.tup [.int ra.1,.int ra.2])=H5 at T5 S5 rf ⊢
  clear S2 S3 S4 T2 T3 T4 s8 h63 h64 hbb
  obtain⟨y5,e5⟩:=T5.lst
  refine⟨_,rfl,t₁,s₁,4,rfl,T5,by omega,by omega,fun r4 x9_ a4 b4 T6=>?_⟩
  have S6:=S5.trans (aX.up (ys:=x9_) e5)
  have rf6:=rf.mono (ax.step (K:=K) (aX.up (ys:=x9_) e5))
  generalize upd H5 t₁ (.lst x9_)=H6 at T6 S6 rf6 ⊢
  clear T5 S5 rf e5 T e1
  refine⟨_,rfl,rfl,_,rfl,?_⟩
  have c4:r4=0∨(r4=1/\0 < i)∨(r4=1/\¬ 0 < i)∨(r4≠0/\r4≠1):=by omega
  rcases c4 with rfl | ⟨rfl,ci⟩ | ⟨rfl,ci⟩ | ⟨c0,c1⟩
  ·refine cW rfl ?_
   obtain⟨y6,e6⟩:=T6.lst
   refine⟨_,rfl,_,rfl,t₁,s₁,40,rfl,T6,by omega,by omega,fun rz z_ az bz T7=>?_⟩
   have S7:=S6.trans (aX.up (ys:=z_) e6)
   have rf7:=rf6.mono (ax.step (K:=K) (aX.up (ys:=z_) e6))
   generalize upd H6 t₁ (.lst z_)=H7 at T7 S7 rf7 ⊢
   refine⟨_,_,rfl,rfl,dU,fun p8 hp8=>?_⟩
   have s8:=ai hp8 (.tup [.int (5+rz),.int 1])
   have r8:RV K (upd H7 p8 (.tup [.int (5+rz),.int 1])) (.ref p8) (5+rz,1):=RV.of ag
   generalize upd H7 p8 (.tup [.int (5+rz),.int 1])=H8 at s8 r8 ⊢
   have b44:Bq 1 44 ((5+rz,1):R):=io (by omega)
   refine⟨.ref pf,.ref p8,ra,(5+rz,1),20,20,rfl,rf7.mono (ax.same s8),r8,(kN am).wf (by decide) (by decide) (by decide),b44.wf (by decide) (by decide) (by decide),by decide,fun p9 hp9=>?_⟩
   have amX:=B7 am (i:=5+rz) (by omega) (by omega)
   generalize aQ ra (5+rz,1)=rX at amX ⊢
   have s9:=ai hp9 (.tup [.int rX.1,.int rX.2])
   have ruX:RV K (upd H8 p9 (.tup [.int rX.1,.int rX.2])) (.ref p9) rX:=RV.of ag
   have TX:=T7.same (s8.trans s9)
   have SX:=S7.trans (aX.same (s8.trans s9) T7.lst)
   generalize upd H8 p9 (.tup [.int rX.1,.int rX.2])=HX at ruX TX SX ⊢
   refine⟨_,rfl,rfl,_,rfl,cU (cU ?_)⟩
   generalize V.ref p9=uX at ruX
   have hlwX:=SX.keep _ _ nl hlw
   refine⟨_,rfl,.inl ⟨rfl,_,aR.of hlwX⟩,_,rfl,lw,xs,_,rfl,rfl,hlwX,aV (by rw [alw.len];omega),?_⟩
   have tX:ax K H1 (upd HX lw (.lst (xs++[uX]))):=(ax.step SX).trans (ax.up hlwX _)
   refine⟨_,rs++[rX],_,_,_,rfl,TX.upl nl nls _,fun b o nb q=>?_,ag,(alw.mono fun v d m=>m.mono tX).snoc (ruX.mono (ax.up hlwX _)),by rw [List.length_append,hlen];rfl,fun z hz=>?_⟩
   ·rw [av (aA q hlw0)]
    exact SX.keep _ _ nb (kp b o nb q)
   ·rcases List.mem_append.mp hz with h | h
    ·exact okw z h
    ·rw [List.mem_singleton.mp h]
     exact amX
  ·refine bP (by intro z;cases z) ?_
   refine⟨_,rfl,rfl,_,rfl,?_⟩
   refine fj ?_
   refine⟨_,rfl,_,_,rfl,rfl,_,rfl,?_⟩
   refine cW (by omega) ?_
   obtain⟨y6,e6⟩:=T6.lst
   refine⟨_,rfl,_,rfl,_,rfl,t₁,s₁,i,rfl,T6,by omega,by omega,fun rz z_ az bz TX=>?_⟩
   have SX:=S6.trans (aX.up (ys:=z_) e6)
   generalize upd H6 t₁ (.lst z_)=HX at TX SX ⊢
   have hlw7:=SX.keep _ _ nl hlw
   obtain⟨j,rfl⟩:=Int.eq_ofNat_of_zero_le az
   obtain⟨uX,hxw⟩:∃ xw,xs[j]?=some xw:=⟨_,List.getElem?_eq_getElem (by rw [alw.len];omega)⟩
   obtain⟨rX,hw,ru0⟩:=alw.at hxw
   have ruX:=ru0.mono (ax.step (K:=K) SX)
   have amX:=okw rX (List.mem_of_getElem? hw)
   refine⟨lw,_,_,_,rfl,rfl,aR.of hlw7,bM hxw,?_⟩
   have hlwX:=SX.keep _ _ nl hlw
   refine⟨_,rfl,.inl ⟨rfl,_,aR.of hlwX⟩,_,rfl,lw,xs,_,rfl,rfl,hlwX,aV (by rw [alw.len];omega),?_⟩
   have tX:ax K H1 (upd HX lw (.lst (xs++[uX]))):=(ax.step SX).trans (ax.up hlwX _)
   refine⟨_,rs++[rX],_,_,_,rfl,TX.upl nl nls _,fun b o nb q=>?_,ag,(alw.mono fun v d m=>m.mono tX).snoc (ruX.mono (ax.up hlwX _)),by rw [List.length_append,hlen];rfl,fun z hz=>?_⟩
   ·rw [av (aA q hlw0)]
    exact SX.keep _ _ nb (kp b o nb q)
   ·rcases List.mem_append.mp hz with h | h
    ·exact okw z h
    ·rw [List.mem_singleton.mp h]
     exact amX
  ·refine bP (by intro z;cases z) ?_
   refine⟨_,rfl,rfl,_,rfl,?_⟩
   refine fj ?_
   refine⟨_,rfl,_,_,rfl,rfl,_,rfl,?_⟩
   refine bP (by omega) ?_
   have amX:=zF am
   have TX:=T6
   have SX:=S6
   have ruX:=rf6
   generalize ra=rX at ruX amX
   generalize V.ref pf=uX at ruX
   generalize H6=HX at SX TX ruX
   have hlwX:=SX.keep _ _ nl hlw
   refine⟨_,rfl,.inl ⟨rfl,_,aR.of hlwX⟩,_,rfl,lw,xs,_,rfl,rfl,hlwX,aV (by rw [alw.len];omega),?_⟩
   have tX:ax K H1 (upd HX lw (.lst (xs++[uX]))):=(ax.step SX).trans (ax.up hlwX _)
   refine⟨_,rs++[rX],_,_,_,rfl,TX.upl nl nls _,fun b o nb q=>?_,ag,(alw.mono fun v d m=>m.mono tX).snoc (ruX.mono (ax.up hlwX _)),by rw [List.length_append,hlen];rfl,fun z hz=>?_⟩
   ·rw [av (aA q hlw0)]
    exact SX.keep _ _ nb (kp b o nb q)
   ·rcases List.mem_append.mp hz with h | h
    ·exact okw z h
    ·rw [List.mem_singleton.mp h]
     exact amX
  ·refine bP (fun z=>c0 (by injection z)) ?_
   refine⟨_,rfl,rfl,_,rfl,?_⟩
   refine bP (fun z=>c1 (by injection z)) (cU ?_)
   have amX:=zF am
   have TX:=T6
   have SX:=S6
   have ruX:=rf6
   generalize ra=rX at ruX amX
   generalize V.ref pf=uX at ruX
   generalize H6=HX at SX TX ruX
   have hlwX:=SX.keep _ _ nl hlw
   refine⟨_,rfl,.inl ⟨rfl,_,aR.of hlwX⟩,_,rfl,lw,xs,_,rfl,rfl,hlwX,aV (by rw [alw.len];omega),?_⟩
   have tX:ax K H1 (upd HX lw (.lst (xs++[uX]))):=(ax.step SX).trans (ax.up hlwX _)
   refine⟨_,rs++[rX],_,_,_,rfl,TX.upl nl nls _,fun b o nb q=>?_,ag,(alw.mono fun v d m=>m.mono tX).snoc (ruX.mono (ax.up hlwX _)),by rw [List.length_append,hlen];rfl,fun z hz=>?_⟩
   ·rw [av (aA q hlw0)]
    exact SX.keep _ _ nb (kp b o nb q)
   ·rcases List.mem_append.mp hz with h | h
    ·exact okw z h
    ·rw [List.mem_singleton.mp h]
     exact amX
 ·rintro σ H1 ⟨xs,rs,x2,x3,x4,rfl,T1',kp,hlw,alw,hlen,okw⟩
  refine⟨_,rfl,lw,_,rfl,.inl ⟨aR.of hlw,fun p hp=>?_⟩⟩
  have s5:=ai hp (.tup xs)
  exact k (.ref p) rs _ ((⟨kp,tp.lst,T1'.lst⟩:aX t₁ H H1).trans (aX.same s5 T1'.lst)) (T1'.same s5) ⟨p,xs,rfl,bo.of ag,alw.mono fun _ _ q=>q.mono (ax.same s5)⟩ (by rw [hlen];omega) okw
theorem mR (T:eE K mg t):bB P w K mg base dk 3 t.a_Q33 t.d_Q33 ["_law_some"] (mF K):=by
 refine T.F_Q33.ok fC (fun vs H Q E h=>?_) (fun cdv A outer s H vs Q E hr h=>?_)
 ·obtain⟨_,_,_,_,_,_,rfl,_⟩:=h;rfl
 obtain⟨a,xs,rs,D,N,n,rfl,hS,al,bq,h0,h1,h2,hl,hn,k⟩:=h
 refine cY.ok (af (bH 1 fC.nd (aN (ac ah (ac ah ae ap) ap)))
   (af (cz PassesOwn.never rfl (gf (qv 0)) (aL (i:=2) fC.nd rfl (by first | exact Or.inl rfl | exact Or.inr rfl))
   (ak (bH 1 fC.nd (bF (dI T) hr T.m_Q31 T.F_Q31.kp T.b_Q31 (ac (qv 1) (ac (qv 2) ae ad) ad)))))
   (ak (aE (qv 1))))) ?_
 extract_lets +lift
 try dsimp -zeta -zetaDelta only [Cx.nox,Cx.wish,bw]
 have hlen:=al.len
 refine⟨dU,fun p0 hp0=>?_⟩
 have s0:=ai hp0 (.tup [.int 0,.int 1])
 refine⟨_,rfl,a,rfl,⟨_,ax.same (K:=K) s0 _ _ hS⟩,iY (K:=K) (a:=a) (xs:=xs) (fun i σ H'=>∃ (u:V) (x3:Option V),σ=[some (.ref a),some u,x3]/\aS H H'/\RV K H' u (bR (rs.take i))) ⟨_,none,rfl,s0,RV.of ag⟩ (fun i σ H1 _ ⟨_,_,_,s1,_⟩=>ax.same (K:=K) s1 _ _ hS) ?_ ?_⟩
 ·rintro i y σ H1 hi ⟨u,x3,rfl,s1,ru⟩
  obtain⟨r,hr,rv⟩:=al.at hi
  have wr:=wg (bq r (List.mem_of_getElem? hr)) h0 h1 h2
  have wu:Wf n (bR (rs.take i)):=pD (fun z hz=>bq z (List.mem_of_mem_take hz)) h0 h1 h2 (by rw [List.length_take];omega)
  have e:bR (rs.take (i+1))=aQ (bR (rs.take i)) r:=by
   unfold bR
   rw [List.take_add_one,hr,List.foldl_append]
   rfl
  refine⟨_,rfl,_,rfl,u,y,bR (rs.take i),r,n,n,rfl,ru,rv.mono (ax.same s1),wu,wr,by omega,fun p hp=>?_⟩
  have s2:=ai hp (.tup [.int (aQ (bR (rs.take i)) r).1,.int (aQ (bR (rs.take i)) r).2])
  refine⟨_,_,rfl,s1.trans s2,?_⟩
  rw [e];exact RV.of ag
 ·rintro σ H1 ⟨u,x3,rfl,s1,ru⟩
  rw [hlen,List.take_length] at ru
  exact⟨_,rfl,k u H1 s1 ru⟩
theorem Bk (T:eE K mg t):bB P w K mg base dk 3 t.a_Q34 t.d_Q34 ["self", "speed"] (n5 K t.c_Q34):=by
 refine T.F_Q34.ok Aj (fun vs H Q E h=>?_) (fun cdv A outer s H vs Q E hr h=>?_)
 ·obtain⟨_,_,_,rfl,_⟩:=h;rfl
 obtain⟨a,v,r,rfl,ha,hv,k⟩:=h
 refine cY.ok (ak (w8 rfl (qv 0) (bF (Bj T) hr T.m_Q39 T.F_Q39.kp T.b_Q39 (ac (qv 1) ae ad)) rfl)) ?_
 extract_lets +lift
 try dsimp -zeta -zetaDelta only [Cx.nox,Cx.wish,bw]
 exact⟨_,rfl,v,r,rfl,hv,fun u H1 s1 hu=>⟨_,rfl,a,_,_,rfl,T.X_Q34.cl,T.n_Q34_speed,.inl ⟨s1 _ _ ha,fun d hd nd=>k d u H1 s1 hu hd nd⟩⟩⟩
theorem Bp (T:eE K mg t):bB P w K mg base (nP P w) 5 t.a_Q21 t.d_Q21 ["rule", "speed"] (mC K t.c_Q34):=by
 refine B.Fun.okD T.F_Q21 jn (fun vs H Q E h=>?_) (fun cdv A outer s H vs Q E hr h=>?_)
 ·obtain⟨_,_,_,_,rfl,_⟩:=h;rfl
 obtain⟨v,w,rl,s,rfl,hv,ok,hw,hs,k,ke⟩:=h
 refine cY.ok (af (bg (aK dh (bv ar (qv 0) ah) (cQ (v:=.str "power") rfl T.m_POWER ⟨_,rfl⟩) (aJ _)) (ak (aE (bF (Bi T) hr T.m_Q40 T.F_Q40.kp T.b_Q40 (ac (qv 1) (ac (bv ar (qv 0) ah) ae aF) ad)))) aI)
   (af (bg (bE (bF (Bw T) hr T.m_Q11 T.F_Q11.kp T.b_Q11 (ac (qv 0) (ac (qv 1) ae ad) ad))) (ak (qQ T.X_Q34 (zN _) rfl zU (Bk T) (hr.mono (by decide)) T.b_Q34 rfl T.m_Q34 (ac (qv 1) ae ad))) aI)
   (af (bH 2 jn.nd (bv ar (qv 0) ah))
   (af (bH 3 jn.nd (bF (Br T) hr T.m_Q20 T.F_Q20.kp T.b_Q20 (ac (qv 2) (ac (qv 1) ae ad) ad)))
   (af (bH 4 jn.nd (bv ar (qv 2) (qv 3)))
   (af (bg (aK (u8 hr) (bv ar (qv 4) ah) (qv 1) (aJ _)) (ak (aE (bv ar (qv 4) ah))) aI)
   (af (bH 5 jn.nd (bv ar (qv 2) (aG fh (qv 3) ah)))
   (ak (aE (bF (oC T) hr T.m_Q49 T.F_Q49.kp T.b_Q49 (ac (bv ar (qv 5) ah) (ac (bF (vb T) hr T.m_Q47 T.F_Q47.kp T.b_Q47 (ac (bF (Dt T) hr T.m_Q4 T.F_Q4.kp T.b_Q4 (ac (qv 5) (ac (qv 4) ae ad) ad)) (ac (bF (lG T) hr T.m_Q46 T.F_Q46.kp T.b_Q46 (ac (qv 1) (ac (bv ar (qv 5) ah) ae aF) ad)) ae aB) aB)) ae aB) aF))))))))))) ?_
 extract_lets +lift
 try dsimp -zeta -zetaDelta only [Cx.nox,Cx.wish,bw]
 cases rl with
 | pow kk=>
  obtain⟨p,rfl,hS⟩:=hv
  have ok':2≤kk/\kk≤4:=ok
  refine⟨_,rfl,p,_,_,_,rfl,rfl,hS,rfl,rfl,_,rfl,cW rfl ?_⟩
  exact⟨_,rfl,_,rfl,p,_,_,_,rfl,rfl,hS,rfl,w,s,kk,rfl,hw,hs.wf,by omega,by omega,k trivial⟩
 | tab rows=>
  have ok':cj rows:=ok
  obtain⟨p,q,xs,rfl,hS,hq,al⟩:=id hv
  refine⟨_,rfl,p,_,_,_,rfl,rfl,hS,rfl,rfl,_,rfl,bP (by decide) ?_⟩
  refine⟨_,rfl,_,rfl,.ref p,w,.tab rows,s,rfl,hv,ok,hw,hs.wf,_,rfl,?_⟩
  cases c:cM (.tab rows) s with
  | true=>
   refine fj ?_
   have nb:¬ dm (.tab rows) s:=fun z=>by rw [(i4 ok).mpr z] at c;cases c
   refine⟨_,rfl,yS,fun x hx=>?_⟩
   have s0:=ai hx (fV x t.c_Q34 none)
   refine⟨x,w,s,rfl,ag,hw.mono (ax.same s0),fun d u H1 s1 hu hd nd=>⟨rfl,some d,(by rw [av nd.symm];exact ag),?_⟩⟩
   have hx1:=s1 _ _ (ag (H:=H) (a:=x) (o:=fV x t.c_Q34 none))
   refine ke nb d u _ (fun b o z=>?_) (hu.mono (wM hx1 hd)) ?_
   ·have nbx:b≠x:=aA z hx
    have z1:=s1 _ _ (s0 _ _ z)
    unfold jU
    rw [if_neg nbx,av (aA z1 hd),av nbx]
    exact z1
   ·unfold jU
    rw [if_neg nd]
    exact ag
  | false=>
   refine cU ?_
   have hb:=(i4 ok).mp c
   have pl:=ok'.p_lt hs.bq.pos hb
   have hx0:xs[dN rows s]?=some (xs[dN rows s]'(by rw [al.len];exact pl)):=List.getElem?_eq_getElem _
   obtain⟨r,hr',hrv⟩:=al.at hx0
   obtain⟨pa,x,y,ex,hSr,hx,hy⟩:=id hrv
   have mr:=List.mem_of_getElem? hr'
   refine⟨_,rfl,p,_,_,_,rfl,rfl,hS,rfl,_,rfl,_,rfl,q,w,xs,rows,s,rfl,hq,al,ok',hw,hs,hb,?_⟩
   refine⟨_,rfl,_,rfl,q,_,_,_,rfl,rfl,hq,bM hx0,?_⟩
   refine⟨_,rfl,pa,_,_,_,ex,rfl,hSr,rfl,_,rfl,dR r.1,dR s,hx.deep,hw.deep,iu _,iu _,nw _,_,rfl,?_⟩
   rw [qc]
   have kb:qE K H Q (ow rows s):=k hb
   unfold ow at kb
   rw [cn hr'] at kb
   by_cases ce:r.1=s
   ·refine cW ce ?_
    refine⟨_,rfl,pa,_,_,_,ex,rfl,hSr,rfl,?_⟩
    by_cases c0:dN rows s=0
    ·rw [if_pos c0] at kb
     rw [c0] at hr'
     rw [cn hr'] at kb
     exact kb _ _ (aS.refl H) hy
    ·rw [if_neg c0] at kb
     obtain⟨r1,e1⟩:∃ r1,rows[dN rows s - 1]?=some r1:=⟨_,List.getElem?_eq_getElem (by omega)⟩
     rw [cn e1] at kb
     have sl:=z8 ok' (by omega) e1 hr'
     have m1:=List.mem_of_getElem? e1
     have le:=vy (ok'.sp _ m1).red (ok'.pw _ m1).red (ok'.sp r mr).red (ok'.pw r mr).red sl.ne
     unfold gR at kb
     rw [← ce,le] at kb
     exact kb _ _ (aS.refl H) hy
   ·refine bP ce ?_
    have c0:dN rows s≠0:=fun z=>by
     have e:=pj ok' hs z
     obtain⟨y0,ey⟩:=ok'.zero
     rw [z,ey] at hr'
     cases hr'
     exact ce e.symm
    rw [if_neg c0] at kb
    have hw0:xs[dN rows s - 1]?=some (xs[dN rows s - 1]'(by rw [al.len];omega)):=List.getElem?_eq_getElem _
    obtain⟨r0,hr0,hrv0⟩:=al.at hw0
    rw [cn hr0] at kb
    obtain⟨pb,x0,y0,ex0,hS0,hx0',hy0⟩:=id hrv0
    have sl:=z8 ok' (by omega) hr0 hr'
    obtain⟨wm,wt,wl⟩:=yd sl (ok'.slope (by omega) hr0 hr').2.2.2 hs.wf
    refine⟨_,rfl,_,rfl,_,_,rfl,rfl,q,_,_,_,rfl,rfl,hq,(by rw [show ((dN rows s:Int) - 1)=((dN rows s - 1:Nat):Int) by omega];exact bM hw0),?_⟩
    refine⟨_,rfl,pb,_,_,_,ex0,rfl,hS0,rfl,_,rfl,_,rfl,_,_,r0,r,rfl,hrv0,hrv,sl,fun v3 H3 s3 h3=>?_⟩
    refine⟨_,rfl,_,rfl,pb,_,_,_,ex0,rfl,ax.same s3 _ _ hS0,rfl,w,x0,s,r0.1,98,98,rfl,hw.mono (ax.same s3),hx0'.mono (ax.same s3),hs.wf,sl.a1,by decide,fun v4 H4 s4 h4=>?_⟩
    refine⟨v3,v4,bU r0 r,aj s r0.1,300,197,rfl,h3.mono (ax.same s4),h4,(ok'.slope (by omega) hr0 hr').2.2.2,wm,by decide,fun p5 g5=>?_⟩
    have s5:=ai g5 (.tup [.int (aC (bU r0 r) (aj s r0.1)).1,.int (aC (bU r0 r) (aj s r0.1)).2])
    have s35:=(s3.trans s4).trans s5
    refine⟨y0,.ref p5,r0.2,aC (bU r0 r) (aj s r0.1),197,497,rfl,hy0.mono (ax.same s35),om (K:=K) s5,sl.a2,wt,by decide,fun p6 g6=>?_⟩
    have s6:=ai g6 (.tup [.int (aQ r0.2 (aC (bU r0 r) (aj s r0.1))).1,.int (aQ r0.2 (aC (bU r0 r) (aj s r0.1))).2])
    exact kb _ _ (s35.trans s6) (om (K:=K) s6)
theorem Bo (T:eE K mg t):bB P w K mg base (nP P w) 6 t.a_Q22 t.d_Q22 ["rule", "speeds"] (mB K t.c_Q34):=by
 refine B.Fun.okD T.F_Q22 Aq (fun vs H Q E h=>?_) (fun cdv A outer s H vs Q E hr h=>?_)
 ·obtain⟨_,_,_,_,_,rfl,_⟩:=h;rfl
 obtain⟨v,p,rl,xs,ss,rfl,hv,ok,rt,hp,al,l24,oks,k,ke⟩:=h
 refine cY.ok (ak (aE (bF (oE T) hr T.m_Q48 T.F_Q48.kp T.b_Q48 (ac (ko (N':=["speed", "rule"]) (src:=[none,some 0]) rfl (by exact (de (qv 1))) (fun _ _ _ _ _=>(by exact (by exact aL (i:=0) (by show List.Nodup (["speed", "rule"]:List Str);decide +kernel) (by exact rfl) (by first | exact Or.inl rfl | exact Or.inr rfl)))) (fun _ _ _ _ _=>cP) (fun _ _ _ _ _ _ hq=>(by exact (by exact (bI (Bp T) (by exact hr.mono (by decide)) (by exact rfl) T.m_Q21 T.F_Q21.kp T.b_Q21 (by exact .nil) (by exact zi hq) (ac (by exact (qv 1)) (ac (by exact (qv 0)) ae ad) ad))))) sk (by exact⟨rfl,rfl,rfl,rfl,trivial⟩) rfl (by decide +kernel) rfl (by decide +kernel) (by exact bT rfl ⟨rfl,trivial⟩)) ae dD)))) ?_
 extract_lets +lift
 try dsimp -zeta -zetaDelta only [Cx.nox,Cx.wish,bw]
 have hlen:=al.len
 refine⟨_,rfl,p,rfl,⟨_,hp⟩,fun D hD=>⟨fun i m ys H'=>i≤ss.length/\m=ss.length - i/\ys.length=i/\aS H H'/\H' D=some (.lst ys)/\bG (RV K H') ys ((ss.take i).map (js rl))/\∀ (j:Nat) (z:R),j < i->ss[j]?=some z->dm rl z,⟨_,Nat.zero_le _,rfl,rfl,ai hD _,ag,.nil,fun j z hj=>absurd hj (Nat.not_lt_zero j)⟩,?_⟩⟩
 rintro i m ys H1 ⟨hi,rfl,hyl,s1,hD1,al1,bel⟩
 have hp1:aR K H1 p xs:=s1.seq hp
 by_cases hix:i < ss.length
 ·obtain⟨x,hx⟩:∃ x,xs[i]?=some x:=⟨_,List.getElem?_eq_getElem (by omega)⟩
  refine .inr ⟨⟨xs,x,hp1,hx⟩,?_⟩
  rintro x' H2 ⟨rfl,hy⟩
  have hx':=hy _ hp1
  rw [hx] at hx'
  cases hx'
  obtain⟨s,hs,rvs⟩:=al.at hx
  have ms:=List.mem_of_getElem? hs
  refine⟨hZ.set rfl,?_⟩
  refine⟨_,rfl,_,rfl,v,x,rl,s,rfl,hv.mono (ax.same s1),ok,rvs.mono (ax.same s1),(oks s ms).sp,fun hb v3 H3 s3 r3=>?_,fun nb d u H3 s3 hu hd=>ke i s hs nb bel d u H3 (s1.trans s3) hu hd⟩
  have al3:=(al1.mono fun _ _ z=>z.mono (ax.same s3)).snoc r3
  have hD3:=s3 _ _ hD1
  refine⟨hD3,aV (by omega),ss.length - (i+1),by omega,hix,rfl,by rw [List.length_append,hyl];rfl,?_,ag,?_,?_⟩
  ·exact fun b o q=>by
    rw [av (aA q hD)]
    exact (s1.trans s3) _ _ q
  ·rw [List.take_add_one,hs,List.map_append]
   exact al3.mono fun _ _ z=>z.mono (ax.up (K:=K) hD3 _)
  ·intro j z hj hz
   by_cases c:j=i
   ·rw [c,hs] at hz;cases hz;exact hb
   ·exact bel j z (by omega) hz
 ·have e2:i=ss.length:=by omega
  subst e2
  have all:∀ s∈ss,dm rl s:=fun s hs=>by
   obtain⟨j,hj⟩:=List.getElem?_of_mem hs
   exact bel j s (List.getElem?_eq_some_iff.mp hj).1 hj
  rw [List.take_length] at al1
  refine .inl ⟨⟨_,hp1,by omega⟩,?_⟩
  refine⟨D,ys,ss.map (js rl),260,16500877357173888629751223333757772330952457491316736000000000000,rfl,.inl (aR.of hD1),lW al1,(fun r hr=>?_),by decide,by decide,(by rw [List.length_map];omega),by decide,fun v' H' s' rv=>k all v' H' (s1.trans s') rv⟩
  obtain⟨s,hs,rfl⟩:=List.mem_map.mp hr
  have b:=ou ok rt (oks s hs) (all s hs)
  exact⟨b.wf (by decide) (by decide) (by decide),b.dvd⟩
theorem zj (T:eE K mg t) (hB:base.BuiltinsAt mg t.c_LT):bB P w K mg base (nP P w) 7 t.a_Q9 t.d_Q9 ["rule", "hands", "amounts"] (jQ K t.c_Q34 t.c_LT):=by
 refine B.Fun.okD T.F_Q9 CZ (fun vs H Q E h=>?_) (fun cdv A outer s H vs Q E hr h=>?_)
 ·obtain⟨_,_,_,_,_,_,rfl,_⟩:=h;rfl
 obtain⟨v,rl,hh,pa,xs,rs,rfl,hv,ok,rt,hS,al,am,h1,h9,tb,k,ke⟩:=h
 refine cY.ok (ak (aE (bI (Bo T) (hr.mono (by decide)) rfl T.m_Q22 T.F_Q22.kp T.b_Q22 .nil Dm (ac (qv 0) (ac (bI (Dr T hB) (hr.mono (by decide)) rfl T.m_Q6 T.F_Q6.kp T.b_Q6 .nil ef (ac (qv 1) (ac (qv 2) ae ad) ad)) ae aB) ad)))) ?_
 extract_lets +lift
 try dsimp -zeta -zetaDelta only [Cx.nox,Cx.wish,bw]
 refine⟨_,rfl,_,rfl,_,rfl,hh,pa,xs,rs,rfl,hS,al,am,h1,h9,tb,fun l ys H1 sT tb1 hl al1=>?_⟩
 have t1:=dt (K:=K) sT tb
 refine⟨v,l,rl,ys,oS hh rs,rfl,hv.mono t1,ok,rt,aR.of hl,al1,by rw [fN am h1];exact h9,iq am h1 h9,fun all u H2 s2 ru=>?_,fun i s hs nb be d u H2 s2 ru hd=>?_⟩
 ·have nb:cM rl (fm hh rs)=false:=by
   cases c:cM rl (fm hh rs) with
   | false=>rfl
   | true=>exact absurd (all _ (List.mem_of_getElem? (jF am h1))) (ku ok c)
  exact k nb u H2 (fun b o nb e=>s2 _ _ (sT b o nb e)) (iB s2 tb1) ru
 ·have hb:cM rl (fm hh rs)=true:=by
   cases c:cM rl (fm hh rs) with
   | true=>rfl
   | false=>exact absurd (ir ok am h1 h9 c s (List.mem_of_getElem? hs)) nb
  have i0:i=0:=by
   rcases Nat.eq_zero_or_pos i with z | z
   ·exact z
   ·exact absurd (be 0 _ z (jF am h1)) (ku ok hb)
  rw [i0,jF am h1] at hs
  cases hs
  exact ke hb d u H2 (fun b o nb e=>s2 _ _ (sT b o nb e)) (iB s2 tb1) ru hd
theorem Dq (T:eE K mg t) (hB:base.BuiltinsAt mg t.c_LT):bB P w K mg base (nP P w) 8 t.a_Q7 t.d_Q7 ["rule", "hands", "plan"] (jg K t.c_Q34 t.c_LT):=by
 refine B.Fun.okD T.F_Q7 C0 (fun vs H Q E h=>?_) (fun cdv A outer s H vs Q E hr h=>?_)
 ·obtain⟨_,_,_,_,_,rfl,_⟩:=h;rfl
 obtain⟨v,rl,hh,w,pl,rfl,hv,ok,rt,⟨p,xs,rfl,hp,al⟩,pk,h1,h9,tb,k,ke⟩:=h
 refine cY.ok (ak (aE (bF (oE T) hr T.m_Q48 T.F_Q48.kp T.b_Q48 (ac (ko (N':=["pieces", "rule", "hands"]) (src:=[none,some 0,some 1]) rfl (by exact (gf (qv 2))) (fun _ _ _ _ _=>(by exact (by exact aL (i:=0) (by show List.Nodup (["pieces", "rule", "hands"]:List Str);decide +kernel) (by exact rfl) (by first | exact Or.inl rfl | exact Or.inr rfl)))) (fun _ _ _ _ _=>cP) (fun _ _ _ _ _ _ hq=>(by exact (by exact (bI (zj T hB) (by exact hr.mono (by decide)) (by exact rfl) T.m_Q9 T.F_Q9.kp T.b_Q9 (by exact .nil) (by exact zi hq) (ac (by exact (qv 1)) (ac (by exact (qv 2)) (ac (by exact (cc (eD (K:=K) (by exact rfl)) (by exact rfl) T.z_tuple boot_tuple (ac (by exact (dg (N':=["piece"]) (src:=[none]) (by exact rfl) (by exact (pJ (K:=K) (by exact rfl) (by exact (qv 0)))) (by exact fun _ _ _ _ _=>(by exact (by exact aL (i:=0) (by show List.Nodup (["piece"]:List Str);decide +kernel) (by exact rfl) (by first | exact Or.inl rfl | exact Or.inr rfl)))) (by exact fun _ _ _ _ _=>cP) (by exact fun _ _ _ _ _=>(by exact (by exact (gN (fM (K:=K) (by exact rfl)) (by exact (qv 0)) ah (by exact fun _ _=>rfl))))) (by exact trivial) (by exact rfl) (by decide +kernel) (by exact rfl) (by decide +kernel) (by exact bT rfl trivial))) ae dD))) ae aB) ad) ad))))) sk (by exact⟨rfl,rfl,rfl,rfl,⟨rfl,rfl,rfl,rfl,trivial⟩⟩) rfl (by decide +kernel) rfl (by decide +kernel) (by exact bT rfl ⟨rfl,⟨rfl,trivial⟩⟩)) ae dD)))) ?_
 extract_lets +lift
 try dsimp -zeta -zetaDelta only [Cx.nox,Cx.wish,bw]
 have hlen:=al.len
 have l24:=pk.len
 have nT:∀ {X:Addr},H X=none->X≠t.c_LT:=fun {X} hX z=>by
  obtain⟨ps,e⟩:=TB.tbl tb
  rw [← z,hX] at e
  cases e
 refine⟨_,rfl,p,rfl,⟨_,hp⟩,fun D hD=>⟨fun i m ys H'=>i≤pl.length/\m=pl.length - i/\ys.length=i/\cN t.c_LT H H'/\TB H' t.c_LT/\H' D=some (.lst ys)/\bG (RV K H') ys ((pl.take i).map fun c=>xh rl hh (l7 c))/\∀ (j:Nat) (z:List Pc),j < i->pl[j]?=some z->cM rl (fm hh (l7 z))=false,⟨_,Nat.zero_le _,rfl,rfl,fun b o _ e=>ai hD _ _ _ e,iB (ai hD _) tb,ag,.nil,fun j z hj=>absurd hj (Nat.not_lt_zero j)⟩,?_⟩⟩
 rintro i m ys H1 ⟨hi,rfl,hyl,s1,tb1,hD1,al1,bel⟩
 have t1:=dt (K:=K) s1 tb
 have hp1:=t1 _ _ hp
 by_cases hix:i < pl.length
 ·obtain⟨x,hx⟩:∃ x,xs[i]?=some x:=⟨_,List.getElem?_eq_getElem (by omega)⟩
  refine .inr ⟨⟨xs,x,hp1,hx⟩,?_⟩
  rintro x' H2 ⟨rfl,hy⟩
  have hx':=hy _ hp1
  rw [hx] at hx'
  cases hx'
  obtain⟨c,hc,pq,yq,rfl,hpq,aq⟩:=al.at hx
  have ams:=pk.ok c (List.mem_of_getElem? hc)
  have lc:=ams.len
  unfold l7 at lc
  rw [List.length_map] at lc
  refine⟨hZ.set rfl,_,rfl,_,rfl,_,rfl,pq,rfl,⟨_,t1 _ _ hpq⟩,fun D3 hD3=>iw (K:=K) (P:=RV K) (ds:=c) (f:=fun q=>q.2) (fun _ _ _ _ t z=>z.mono t) hD3 (t1 _ _ hpq) aq.len (by omega) (fun j y q H3 hy hq sm2 Rk2 E2 kR2=>?_) fun HB qs sB hqB aqB=>?_⟩
  ·obtain⟨q',hq',pc_,rv_,rfl,hpc,rrv⟩:=aq.at hy
   rw [hq] at hq'
   cases hq'
   have t'':=t1.trans (ax.same (K:=K) sm2)
   exact⟨hZ.set rfl,_,rfl,pc_,_,_,_,rfl,rfl,t'' _ _ hpc,rfl,kR2 _ _ (aS.refl _) (rrv.mono t'')⟩
  refine⟨D3,qs,rfl,.inl ⟨aR.of hqB,fun l hl=>?_⟩⟩
  have sl:=ai hl (.tup qs)
  have sBl:=sB.trans sl
  have tl:=ax.same (K:=K) sBl
  refine⟨v,rl,hh,l,qs,l7 c,rfl,(hv.mono t1).mono tl,ok,rt,bo.of ag,aqB.mono fun _ _ z=>z.mono (ax.same sl),ams,h1,h9,iB sBl tb1,fun nb u H3 s3 tb3 r3=>?_,fun be d u H3 s3 tb3 ru hd=>ke i c hc be bel d u H3 (fun b o nb e=>s3 b o nb (sBl _ _ (s1 b o nb e))) tb3 ru hd⟩
  have t3:=dt (K:=K) s3 (iB sBl tb1)
  have al3:=(al1.mono fun _ _ z=>z.mono (tl.trans t3)).snoc r3
  have hD3':=s3 _ _ (nT hD) (sBl _ _ hD1)
  refine⟨hD3',aV (by omega),pl.length - (i+1),by omega,hix,rfl,by rw [List.length_append,hyl];rfl,?_,?_,ag,?_,?_⟩
  ·exact fun b o nb q=>by
    rw [av (aA q hD)]
    exact s3 b o nb (sBl _ _ (s1 b o nb q))
  ·rcases tb3 with e | ⟨c',o',vs,tt,g1,g2,g3⟩
   ·exact .inl (by rw [av (Ne.symm (nT hD))];exact e)
   ·exact .inr ⟨c',o',vs,tt,by rw [av (Ne.symm (nT hD))];exact g1,by rw [av (fun z=>by rw [z,hD3'] at g2;cases g2)];exact g2,g3⟩
  ·rw [List.take_add_one,hc,List.map_append]
   exact al3.mono fun _ _ z=>z.mono (ax.up (K:=K) hD3' _)
  ·intro j z hj hz
   by_cases e:j=i
   ·rw [e,hc] at hz;cases hz;exact nb
   ·exact bel j z (by omega) hz
 ·have e2:i=pl.length:=by omega
  subst e2
  have all:∀ c∈pl,cM rl (fm hh (l7 c))=false:=fun s hs=>by
   obtain⟨j,hj⟩:=List.getElem?_of_mem hs
   exact bel j s (List.getElem?_eq_some_iff.mp hj).1 hj
  rw [List.take_length] at al1
  refine .inl ⟨⟨_,hp1,by omega⟩,?_⟩
  refine⟨D,ys,pl.map (fun c=>xh rl hh (l7 c)),260,16500877357173888629751223333757772330952457491316736000000000000,rfl,.inl (aR.of hD1),lW al1,(fun r hr=>?_),by decide,by decide,(by rw [List.length_map];omega),by decide,fun v' H' s' rv=>k all v' H' (fun b o nb e=>s' _ _ (s1 b o nb e)) (iB s' tb1) (by unfold fR;rw [List.map_map];exact rv)⟩
  obtain⟨s,hs,rfl⟩:=List.mem_map.mp hr
  have b:=lE ok rt (pk.ok s hs) h1 h9 (all s hs)
  exact⟨b.wf (by decide) (by decide) (by decide),b.dvd⟩
theorem vd (T:eE K mg t):bB P w K mg base dk 3 t.a_Q33 t.d_Q33 ["_law_some"] (nX K):=by
 refine T.F_Q33.ok fC (fun vs H Q E h=>?_) (fun cdv A outer s H vs Q E hr h=>?_)
 ·obtain⟨_,_,_,_,_,_,rfl,_⟩:=h;rfl
 obtain⟨a,xs,rs,D,N,n,rfl,hS,al,bq,h0,h1,h2,hl,hn,k⟩:=h
 refine cY.ok (af (bH 1 fC.nd (aN (ac ah (ac ah ae ap) ap)))
   (af (cz PassesOwn.never rfl (de (qv 0)) (aL (i:=2) fC.nd rfl (by first | exact Or.inl rfl | exact Or.inr rfl))
   (ak (bH 1 fC.nd (bF (dI T) hr T.m_Q31 T.F_Q31.kp T.b_Q31 (ac (qv 1) (ac (qv 2) ae ad) ad)))))
   (ak (aE (qv 1))))) ?_
 extract_lets +lift
 try dsimp -zeta -zetaDelta only [Cx.nox,Cx.wish,bw]
 have hlen:=al.len
 refine⟨dU,fun p0 hp0=>?_⟩
 have s0:=ai hp0 (.tup [.int 0,.int 1])
 refine⟨_,rfl,a,rfl,⟨_,s0.seq hS⟩,eV (K:=K) (a:=a) (xs:=xs) (fun i σ H'=>∃ (u:V) (x3:Option V),σ=[some (.ref a),some u,x3]/\aS H H'/\RV K H' u (bR (rs.take i))) ⟨_,none,rfl,s0,RV.of ag⟩ (fun i σ H1 _ ⟨_,_,_,s1,_⟩=>s1.seq hS) ?_ ?_⟩
 ·rintro i y σ H1 hi ⟨u,x3,rfl,s1,ru⟩
  obtain⟨r,hr,rv⟩:=al.at hi
  have wr:=wg (bq r (List.mem_of_getElem? hr)) h0 h1 h2
  have wu:Wf n (bR (rs.take i)):=pD (fun z hz=>bq z (List.mem_of_mem_take hz)) h0 h1 h2 (by rw [List.length_take];omega)
  have e:bR (rs.take (i+1))=aQ (bR (rs.take i)) r:=by
   unfold bR
   rw [List.take_add_one,hr,List.foldl_append]
   rfl
  refine⟨_,rfl,_,rfl,u,y,bR (rs.take i),r,n,n,rfl,ru,rv.mono (ax.same s1),wu,wr,by omega,fun p hp=>?_⟩
  have s2:=ai hp (.tup [.int (aQ (bR (rs.take i)) r).1,.int (aQ (bR (rs.take i)) r).2])
  refine⟨_,_,rfl,s1.trans s2,?_⟩
  rw [e];exact RV.of ag
 ·rintro σ H1 ⟨u,x3,rfl,s1,ru⟩
  rw [hlen,List.take_length] at ru
  exact⟨_,rfl,k u H1 s1 ru⟩
theorem Bm (T:eE K mg t):bB P w K mg base dk 3 t.a_Q27 t.d_Q27 ["_law_tape_here", "_law_kinks", "_law_most"] (mG K):=by
 refine T.F_Q27.ok dH (fun vs H Q E h=>?_) (fun cdv A outer s H vs Q E hr h=>?_)
 ·obtain⟨_,_,_,_,_,_,_,rfl,_⟩:=h;rfl
 obtain⟨t₁,s₁,kl,xk,v,ks,rm,rfl,tp,nD,hkl,alk,hks,k4,rvm,hkm,hm0,k⟩:=h
 refine cY.ok (af (bH 3 dH.nd (bF (bA T) hr T.m_Q24 T.F_Q24.kp T.b_Q24 (ac (qv 0) (ac ah ae ap) ad)))
   (af (bg (aK kq (qv 3) ah (aJ _)) (ak (aE (aN (ac lD (ac (aG bJ ah (qv 3)) ae ba) ap)))) aI)
   (af (bH 4 dH.nd (aG ju (fE iP (bD (ac (aN (ac ah (ac ah ae ap) ap)) (ac (aN (ac ah (ac ah ae ap) ap)) (ac (aN (ac ah (ac ah ae ap) ap)) (ac (aN (ac ah (ac ah ae ap) ap)) (ac (aN (ac ah (ac ah ae ap) ap)) ae aO) aO) aO) aO) aO)) gM (gL (bF (bA T) hr T.m_Q24 T.F_Q24.kp T.b_Q24 (ac (qv 0) (ac ah ae ap) ad)))) (fE iP (cc gZ (by rfl) T.z_list boot_list (ac (qv 1) ae ad)) gM (gL (bF (bA T) hr T.m_Q24 T.F_Q24.kp T.b_Q24 (ac (qv 0) (ac ah ae ap) ad))))))
   (af (iQ (i:=4) (N':=["_law_speed", "_law_most"]) (src:=[none,some 2]) dH.nd rfl (by first | exact Or.inl rfl | exact Or.inr rfl) rfl (by exact (de (qv 4))) (fun _ _ _ _ _=>(by exact (by exact aL (i:=0) (by show List.Nodup (["_law_speed", "_law_most"]:List Str);decide +kernel) (by exact rfl) (by first | exact Or.inl rfl | exact Or.inr rfl)))) (fun _ _ _ _ _=>(lx (fS (jp (bE (by exact (bI (gs T) (by exact hr.mono (by decide)) (by exact rfl) T.m_Q26 T.F_Q26.kp T.b_Q26 (by exact .nil) (by exact ef) (ac (by exact (aN (ac ah (ac ah ae ap) ap))) (ac (by exact (qv 0)) ae ad) aO)))) (gK (bE (by exact (bI (gs T) (by exact hr.mono (by decide)) (by exact rfl) T.m_Q26 T.F_Q26.kp T.b_Q26 (by exact .nil) (by exact ef) (ac (by exact (qv 0)) (ac (by exact (qv 1)) ae ad) ad))))))))) (fun _ _ _ _ _=>(by exact (by exact (qv 0)))) (by exact⟨rfl,rfl,rfl,rfl,trivial⟩) rfl (by decide +kernel) rfl (by decide +kernel) (by exact bT rfl ⟨rfl,trivial⟩))
   (af (bH 5 dH.nd (bv bj (bD (ac (qv 2) (ac (bF (dI T) hr T.m_Q31 T.F_Q31.kp T.b_Q31 (ac (qv 2) (ac (aN (ac ah (ac (aG bJ ah (bF (bA T) hr T.m_Q24 T.F_Q24.kp T.b_Q24 (ac (qv 0) (ac ah ae ap) ad))) ae ba) ap)) ae aO) ad)) ae aB) ad)) (bF (bA T) hr T.m_Q24 T.F_Q24.kp T.b_Q24 (ac (qv 0) (ac ah ae ap) ad))))
   (af (oo (bg (aK (u8 hr) (qv 5) (aN (ac ah (ac ah ae ap) ap)) (aJ _)) (ak (bH 5 dH.nd (aN (ac ah (ac ah ae ap) ap)))) aI))
   (af (bH 6 dH.nd (bv bj (bD (ac (aN (ac ah (ac ah ae ap) ap)) (ac (aN (ac ah (ac ah ae ap) ap)) (ac (aN (ac ah (ac ah ae ap) ap)) ae aO) aO) aO)) (bF (bA T) hr T.m_Q24 T.F_Q24.kp T.b_Q24 (ac (qv 0) (ac ah ae ap) ad))))
   (af (bH 7 dH.nd (bF (gt T) hr T.m_Q25 T.F_Q25.kp T.b_Q25 (ac (aG bJ ah (bF (bA T) hr T.m_Q24 T.F_Q24.kp T.b_Q24 (ac (qv 0) (ac ah ae ap) ad))) (ac (aG bJ ah (bF (bA T) hr T.m_Q24 T.F_Q24.kp T.b_Q24 (ac (qv 0) (ac ah ae ap) ad))) ae ba) ba)))
   (af (bH 8 dH.nd (bD (ac (aN (ac (aN (ac ah (ac ah ae ap) ap)) (ac (qv 6) ae ad) aO)) ae aO)))
   (af (cz PassesOwn.never rfl (de (aG ju (bF (Bx T) hr T.m_Q10 T.F_Q10.kp T.b_Q10 (ac (qv 4) ae ad)) (bD (ac (qv 5) ae ad)))) (aL (i:=9) dH.nd rfl (by first | exact Or.inl rfl | exact Or.inr rfl))
   (af (bH 10 dH.nd (bF (dI T) hr T.m_Q31 T.F_Q31.kp T.b_Q31 (ac (qv 9) (ac (aN (ac (fu dG (bv ar (bv ar (bv bj (qv 8) (fu dG ah)) ah) ah)) (ac (bv ar (bv ar (bv bj (qv 8) (fu dG ah)) ah) ah) ae aF) gH)) ae aO) ad)))
   (af (fc (jq PySem.F.plainAttrs_list PySem.F.slot_list_append PySem.F.type_list_append dz (qv 8) (ac (aN (ac (qv 9) (ac (bF (dI T) hr T.m_Q31 T.F_Q31.kp T.b_Q31 (ac (bv ar (bv bj (qv 8) (fu dG ah)) ah) (ac (bF (im T) hr T.m_Q32 T.F_Q32.kp T.b_Q32 (ac (qv 7) (ac (qv 10) ae ad) ad)) ae aB) aF)) ae aB) ad)) ae aO)))
   (ak (bH 7 dH.nd (bF (dI T) hr T.m_Q31 T.F_Q31.kp T.b_Q31 (ac (qv 7) (ac (bF (gt T) hr T.m_Q25 T.F_Q25.kp T.b_Q25 (ac (bF (bA T) hr T.m_Q24 T.F_Q24.kp T.b_Q24 (ac (qv 0) (ac ah ae ap) ad)) (ac (aG bJ ah (bF (bA T) hr T.m_Q24 T.F_Q24.kp T.b_Q24 (ac (qv 0) (ac ah ae ap) ad))) ae ba) aB)) ae aB) ad)))))))
   (ak (aE (aN (ac lD (ac (cc cy (by rfl) T.z_tuple boot_tuple (ac (qv 8) ae ad)) ae aB) ap)))))))))))))) ?_
 extract_lets +lift
 try dsimp -zeta -zetaDelta only [Cx.nox,Cx.wish,bw]
 have hd_:∃ ys,H kl=some (.lst ys):=⟨_,hkl⟩
 have tp0:=tp.lst
 have S0:aX t₁ H H:=⟨fun _ _ _ q=>q,tp.lst,tp.lst⟩
 refine⟨_,rfl,t₁,s₁,6,rfl,tp,by decide,by decide,fun ru1 zu1 au1 bu1 Tu1=>?_⟩
 have Su1:=aX.up (ys:=zu1) tp.lst.choose_spec
 replace S0:=S0.trans Su1
 replace hd_:=hd_.imp fun _ q=>Su1.keep _ _ nD q
 replace hkl:=Su1.keep _ _ nD hkl
 replace alk:=aT Su1 alk
 replace rvm:=rvm.mono (ax.step (K:=K) Su1)
 replace tp:=Tu1
 clear Tu1 Su1
 generalize upd H t₁ (.lst zu1)=Hu1 at S0 tp hd_ hkl alk rvm ⊢
 refine⟨_,rfl,_,_,rfl,rfl,_,rfl,rA (fun cw=>?_) (fun cw=>?_)⟩
 ·refine⟨_,rfl,_,_,rfl,rfl,dU,fun p0 hp0=>?_⟩
  have s0:=ai hp0 (.tup [.str (Str.ofString "power"),.int (2+ru1)])
  have c3:=of_decide_eq_true cw
  exact k (.ref p0) (.pow (2+ru1)) _ (S0.trans (.same s0 tp.lst)) (tp.same s0) ⟨p0,rfl,bo.of ag⟩ ⟨by omega,by omega⟩ trivial
 refine⟨dU,fun pu2 gu2=>?_⟩
 generalize hG:upd Hu1 pu2 (.tup [.int 1,.int 2])=Hu2
 obtain⟨eu2,hu2,du2⟩:=jw hG gu2 tp.lst hd_
 obtain⟨S0,tp,hd_⟩:=iL eu2 S0 tp hd_
 replace hkl:=eu2 _ _ hkl
 replace alk:=aM eu2 alk
 replace rvm:=rvm.mono (ax.same eu2)
 have rf0:RV K Hu2 (.ref pu2) (1,2):=RV.of hu2
 clear eu2 hu2 du2 hG
 refine⟨dU,fun pu3 gu3=>?_⟩
 generalize hG:upd Hu2 pu3 (.tup [.int 1,.int 1])=Hu3
 obtain⟨eu3,hu3,du3⟩:=jw hG gu3 tp.lst hd_
 obtain⟨S0,tp,hd_⟩:=iL eu3 S0 tp hd_
 replace hkl:=eu3 _ _ hkl
 replace alk:=aM eu3 alk
 replace rvm:=rvm.mono (ax.same eu3)
 replace rf0:=rf0.mono (ax.same eu3)
 have rf1:RV K Hu3 (.ref pu3) (1,1):=RV.of hu3
 clear eu3 hu3 du3 hG
 refine⟨dU,fun pu4 gu4=>?_⟩
 generalize hG:upd Hu3 pu4 (.tup [.int 2,.int 1])=Hu4
 obtain⟨eu4,hu4,du4⟩:=jw hG gu4 tp.lst hd_
 obtain⟨S0,tp,hd_⟩:=iL eu4 S0 tp hd_
 replace hkl:=eu4 _ _ hkl
 replace alk:=aM eu4 alk
 replace rvm:=rvm.mono (ax.same eu4)
 replace rf0:=rf0.mono (ax.same eu4)
 replace rf1:=rf1.mono (ax.same eu4)
 have rf2:RV K Hu4 (.ref pu4) (2,1):=RV.of hu4
 clear eu4 hu4 du4 hG
 refine⟨dU,fun pu5 gu5=>?_⟩
 generalize hG:upd Hu4 pu5 (.tup [.int 7,.int 3])=Hu5
 obtain⟨eu5,hu5,du5⟩:=jw hG gu5 tp.lst hd_
 obtain⟨S0,tp,hd_⟩:=iL eu5 S0 tp hd_
 replace hkl:=eu5 _ _ hkl
 replace alk:=aM eu5 alk
 replace rvm:=rvm.mono (ax.same eu5)
 replace rf0:=rf0.mono (ax.same eu5)
 replace rf1:=rf1.mono (ax.same eu5)
 replace rf2:=rf2.mono (ax.same eu5)
 have rf3:RV K Hu5 (.ref pu5) (7,3):=RV.of hu5
 clear eu5 hu5 du5 hG
 refine⟨dU,fun pu6 gu6=>?_⟩
 generalize hG:upd Hu5 pu6 (.tup [.int 5,.int 1])=Hu6
 obtain⟨eu6,hu6,du6⟩:=jw hG gu6 tp.lst hd_
 obtain⟨S0,tp,hd_⟩:=iL eu6 S0 tp hd_
 replace hkl:=eu6 _ _ hkl
 replace alk:=aM eu6 alk
 replace rvm:=rvm.mono (ax.same eu6)
 replace rf0:=rf0.mono (ax.same eu6)
 replace rf1:=rf1.mono (ax.same eu6)
 replace rf2:=rf2.mono (ax.same eu6)
 replace rf3:=rf3.mono (ax.same eu6)
 have rf4:RV K Hu6 (.ref pu6) (5,1):=RV.of hu6
 clear eu6 hu6 du6 hG
 refine⟨FF,fun pu7 gu7=>?_⟩
 generalize hG:upd Hu6 pu7 (.lst [V.ref pu2,V.ref pu3,V.ref pu4,V.ref pu5,V.ref pu6])=Hu7
 obtain⟨eu7,hu7,du7⟩:=jw hG gu7 tp.lst hd_
 have nu7:=rW gu7 tp.lst
 obtain⟨S0,tp,hd_⟩:=iL eu7 S0 tp hd_
 replace hkl:=eu7 _ _ hkl
 replace alk:=aM eu7 alk
 replace rvm:=rvm.mono (ax.same eu7)
 replace rf0:=rf0.mono (ax.same eu7)
 replace rf1:=rf1.mono (ax.same eu7)
 replace rf2:=rf2.mono (ax.same eu7)
 replace rf3:=rf3.mono (ax.same eu7)
 replace rf4:=rf4.mono (ax.same eu7)
 have ls1:=hu7
 have al1:bG (RV K Hu7) ([V.ref pu2,V.ref pu3,V.ref pu4,V.ref pu5,V.ref pu6]:List V) [(1,2),(1,1),(2,1),(7,3),(5,1)]:=(.cons rf0 (.cons rf1 (.cons rf2 (.cons rf3 (.cons rf4 .nil)))))
 clear eu7 hu7 du7 hG
 refine⟨_,rfl,t₁,s₁,6,rfl,tp,by decide,by decide,fun ru8 zu8 au8 bu8 Tu8=>?_⟩
 have Su8:=aX.up (ys:=zu8) tp.lst.choose_spec
 replace S0:=S0.trans Su8
 replace hd_:=hd_.imp fun _ q=>Su8.keep _ _ nD q
 replace hkl:=Su8.keep _ _ nD hkl
 replace alk:=aT Su8 alk
 replace rvm:=rvm.mono (ax.step (K:=K) Su8)
 replace ls1:=Su8.keep _ _ nu7 ls1
 replace al1:=aT Su8 al1
 replace tp:=Tu8
 clear Tu8 Su8
 generalize upd Hu7 t₁ (.lst zu8)=Hu8 at S0 tp hd_ hkl alk rvm ls1 al1 ⊢
 obtain⟨n1,rfl⟩:=Int.eq_ofNat_of_zero_le au8
 refine⟨_,rfl,pu7,_,rfl,aR.of ls1,fun pu9 gu9=>?_⟩
 generalize hG:upd Hu8 pu9 (.lst (fy ([V.ref pu2,V.ref pu3,V.ref pu4,V.ref pu5,V.ref pu6]:List V) none (some ((n1:Nat):Int))))=Hu9
 obtain⟨eu9,hu9,du9⟩:=jw hG gu9 tp.lst hd_
 have nu9:=rW gu9 tp.lst
 obtain⟨S0,tp,hd_⟩:=iL eu9 S0 tp hd_
 replace hkl:=eu9 _ _ hkl
 replace alk:=aM eu9 alk
 replace rvm:=rvm.mono (ax.same eu9)
 replace ls1:=eu9 _ _ ls1
 replace al1:=aM eu9 al1
 have ls2:Hu9 pu9=some (.lst (([V.ref pu2,V.ref pu3,V.ref pu4,V.ref pu5,V.ref pu6]:List V).take n1)):=(by have z:=hu9;rw [qj] at z;exact z)
 have al2:bG (RV K Hu9) (([V.ref pu2,V.ref pu3,V.ref pu4,V.ref pu5,V.ref pu6]:List V).take n1) (([(1,2),(1,1),(2,1),(7,3),(5,1)]:List R).take n1):=bG.take n1 al1
 clear eu9 hu9 du9 hG
 refine⟨_,rfl,kl,_,rfl,.inl (aR.of hkl),fun pu10 gu10=>?_⟩
 generalize hG:upd Hu9 pu10 (.lst xk)=Hu10
 obtain⟨eu10,hu10,du10⟩:=jw hG gu10 tp.lst hd_
 have nu10:=rW gu10 tp.lst
 obtain⟨S0,tp,hd_⟩:=iL eu10 S0 tp hd_
 replace hkl:=eu10 _ _ hkl
 replace alk:=aM eu10 alk
 replace rvm:=rvm.mono (ax.same eu10)
 replace ls2:=eu10 _ _ ls2
 replace al2:=aM eu10 al2
 have ls3:=hu10
 clear eu10 hu10 du10 hG
 refine⟨_,rfl,t₁,s₁,5,rfl,tp,by decide,by decide,fun ru11 zu11 au11 bu11 Tu11=>?_⟩
 have Su11:=aX.up (ys:=zu11) tp.lst.choose_spec
 replace S0:=S0.trans Su11
 replace hd_:=hd_.imp fun _ q=>Su11.keep _ _ nD q
 replace hkl:=Su11.keep _ _ nD hkl
 replace alk:=aT Su11 alk
 replace rvm:=rvm.mono (ax.step (K:=K) Su11)
 replace ls2:=Su11.keep _ _ nu9 ls2
 replace al2:=aT Su11 al2
 replace ls3:=Su11.keep _ _ nu10 ls3
 replace tp:=Tu11
 clear Tu11 Su11
 generalize upd Hu10 t₁ (.lst zu11)=Hu11 at S0 tp hd_ hkl alk rvm ls2 al2 ls3 ⊢
 obtain⟨n2,rfl⟩:=Int.eq_ofNat_of_zero_le au11
 refine⟨_,rfl,pu10,_,rfl,aR.of ls3,fun pu12 gu12=>?_⟩
 generalize hG:upd Hu11 pu12 (.lst (fy xk none (some ((n2:Nat):Int))))=Hu12
 obtain⟨eu12,hu12,du12⟩:=jw hG gu12 tp.lst hd_
 have nu12:=rW gu12 tp.lst
 obtain⟨S0,tp,hd_⟩:=iL eu12 S0 tp hd_
 replace hkl:=eu12 _ _ hkl
 replace alk:=aM eu12 alk
 replace rvm:=rvm.mono (ax.same eu12)
 replace ls2:=eu12 _ _ ls2
 replace al2:=aM eu12 al2
 replace ls3:=eu12 _ _ ls3
 have ls4:Hu12 pu12=some (.lst (xk.take n2)):=(by have z:=hu12;rw [qj] at z;exact z)
 have al4:bG (RV K Hu12) (xk.take n2) (ks.take n2):=bG.take n2 alk
 clear eu12 hu12 du12 hG
 refine⟨pu9,pu12,_,_,rfl,rfl,ls2,ls4,Nat.le_trans (show _≤1000 by first | omega | (simp <;> omega)) i5,fun pu13 gu13=>?_⟩
 generalize hG:upd Hu12 pu13 (.lst (([V.ref pu2,V.ref pu3,V.ref pu4,V.ref pu5,V.ref pu6]:List V).take n1++xk.take n2))=Hu13
 obtain⟨eu13,hu13,du13⟩:=jw hG gu13 tp.lst hd_
 have nu13:=rW gu13 tp.lst
 obtain⟨S0,tp,hd_⟩:=iL eu13 S0 tp hd_
 replace hkl:=eu13 _ _ hkl
 replace rvm:=rvm.mono (ax.same eu13)
 replace ls2:=eu13 _ _ ls2
 replace al2:=aM eu13 al2
 replace ls4:=eu13 _ _ ls4
 replace al4:=aM eu13 al4
 have ls5:=hu13
 have al5:bG (RV K Hu13) (([V.ref pu2,V.ref pu3,V.ref pu4,V.ref pu5,V.ref pu6]:List V).take n1++xk.take n2) (([(1,2),(1,1),(2,1),(7,3),(5,1)]:List R).take n1++ks.take n2):=bG.join al2 al4
 clear eu13 hu13 du13 hG
 have kb5:∀ r∈(([(1,2),(1,1),(2,1),(7,3),(5,1)]:List R).take n1++ks.take n2),zI r:=fun r hr=>by
  rcases List.mem_append.mp hr with h | h
  ·have h:=List.mem_of_mem_take h
   simp only [List.mem_cons,List.not_mem_nil,or_false] at h
   rcases h with rfl | rfl | rfl | rfl | rfl
   ·exact jC (by decide) ⟨5666915846592000,by decide⟩ (by decide) (by decide)
   ·exact jC (by decide) ⟨11333831693184000,by decide⟩ (by decide) (by decide)
   ·exact jC (by decide) ⟨11333831693184000,by decide⟩ (by decide) (by decide)
   ·exact jC (by decide) ⟨3777943897728000,by decide⟩ (by decide) (by decide)
   ·exact jC (by decide) ⟨11333831693184000,by decide⟩ (by decide) (by decide)
  ·exact hks r (List.mem_of_mem_take h)
 have ln5:(([(1,2),(1,1),(2,1),(7,3),(5,1)]:List R).take n1++ks.take n2).length≤9:=by simp <;> omega
 generalize (([(1,2),(1,1),(2,1),(7,3),(5,1)]:List R).take n1++ks.take n2)=rs5 at al5 kb5 ln5
 have xl5:=al5.len
 generalize (([V.ref pu2,V.ref pu3,V.ref pu4,V.ref pu5,V.ref pu6]:List V).take n1++xk.take n2)=xs5 at ls5 al5 xl5
 refine⟨_,rfl,pu13,rfl,⟨_,aR.of ls5⟩,fun Dc hDc=>ix (K:=K) (P:=RV K) (p:=fun y=>aD (0,1) y && aD y rm) (fun _ _ _ _ t p=>p.mono t) hDc (aR.of ls5) al5 (by omega) (fun j x d H3 hx hd s3 pd R E kR kE=>?_) fun H6 ds s6 hD6 al6=>?_⟩
 ·have wd:=(kb5 d (List.mem_of_getElem? hd)).wf
  refine⟨hZ.set rfl,dU,fun pz hpz=>?_⟩
  have sz:=ai hpz (.tup [.int 0,.int 1])
  refine⟨_,rfl,.ref pz,x,(0,1),d,1,98,rfl,RV.of ag,pd.mono (ax.same sz),wF,wd,by decide,_,rfl,?_⟩
  cases c1:aD (0,1) d with
  | false=>exact cU (cU (kE _ sz (by show (aD (0,1) d && aD d rm)=false;rw [c1];rfl)))
  | true=>
   refine fj ⟨_,rfl,_,rfl,x,v,d,rm,98,98,rfl,pd.mono (ax.same sz),(rvm.mono (ax.same s3)).mono (ax.same sz),wd,hkm.wf,by decide,_,rfl,?_⟩
   cases c2:aD d rm with
   | false=>exact cU (kE _ sz (by show (aD (0,1) d && aD d rm)=false;rw [c1,c2];rfl))
   | true=>exact fj ⟨_,rfl,kR _ sz (by show (aD (0,1) d && aD d rm)=true;rw [c1,c2];rfl)⟩
 have nDc:=rW hDc tp.lst
 obtain⟨S0,tp,hd_⟩:=iL s6 S0 tp hd_
 replace hkl:=s6 _ _ hkl
 replace rvm:=rvm.mono (ax.same s6)
 refine⟨_,rfl,_,rfl,_,rfl,t₁,s₁,5,rfl,tp,by decide,by decide,fun ru14 zu14 au14 bu14 Tu14=>?_⟩
 have Su14:=aX.up (ys:=zu14) tp.lst.choose_spec
 replace S0:=S0.trans Su14
 replace hd_:=hd_.imp fun _ q=>Su14.keep _ _ nD q
 replace hkl:=Su14.keep _ _ nD hkl
 replace rvm:=rvm.mono (ax.step (K:=K) Su14)
 replace hD6:=Su14.keep _ _ nDc hD6
 replace al6:=aT Su14 al6
 replace tp:=Tu14
 clear Tu14 Su14
 generalize upd H6 t₁ (.lst zu14)=Hu14 at S0 tp hd_ hkl rvm hD6 al6 ⊢
 have wl1:Wf 98 ((1,1+ru14):R):=⟨by show 0 < 1+ru14;omega,by show (1:Int).natAbs < 2 ^ 98;decide,by show (1+ru14).natAbs < 2 ^ 98;omega,by show Int.gcd 1 (1+ru14)=1;simp⟩
 have bl1:Bq D0 1 ((1,1+ru14):R):=by
  have h:Bq D0 1 (cK 1 (1+ru14)):=by
   refine iI (by omega) ?_ (by omega)
   rcases (show ru14=0∨ru14=1∨ru14=2∨ru14=3∨ru14=4 by omega) with rfl | rfl | rfl | rfl | rfl
   ·exact⟨11333831693184000,by decide⟩
   ·exact⟨5666915846592000,by decide⟩
   ·exact⟨3777943897728000,by decide⟩
   ·exact⟨2833457923296000,by decide⟩
   ·exact⟨2266766338636800,by decide⟩
  rw [cG (x:=1) (y:=1+ru14) (by omega) (by omega) (by simp) rfl] at h
  exact h
 refine⟨_,_,rfl,rfl,dU,fun pu15 gu15=>?_⟩
 generalize hG:upd Hu14 pu15 (.tup [.int 1,.int (1+ru14)])=Hu15
 obtain⟨eu15,hu15,du15⟩:=jw hG gu15 tp.lst hd_
 obtain⟨S0,tp,hd_⟩:=iL eu15 S0 tp hd_
 replace hkl:=eu15 _ _ hkl
 replace rvm:=rvm.mono (ax.same eu15)
 replace hD6:=eu15 _ _ hD6
 replace al6:=aM eu15 al6
 have rl1:RV K Hu15 (.ref pu15) (1,1+ru14):=RV.of hu15
 clear eu15 hu15 du15 hG
 refine⟨v,.ref pu15,rm,(1,1+ru14),98,98,rfl,rvm,rl1,hkm.wf,wl1,by decide,fun pu16 gu16=>?_⟩
 generalize hG:upd Hu15 pu16 (.tup [.int (aQ rm (1,1+ru14)).1,.int (aQ rm (1,1+ru14)).2])=Hu16
 obtain⟨eu16,hu16,du16⟩:=jw hG gu16 tp.lst hd_
 obtain⟨S0,tp,hd_⟩:=iL eu16 S0 tp hd_
 replace hkl:=eu16 _ _ hkl
 replace rvm:=rvm.mono (ax.same eu16)
 replace hD6:=eu16 _ _ hD6
 replace al6:=aM eu16 al6
 replace rl1:=rl1.mono (ax.same eu16)
 have rl2:RV K Hu16 (.ref pu16) (aQ rm (1,1+ru14)):=RV.of hu16
 clear eu16 hu16 du16 hG
 refine⟨dU,fun pu17 gu17=>?_⟩
 generalize hG:upd Hu16 pu17 (.lst [v,V.ref pu16])=Hu17
 obtain⟨eu17,hu17,du17⟩:=jw hG gu17 tp.lst hd_
 have nu17:=rW gu17 tp.lst
 obtain⟨S0,tp,hd_⟩:=iL eu17 S0 tp hd_
 replace hkl:=eu17 _ _ hkl
 replace rvm:=rvm.mono (ax.same eu17)
 replace hD6:=eu17 _ _ hD6
 replace al6:=aM eu17 al6
 replace rl2:=rl2.mono (ax.same eu17)
 have ls7:=hu17
 clear eu17 hu17 du17 hG
 refine⟨_,rfl,t₁,s₁,2,rfl,tp,by decide,by decide,fun ru18 zu18 au18 bu18 Tu18=>?_⟩
 have Su18:=aX.up (ys:=zu18) tp.lst.choose_spec
 replace S0:=S0.trans Su18
 replace hd_:=hd_.imp fun _ q=>Su18.keep _ _ nD q
 replace hkl:=Su18.keep _ _ nD hkl
 replace rvm:=rvm.mono (ax.step (K:=K) Su18)
 replace hD6:=Su18.keep _ _ nDc hD6
 replace al6:=aT Su18 al6
 replace rl2:=rl2.mono (ax.step (K:=K) Su18)
 replace ls7:=Su18.keep _ _ nu17 ls7
 replace tp:=Tu18
 clear Tu18 Su18
 generalize upd Hu17 t₁ (.lst zu18)=Hu18 at S0 tp hd_ hkl rvm hD6 al6 rl2 ls7 ⊢
 obtain⟨vl,rl,hat,rvl,bl,nl0,ge⟩:∃ (vl:V) (rl:R),jN [v,V.ref pu16] ru18=some vl/\RV K Hu18 vl rl/\Bq D0 541 rl/\0≤rl.1/\aD rl rm=false:=by
  rcases (show ru18=0∨ru18=1 by omega) with rfl | rfl
  ·exact⟨v,rm,rfl,rvm,Bq.mono hkm ⟨1,by decide⟩ (by decide),hm0,ej.mpr (Int.le_refl _)⟩
  ·exact⟨_,_,rfl,rl2,Bq.plus (by decide) (Bq.mono hkm ⟨1,by decide⟩ (Nat.le_refl _)) bl1,pM (Bq.red hkm) (Bq.red bl1) hm0 (by show (0:Int)≤1;decide),dX (rh (Bq.red hkm) (Bq.red bl1) (by show (0:Int) < 1;decide))⟩
 refine⟨pu17,_,_,_,rfl,rfl,aR.of ls7,hat,?_⟩
 refine⟨fun σ H'=>∃ (vl:V) (rl:R),σ=[some (.ref t₁),some (.ref kl),some v,some (.int ru1),some (.ref Dc),some vl,none,none,none,none,none]/\aX t₁ Hu18 H'/\bx K H' t₁ s₁/\RV K H' vl rl/\Bq D0 541 rl/\0 < rl.1/\∀ r:R,0 < r.2->aD (0,1) r=true->aD r rm=true->aD r rl=true,?_,?_⟩
 ·refine⟨_,rfl,dU,fun pz hpz=>?_⟩
  have sz:=ai hpz (.tup [.int 0,.int 1])
  refine⟨dR rl,dR (0,1),(rvl.mono (ax.same sz)).deep,(RV.of (K:=K) ag).deep,iu _,iu _,(by show max 0 (max 0 0)+1≤32;decide),_,rfl,?_⟩
  have Sz:aX t₁ Hu18 (upd Hu18 pz (.tup [.int 0,.int 1])):=aX.same sz tp.lst
  have Tz:=tp.same sz
  have rvz:=rvl.mono (ax.same sz)
  generalize upd Hu18 pz (.tup [.int 0,.int 1])=HZ at Sz Tz rvz ⊢
  by_cases ez:rl=(0,1)
  ·refine DC (by rw [ez];exact gW _) ?_
   refine⟨dU,fun py hpy=>?_⟩
   have sy:=ai hpy (.tup [.int 1,.int 1])
   refine⟨.ref py,(1,1),rfl,Sz.trans (.same sy Tz.lst),Tz.same sy,RV.of ag,⟨by decide,by decide,⟨11333831693184000,by decide⟩,by decide⟩,by decide,fun r p1 h1 h2=>?_⟩
   rw [ez] at ge
   have h3:=vv p1 (Bq.red hkm).pos (show (0:Int) < ((0,1):R).2 by decide) h2 ge
   rw [dX h1] at h3
   cases h3
  ·refine vH (by cases zz:PyData.eqv (dR rl) (dR (0,1)) with | false=>rfl | true=>exact absurd (vY zz) ez) ?_
   refine⟨vl,rl,rfl,Sz,Tz,rvz,bl,?_,fun r p1 h1 h2=>vv p1 (Bq.red hkm).pos bl.pos h2 ge⟩
   rcases (show rl.1=0∨0 < rl.1 by omega) with q | q
   ·exfalso
    apply ez
    obtain⟨ra,rb⟩:=rl
    have q':ra=0:=q
    subst q'
    have c':Int.gcd 0 rb=1:=bl.cop
    have p':0 < rb:=bl.pos
    rw [Int.gcd_zero_left] at c'
    have:rb=1:=by omega
    rw [this]
   ·exact q
 rintro σ H7 ⟨vl,rl,rfl,Sc,Tc,rvl,bl,pos,ge⟩
 replace hd_:=hd_.imp fun _ q=>Sc.keep _ _ nD q
 replace hkl:=Sc.keep _ _ nD hkl
 replace rvm:=rvm.mono (ax.step (K:=K) Sc)
 replace hD6:=Sc.keep _ _ nDc hD6
 replace al6:=aT Sc al6
 replace S0:=S0.trans Sc
 replace tp:=Tc
 clear Tc Sc
 refine⟨dU,fun pu19 gu19=>?_⟩
 generalize hG:upd H7 pu19 (.tup [.int 0,.int 1])=Hu19
 obtain⟨eu19,hu19,du19⟩:=jw hG gu19 tp.lst hd_
 obtain⟨S0,tp,hd_⟩:=iL eu19 S0 tp hd_
 replace hkl:=eu19 _ _ hkl
 replace rvm:=rvm.mono (ax.same eu19)
 replace hD6:=eu19 _ _ hD6
 replace al6:=aM eu19 al6
 replace rvl:=rvl.mono (ax.same eu19)
 have rp0:RV K Hu19 (.ref pu19) (0,1):=RV.of hu19
 clear eu19 hu19 du19 hG
 refine⟨dU,fun pu20 gu20=>?_⟩
 generalize hG:upd Hu19 pu20 (.tup [.int 1,.int 3])=Hu20
 obtain⟨eu20,hu20,du20⟩:=jw hG gu20 tp.lst hd_
 obtain⟨S0,tp,hd_⟩:=iL eu20 S0 tp hd_
 replace hkl:=eu20 _ _ hkl
 replace rvm:=rvm.mono (ax.same eu20)
 replace hD6:=eu20 _ _ hD6
 replace al6:=aM eu20 al6
 replace rvl:=rvl.mono (ax.same eu20)
 replace rp0:=rp0.mono (ax.same eu20)
 have rp1:RV K Hu20 (.ref pu20) (1,3):=RV.of hu20
 clear eu20 hu20 du20 hG
 refine⟨dU,fun pu21 gu21=>?_⟩
 generalize hG:upd Hu20 pu21 (.tup [.int 2,.int 1])=Hu21
 obtain⟨eu21,hu21,du21⟩:=jw hG gu21 tp.lst hd_
 obtain⟨S0,tp,hd_⟩:=iL eu21 S0 tp hd_
 replace hkl:=eu21 _ _ hkl
 replace rvm:=rvm.mono (ax.same eu21)
 replace hD6:=eu21 _ _ hD6
 replace al6:=aM eu21 al6
 replace rvl:=rvl.mono (ax.same eu21)
 replace rp0:=rp0.mono (ax.same eu21)
 replace rp1:=rp1.mono (ax.same eu21)
 have rp2:RV K Hu21 (.ref pu21) (2,1):=RV.of hu21
 clear eu21 hu21 du21 hG
 refine⟨zK,fun pu22 gu22=>?_⟩
 generalize hG:upd Hu21 pu22 (.lst [V.ref pu19,V.ref pu20,V.ref pu21])=Hu22
 obtain⟨eu22,hu22,du22⟩:=jw hG gu22 tp.lst hd_
 have nu22:=rW gu22 tp.lst
 obtain⟨S0,tp,hd_⟩:=iL eu22 S0 tp hd_
 replace hkl:=eu22 _ _ hkl
 replace rvm:=rvm.mono (ax.same eu22)
 replace hD6:=eu22 _ _ hD6
 replace al6:=aM eu22 al6
 replace rvl:=rvl.mono (ax.same eu22)
 replace rp0:=rp0.mono (ax.same eu22)
 replace rp1:=rp1.mono (ax.same eu22)
 replace rp2:=rp2.mono (ax.same eu22)
 have lsp:=hu22
 have alp_:bG (RV K Hu22) ([V.ref pu19,V.ref pu20,V.ref pu21]:List V) [(0,1),(1,3),(2,1)]:=(.cons rp0 (.cons rp1 (.cons rp2 .nil)))
 clear eu22 hu22 du22 hG
 refine⟨_,rfl,t₁,s₁,3,rfl,tp,by decide,by decide,fun ru23 zu23 au23 bu23 Tu23=>?_⟩
 have Su23:=aX.up (ys:=zu23) tp.lst.choose_spec
 replace S0:=S0.trans Su23
 replace hd_:=hd_.imp fun _ q=>Su23.keep _ _ nD q
 replace hkl:=Su23.keep _ _ nD hkl
 replace rvm:=rvm.mono (ax.step (K:=K) Su23)
 replace hD6:=Su23.keep _ _ nDc hD6
 replace al6:=aT Su23 al6
 replace rvl:=rvl.mono (ax.step (K:=K) Su23)
 replace rp0:=rp0.mono (ax.step (K:=K) Su23)
 replace rp1:=rp1.mono (ax.step (K:=K) Su23)
 replace rp2:=rp2.mono (ax.step (K:=K) Su23)
 replace lsp:=Su23.keep _ _ nu22 lsp
 replace alp_:=aT Su23 alp_
 replace tp:=Tu23
 clear Tu23 Su23
 generalize upd Hu22 t₁ (.lst zu23)=Hu23 at S0 tp hd_ hkl rvm hD6 al6 rvl rp0 rp1 rp2 lsp alp_ ⊢
 obtain⟨vp,rp,hatp,rvp,bp⟩:∃ (vp:V) (rp:R),jN ([V.ref pu19,V.ref pu20,V.ref pu21]:List V) ru23=some vp/\RV K Hu23 vp rp/\Bq 68002990159104000 2 rp:=by
  rcases (show ru23=0∨ru23=1∨ru23=2 by omega) with rfl | rfl | rfl
  ·exact⟨_,_,rfl,rp0,⟨by decide,by decide,⟨68002990159104000,by decide⟩,by decide⟩⟩
  ·exact⟨_,_,rfl,rp1,⟨by decide,by decide,⟨22667663386368000,by decide⟩,by decide⟩⟩
  ·exact⟨_,_,rfl,rp2,⟨by decide,by decide,⟨68002990159104000,by decide⟩,by decide⟩⟩
 refine⟨pu22,_,_,_,rfl,rfl,aR.of lsp,hatp,_,rfl,t₁,s₁,3,rfl,tp,by decide,by decide,fun ru24 zu24 au24 bu24 Tu24=>?_⟩
 have Su24:=aX.up (ys:=zu24) tp.lst.choose_spec
 replace S0:=S0.trans Su24
 replace hd_:=hd_.imp fun _ q=>Su24.keep _ _ nD q
 replace hkl:=Su24.keep _ _ nD hkl
 replace rvm:=rvm.mono (ax.step (K:=K) Su24)
 replace hD6:=Su24.keep _ _ nDc hD6
 replace al6:=aT Su24 al6
 replace rvl:=rvl.mono (ax.step (K:=K) Su24)
 replace rvp:=rvp.mono (ax.step (K:=K) Su24)
 replace tp:=Tu24
 clear Tu24 Su24
 generalize upd Hu23 t₁ (.lst zu24)=Hu24 at S0 tp hd_ hkl rvm hD6 al6 rvl rvp ⊢
 refine⟨_,_,rfl,rfl,_,rfl,t₁,s₁,3,rfl,tp,by decide,by decide,fun ru25 zu25 au25 bu25 Tu25=>?_⟩
 have Su25:=aX.up (ys:=zu25) tp.lst.choose_spec
 replace S0:=S0.trans Su25
 replace hd_:=hd_.imp fun _ q=>Su25.keep _ _ nD q
 replace hkl:=Su25.keep _ _ nD hkl
 replace rvm:=rvm.mono (ax.step (K:=K) Su25)
 replace hD6:=Su25.keep _ _ nDc hD6
 replace al6:=aT Su25 al6
 replace rvl:=rvl.mono (ax.step (K:=K) Su25)
 replace rvp:=rvp.mono (ax.step (K:=K) Su25)
 replace tp:=Tu25
 clear Tu25 Su25
 generalize upd Hu24 t₁ (.lst zu25)=Hu25 at S0 tp hd_ hkl rvm hD6 al6 rvl rvp ⊢
 refine⟨_,_,rfl,rfl,1+ru24,1+ru25,rfl,by omega,bi (n:=3) (by show (1+ru25).natAbs < 8;omega) (by decide),fun pu26 gu26=>?_⟩
 generalize hG:upd Hu25 pu26 (.tup [.int (cK (1+ru24) (1+ru25)).1,.int (cK (1+ru24) (1+ru25)).2])=Hu26
 obtain⟨eu26,hu26,du26⟩:=jw hG gu26 tp.lst hd_
 obtain⟨S0,tp,hd_⟩:=iL eu26 S0 tp hd_
 replace hkl:=eu26 _ _ hkl
 replace rvm:=rvm.mono (ax.same eu26)
 replace hD6:=eu26 _ _ hD6
 replace al6:=aM eu26 al6
 replace rvl:=rvl.mono (ax.same eu26)
 replace rvp:=rvp.mono (ax.same eu26)
 have rsl:RV K Hu26 (.ref pu26) (cK (1+ru24) (1+ru25)):=RV.of hu26
 clear eu26 hu26 du26 hG
 have bsl:Bq 6 3 (cK (1+ru24) (1+ru25)):=by
  refine iI (by omega) ?_ (by omega)
  rcases (show ru25=0∨ru25=1∨ru25=2 by omega) with q | q | q <;> rw [q]
  ·exact⟨6,by decide⟩
  ·exact⟨3,by decide⟩
  ·exact⟨2,by decide⟩
 generalize (cK (1+ru24) (1+ru25))=sl0 at rsl bsl
 refine⟨dU,fun pu27 gu27=>?_⟩
 generalize hG:upd Hu26 pu27 (.tup [.int 0,.int 1])=Hu27
 obtain⟨eu27,hu27,du27⟩:=jw hG gu27 tp.lst hd_
 obtain⟨S0,tp,hd_⟩:=iL eu27 S0 tp hd_
 replace hkl:=eu27 _ _ hkl
 replace rvm:=rvm.mono (ax.same eu27)
 replace hD6:=eu27 _ _ hD6
 replace al6:=aM eu27 al6
 replace rvl:=rvl.mono (ax.same eu27)
 replace rvp:=rvp.mono (ax.same eu27)
 replace rsl:=rsl.mono (ax.same eu27)
 have rz0:RV K Hu27 (.ref pu27) (0,1):=RV.of hu27
 clear eu27 hu27 du27 hG
 refine⟨_,rfl,dU,fun pu28 gu28=>?_⟩
 generalize hG:upd Hu27 pu28 (.tup [V.ref pu27,vp])=Hu28
 obtain⟨eu28,hu28,du28⟩:=jw hG gu28 tp.lst hd_
 obtain⟨S0,tp,hd_⟩:=iL eu28 S0 tp hd_
 replace hkl:=eu28 _ _ hkl
 replace rvm:=rvm.mono (ax.same eu28)
 replace hD6:=eu28 _ _ hD6
 replace al6:=aM eu28 al6
 replace rvl:=rvl.mono (ax.same eu28)
 replace rvp:=rvp.mono (ax.same eu28)
 replace rsl:=rsl.mono (ax.same eu28)
 replace rz0:=rz0.mono (ax.same eu28)
 have rrow:gy K Hu28 (.ref pu28) ((0,1),rp):=⟨pu28,_,_,rfl,bo.of hu28,rz0,rvp⟩
 clear eu28 hu28 du28 hG
 refine⟨yS,fun pu29 gu29=>?_⟩
 have glr:=gu29
 have Sb:=S0
 have off:=tp.off gu29
 generalize hG:upd Hu28 pu29 (.lst [V.ref pu28])=Hu29
 obtain⟨eu29,hu29,du29⟩:=jw hG gu29 tp.lst hd_
 have nu29:=rW gu29 tp.lst
 obtain⟨S0,tp,hd_⟩:=iL eu29 S0 tp hd_
 replace hkl:=eu29 _ _ hkl
 replace rvm:=rvm.mono (ax.same eu29)
 replace hD6:=eu29 _ _ hD6
 replace al6:=aM eu29 al6
 replace rvl:=rvl.mono (ax.same eu29)
 replace rvp:=rvp.mono (ax.same eu29)
 replace rsl:=rsl.mono (ax.same eu29)
 replace rz0:=rz0.mono (ax.same eu29)
 replace rrow:=rrow.mono (ax.same eu29)
 have hlr:=hu29
 have alr:bG (gy K Hu29) [V.ref pu28] [((0,1),rp)]:=.cons rrow .nil
 clear eu29 hu29 du29 hG
 have hlr0:H pu29=none:=by
  cases e:H pu29 with
  | none=>rfl
  | some o=>rw [Sb.keep _ _ nu29 e] at glr;cases glr
 refine⟨_,rfl,Dc,ds,_,rfl,aR.of hD6,al6,(fun r hr=>(kb5 r (List.mem_filter.mp hr).1).wf),Nat.le_trans (List.length_filter_le _ _) (by omega),fun lq yq zq HQ eQ hlq0 hq alq lzq ris sub=>?_⟩
 have nlq:=rW hlq0 tp.lst
 obtain⟨S0,tp,hd_⟩:=iL eQ S0 tp hd_
 replace hkl:=eQ _ _ hkl
 replace rvm:=rvm.mono (ax.same eQ)
 replace hD6:=eQ _ _ hD6
 replace al6:=aM eQ al6
 replace rvl:=rvl.mono (ax.same eQ)
 replace rsl:=rsl.mono (ax.same eQ)
 replace hlr:=eQ _ _ hlr
 replace alr:=aM eQ alr
 refine⟨_,rfl,yS,fun pu30 gu30=>?_⟩
 generalize hG:upd HQ pu30 (.lst [vl])=Hu30
 obtain⟨eu30,hu30,du30⟩:=jw hG gu30 tp.lst hd_
 have nu30:=rW gu30 tp.lst
 obtain⟨S0,tp,hd_⟩:=iL eu30 S0 tp hd_
 replace hkl:=eu30 _ _ hkl
 replace rvm:=rvm.mono (ax.same eu30)
 replace rvl:=rvl.mono (ax.same eu30)
 replace rsl:=rsl.mono (ax.same eu30)
 replace hlr:=eu30 _ _ hlr
 replace alr:=aM eu30 alr
 replace hq:=eu30 _ _ hq
 replace alq:=aM eu30 alq
 have ls9:=hu30
 clear eu30 hu30 du30 hG
 have lzq2:zq.length≤9:=Nat.le_trans lzq (Nat.le_trans (List.length_filter_le _ _) ln5)
 have lyq:=alq.len
 refine⟨lq,pu30,_,_,rfl,rfl,hq,ls9,Nat.le_trans (show _≤1000 by first | omega | (simp <;> omega)) i5,fun pu31 gu31=>?_⟩
 have nlrp:=aA hlr gu31
 generalize hG:upd Hu30 pu31 (.lst (yq++[vl]))=Hu31
 obtain⟨eu31,hu31,du31⟩:=jw hG gu31 tp.lst hd_
 have nu31:=rW gu31 tp.lst
 obtain⟨S0,tp,hd_⟩:=iL eu31 S0 tp hd_
 replace hkl:=eu31 _ _ hkl
 replace rvm:=rvm.mono (ax.same eu31)
 replace rvl:=rvl.mono (ax.same eu31)
 replace rsl:=rsl.mono (ax.same eu31)
 replace hlr:=eu31 _ _ hlr
 replace alr:=aM eu31 alr
 replace hq:=eu31 _ _ hq
 replace alq:=aM eu31 alq
 replace ls9:=eu31 _ _ ls9
 have ls10:=hu31
 have al10:bG (RV K Hu31) (yq++[vl]) (zq++[rl]):=alq.join (.cons rvl .nil)
 clear eu31 hu31 du31 hG
 have pz:∀ r∈zq,aD (0,1) r=true/\aD r rm=true/\zI r:=fun r hr=>by
  obtain⟨h1,h2⟩:=List.mem_filter.mp (sub r hr)
  have h2':(aD (0,1) r && aD r rm)=true:=h2
  rw [Bool.and_eq_true] at h2'
  exact⟨h2'.1,h2'.2,kb5 r h1⟩
 have risS:Cs ((0,1) :: (zq++[rl])):=by
  refine List.pairwise_cons.mpr ⟨fun r hr=>?_,List.pairwise_append.mpr ⟨ris,List.pairwise_singleton _ _,fun r hr q hq'=>?_⟩⟩
  ·rcases List.mem_append.mp hr with h | h
   ·exact (pz r h).1
   ·rw [List.mem_singleton.mp h]
    exact dF.mpr (by show 0 * rl.2 < rl.1 * 1;omega)
  ·rw [List.mem_singleton.mp hq']
   exact ge r (Bq.red (pz r hr).2.2).pos (pz r hr).1 (pz r hr).2.1
 have bS:∀ r∈zq++[rl],Bq D0 541 r:=fun r hr=>by
  rcases List.mem_append.mp hr with h | h
  ·exact Bq.mono (pz r h).2.2 ⟨1,by decide⟩ (by decide)
  ·rw [List.mem_singleton.mp h];exact bl
 have lS:(zq++[rl]).length≤10:=by rw [List.length_append];show zq.length+1≤10;omega
 have lS1:1≤(zq++[rl]).length:=by rw [List.length_append];show 1≤zq.length+1;omega
 generalize zq++[rl]=SS at al10 risS bS lS lS1
 generalize yq++[vl]=xS at al10 ls10
 have lxS:=al10.len
 refine⟨pu31,rfl,⟨_,aR.of ls10⟩,eV (K:=K) (a:=pu31) (xs:=xS) (fun i σ H'=>∃ (x9 x10:Option V) (vs:V) (sl:R) (ys:List V) (rows:List (R×R)),σ=[some (.ref t₁),some (.ref kl),some v,some (.int ru1),some (.ref Dc),some vl,some vp,some vs,some (.ref pu29),x9,x10]/\(∀ b o,b≠t₁->H b=some o->H' b=some o)/\ax K Hu31 H'/\bx K H' t₁ s₁/\H' pu31=some (.lst xS)/\H' pu29=some (.lst ys)/\bG (gy K H') ys rows/\rows.map (·.1)=(0,1) :: SS.take i/\(∀ r∈rows,Bq 68002990159104000 (2+22722 * i) r.2)/\RV K H' vs sl/\Bq 6 (3+2 * i) sl/\∀ k,k+1 < rows.length->Bq 6 21 (rV rows k)) ⟨_,_,.ref pu26,sl0,_,_,rfl,S0.keep,ax.refl _ _,tp,ls10,hlr,alr,rfl,(fun r hr=>by rw [List.mem_singleton.mp hr];exact bp),rsl,bsl,fun k hk=>absurd hk (by show ¬ k+1 < 1;omega)⟩ (fun i σ H' _ ⟨_,_,_,_,_,_,_,_,_,_,q,_⟩=>aR.of q) ?_ ?_⟩
 ·rintro i x σ HI hx ⟨x9,x10,vs,sl,ys,rows,rfl,kpI,tI,TI,l10,hrI,alI,mapI,pwI,rvs,bqs,slI⟩
  obtain⟨z,hz0,rvz0⟩:=al10.at hx
  have hil:i < xS.length:=(List.getElem?_eq_some_iff.mp hx).1
  have rvz:=rvz0.mono tI
  have bz:=bS z (List.mem_of_getElem? hz0)
  have lrow:rows.length=i+1:=by
   have:=congrArg List.length mapI
   rw [List.length_map,List.length_cons,List.length_take] at this
   omega
  obtain⟨xl,rw0,hlast,hrl,⟨pr,yx,yy,rfl,hSr,⟨px,rfl,hpx⟩,rvy⟩,_⟩:=alI.last (n:=i) lrow
  have mrl:=List.mem_of_getElem? hrl
  have bsp:Bq D0 541 rw0.1:=by
   have:rw0.1∈(0,1) :: SS.take i:=by rw [← mapI];exact List.mem_map_of_mem mrl
   rcases List.mem_cons.mp this with e | e
   ·rw [e];exact⟨by decide,by decide,⟨11333831693184000,by decide⟩,by decide⟩
   ·exact bS _ (List.mem_of_mem_take e)
  have bpw:=pwI rw0 mrl
  have hlt:aD rw0.1 z=true:=by
   have e1:((0,1) :: SS)[i]?=some rw0.1:=by
    have e:=congrArg (fun l=>l[i]?) mapI
    rw [List.getElem?_map,hrl] at e
    have e':some rw0.1=((0,1) :: SS.take i)[i]?:=e
    rw [e']
    cases i with
    | zero=>rfl
    | succ j=>rw [List.getElem?_cons_succ,List.getElem?_cons_succ,List.getElem?_take_of_lt (by omega)]
   have e2:((0,1) :: SS)[i+1]?=some z:=by rw [List.getElem?_cons_succ];exact hz0
   obtain⟨h1,e1'⟩:=List.getElem?_eq_some_iff.mp e1
   obtain⟨h2,e2'⟩:=List.getElem?_eq_some_iff.mp e2
   have:=List.pairwise_iff_getElem.mp risS i (i+1) h1 h2 (by omega)
   rw [e1',e2'] at this
   exact this
  refine⟨_,rfl,_,rfl,_,rfl,pu29,_,_,_,rfl,rfl,aR.of hrI,hlast,pr,_,_,_,rfl,rfl,hSr,rfl,px,_,_,_,rfl,rfl,hpx,rfl,_,rfl,_,rfl,_,rfl,pu29,_,_,_,rfl,rfl,aR.of hrI,hlast,pr,_,_,_,rfl,rfl,hSr,rfl,px,_,_,_,rfl,rfl,hpx,rfl,dU,fun pn hpn=>?_⟩
  have i9:i≤9:=by omega
  have wz:Wf 98 z:=bz.wf (by decide) (by decide) (by decide)
  have bn:=bsp.neg
  have bqs':Bq 6 21 sl:=bqs.mono ⟨1,by decide⟩ (by omega)
  have slE:=n9 bpw.red bqs.red bz.red bsp.red hlt
  have wsl:Wf 98 sl:=bqs'.wf (by decide) (by decide) (by decide)
  have wpw:Wf 98 rw0.2:=(bpw.mono (D':=68002990159104000) (N':=227222) ⟨1,by decide⟩ (by omega)).wf (by decide) (by decide) (by decide)
  have s1:=ai hpn (.tup [.int (-rw0.1.1),.int rw0.1.2])
  have rn:RV K (upd HI pn (.tup [.int (-rw0.1.1),.int rw0.1.2])) (.ref pn) (-rw0.1.1,rw0.1.2):=RV.of ag
  generalize upd HI pn (.tup [.int (-rw0.1.1),.int rw0.1.2])=H1 at s1 rn ⊢
  refine⟨x,.ref pn,z,(-rw0.1.1,rw0.1.2),98,98,rfl,rvz.mono (ax.same s1),rn,wz,bn.wf (by decide) (by decide) (by decide),by decide,fun p2 h2=>?_⟩
  have bst:Bq D0 1082 (aQ z (-rw0.1.1,rw0.1.2)):=Bq.plus (by decide) bz bn
  generalize aQ z (-rw0.1.1,rw0.1.2)=stp at bst slE ⊢
  have s2:=ai h2 (.tup [.int stp.1,.int stp.2])
  have r2:RV K (upd H1 p2 (.tup [.int stp.1,.int stp.2])) (.ref p2) stp:=RV.of ag
  generalize upd H1 p2 (.tup [.int stp.1,.int stp.2])=H2 at s2 r2 ⊢
  have s12:=s1.trans s2
  have t12:=ax.same (K:=K) s12
  refine⟨_,rfl,.inl ⟨rfl,_,aR.of (s12 _ _ hrI)⟩,_,rfl,_,rfl,_,rfl,pu29,_,_,_,rfl,rfl,aR.of (s12 _ _ hrI),hlast,pr,_,_,_,rfl,rfl,t12 _ _ hSr,rfl,_,rfl,_,rfl,vs,.ref p2,sl,stp,98,98,rfl,rvs.mono t12,r2,wsl,bst.wf (by decide) (by decide) (by decide),by decide,fun p3 h3=>?_⟩
  have bt:Bq 68002990159104000 22722 (aC sl stp):=(Bq.times bqs' bst).mono ⟨1,by decide⟩ (by decide)
  generalize aC sl stp=tm at bt slE ⊢
  have s3:=ai h3 (.tup [.int tm.1,.int tm.2])
  have r3:RV K (upd H2 p3 (.tup [.int tm.1,.int tm.2])) (.ref p3) tm:=RV.of ag
  generalize upd H2 p3 (.tup [.int tm.1,.int tm.2])=H3 at s3 r3 ⊢
  have s13:=s12.trans s3
  refine⟨yy,.ref p3,rw0.2,tm,98,98,rfl,rvy.mono (ax.same s13),r3,wpw,bt.wf (by decide) (by decide) (by decide),by decide,fun p4 h4=>?_⟩
  have bp4:Bq 68002990159104000 (2+22722 * (i+1)) (aQ rw0.2 tm):=(Bq.plus (by decide) bpw bt).mono ⟨1,by decide⟩ (by omega)
  generalize aQ rw0.2 tm=np at bp4 slE ⊢
  have s4:=ai h4 (.tup [.int np.1,.int np.2])
  have r4:RV K (upd H3 p4 (.tup [.int np.1,.int np.2])) (.ref p4) np:=RV.of ag
  generalize upd H3 p4 (.tup [.int np.1,.int np.2])=H4 at s4 r4 ⊢
  have s14:=s13.trans s4
  refine⟨dU,fun p5 h5=>?_⟩
  have s5:=ai h5 (.tup [x,.ref p4])
  have s15:=s14.trans s5
  have row5:gy K (upd H4 p5 (.tup [x,.ref p4])) (.ref p5) (z,np):=⟨p5,x,.ref p4,rfl,bo.of ag,rvz.mono (ax.same s15),r4.mono (ax.same s5)⟩
  generalize upd H4 p5 (.tup [x,.ref p4])=H5 at s15 row5 ⊢
  have hr5:=s15 _ _ hrI
  have lyI:=alI.len
  refine⟨pu29,ys,_,rfl,rfl,hr5,aV (by omega),?_⟩
  have tu:=ax.up (K:=K) hr5 (ys++[.ref p5])
  have T6:=(TI.same s15).upl nu29 off (.lst (ys++[.ref p5]))
  have kp6:∀ b o,b≠t₁->H b=some o->upd H5 pu29 (.lst (ys++[.ref p5])) b=some o:=fun b o nb q=>by rw [av (aA q hlr0)];exact s15 _ _ (kpI b o nb q)
  have l106:upd H5 pu29 (.lst (ys++[.ref p5])) pu31=some (.lst xS):=by rw [av (Ne.symm nlrp)];exact s15 _ _ l10
  have hr6:upd H5 pu29 (.lst (ys++[.ref p5])) pu29=some (.lst (ys++[.ref p5])):=ag
  have t56:=(ax.same (K:=K) s15).trans tu
  have al6:=(alI.mono fun _ _ q=>q.mono t56).snoc (row5.mono tu)
  have rvs6:=rvs.mono t56
  have t06:=tI.trans t56
  generalize upd H5 pu29 (.lst (ys++[.ref p5]))=H6 at T6 kp6 l106 hr6 al6 rvs6 t06 ⊢
  refine⟨_,rfl,_,rfl,t₁,s₁,3,rfl,T6,by decide,by decide,fun ra za a1 b1 T7=>?_⟩
  have S7:=aX.up (ys:=za) T6.lst.choose_spec
  generalize upd H6 t₁ (.lst za)=H7 at T7 S7 ⊢
  refine⟨_,rfl,t₁,s₁,3,rfl,T7,by decide,by decide,fun rb zb a2 b2 T8=>?_⟩
  have S8:=S7.trans (aX.up (ys:=zb) T7.lst.choose_spec)
  generalize upd H7 t₁ (.lst zb)=H8 at T8 S8 ⊢
  refine⟨_,_,rfl,rfl,ra,1+rb,rfl,by omega,bi (n:=3) (by show (1+rb).natAbs < 8;omega) (by decide),fun p9 h9=>?_⟩
  have bm:Bq 6 2 (cK ra (1+rb)):=by
   refine iI (by omega) ?_ (by omega)
   rcases (show rb=0∨rb=1∨rb=2 by omega) with q | q | q <;> rw [q]
   ·exact⟨6,by decide⟩
   ·exact⟨3,by decide⟩
   ·exact⟨2,by decide⟩
  generalize cK ra (1+rb)=mr at bm ⊢
  have s9:=ai h9 (.tup [.int mr.1,.int mr.2])
  have r9:RV K (upd H8 p9 (.tup [.int mr.1,.int mr.2])) (.ref p9) mr:=RV.of ag
  have T9:=T8.same s9
  have S9:=S8.trans (.same s9 T8.lst)
  generalize upd H8 p9 (.tup [.int mr.1,.int mr.2])=H9 at s9 r9 T9 S9 ⊢
  refine⟨vs,.ref p9,sl,mr,98,98,rfl,rvs6.mono (ax.step S9),r9,wsl,bm.wf (by decide) (by decide) (by decide),by decide,fun pa ha=>?_⟩
  have bs2:Bq 6 (3+2 * (i+1)) (aQ sl mr):=(Bq.plus (by decide) bqs bm).mono ⟨1,by decide⟩ (by omega)
  have sa:=ai ha (.tup [.int (aQ sl mr).1,.int (aQ sl mr).2])
  have SA:=S9.trans (.same sa T9.lst)
  have tA:=ax.step (K:=K) SA
  refine⟨_,_,.ref pa,aQ sl mr,_,_,rfl,fun b o nb q=>SA.keep _ _ nb (kp6 b o nb q),t06.trans tA,T9.same sa,SA.keep _ _ nu31 l106,SA.keep _ _ nu29 hr6,al6.mono fun _ _ q=>q.mono tA,?_,fun r hr=>?_,RV.of ag,bs2,fun kk hkk=>?_⟩
  ·rw [List.map_append,mapI,List.take_add_one,hz0]
   rfl
  ·rcases List.mem_append.mp hr with h | h
   ·exact (pwI r h).mono ⟨1,by decide⟩ (by omega)
   ·rw [List.mem_singleton.mp h];exact bp4
  ·by_cases kz:kk+1 < rows.length
   ·rw [sW kz];exact slI kk kz
   ·rw [List.length_append] at hkk
    have hkk':kk+1 < rows.length+1:=hkk
    have ek:kk=i:=by omega
    subst ek
    rw [sV lrow hrl,show rw0=(rw0.1,rw0.2) from rfl,slE]
    exact bqs'
 ·rintro σ HI ⟨x9,x10,vs,sl,ys,rows,rfl,kpI,tI,TI,l10,hrI,alI,mapI,pwI,rvs,bqs,slI⟩
  refine⟨_,rfl,pu29,_,rfl,.inl ⟨aR.of hrI,fun pt hpt=>?_⟩⟩
  have st:=ai hpt (.tup ys)
  have hpt2:bo K (upd HI pt (.tup ys)) pt ys:=bo.of ag
  have alt:=alI.mono fun _ _ q=>q.mono (ax.same st)
  have TT:=TI.same st
  generalize upd HI pt (.tup ys)=HT at st hpt2 alt TT ⊢
  refine⟨dU,fun pu hpu=>?_⟩
  have su:=ai hpu (.tup [.str (Str.ofString "table"),.ref pt])
  have stu:=st.trans su
  have lrow:rows.length=SS.length+1:=by
   have:=congrArg List.length mapI
   rw [List.length_map,List.length_cons,List.length_take] at this
   omega
  rw [List.take_of_length_le (by omega)] at mapI
  have inc:EA rows:=by
   have:=risS
   rw [← mapI] at this
   exact List.pairwise_map.mp this
  have b360:∀ r∈rows,Bq D0 541 r.1:=fun r hr=>by
   have:r.1∈(0,1) :: SS:=by rw [← mapI];exact List.mem_map_of_mem hr
   rcases List.mem_cons.mp this with e | e
   ·rw [e];exact⟨by decide,by decide,⟨11333831693184000,by decide⟩,by decide⟩
   ·exact bS _ e
  refine k (.ref pu) (.tab rows) _ ⟨fun b o nb q=>stu _ _ (kpI b o nb q),tp0,(TT.same su).lst⟩ (TT.same su) ⟨pu,pt,ys,rfl,bo.of ag,ax.same (K:=K) su _ _ hpt2,alt.mono fun _ _ q=>q.mono (ax.same su)⟩ ⟨by omega,by omega,inc,?_,fun r hr=>?_,fun r hr=>?_⟩ ⟨fun r hr=>⟨b360 r hr,(pwI r hr).mono ⟨1,by decide⟩ (by have:=al10.len;omega)⟩,slI⟩
  ·cases rows with
   | nil=>cases lrow
   | cons r0 rr=>
    obtain⟨ra,rb⟩:=r0
    have e:ra=(0,1):=(List.cons.inj mapI).1
    exact⟨rb,by rw [e];rfl⟩
  ·exact (b360 r hr).mono ⟨1,by decide⟩ (by decide)
  ·exact (pwI r hr).mono ⟨1888971948864000,by decide⟩ (by have:=al10.len;show 2+22722 * xS.length≤1180591620717411303424;omega)
theorem ve (T:eE K mg t):bB P w K mg base dk 4 t.a_Q29 t.d_Q29 ["_law_some", "_law_alone", "_law_hands"] (mI K):=by
 refine T.F_Q29.ok An (fun vs H Q E h=>?_) (fun cdv A outer s H vs Q E hr h=>?_)
 ·obtain⟨_,_,_,_,_,rfl,_⟩:=h;rfl
 obtain⟨l,ys,S,hh,kk,rfl,hl,al,am,kS,kh,h9,k⟩:=h
 refine cY.ok (ak (aE (bF (im T) hr T.m_Q32 T.F_Q32.kp T.b_Q32 (ac (bF (vd T) hr T.m_Q33 T.F_Q33.kp T.b_Q33 (ac (fE iP (qv 0) (gL (qv 1)) gM) ae aF)) (ac (aN (ac ah (ac (aG fh (qv 2) (qv 1)) ae ba) ap)) ae aO) aB)))) ?_
 extract_lets +lift
 try dsimp -zeta -zetaDelta only [Cx.nox,Cx.wish,bw]
 have hlen:=al.len
 have l9:=am.len
 refine⟨_,rfl,_,rfl,kk,rfl,l,ys,rfl,hl,fun p hp=>?_⟩
 rw [v9 (by omega)]
 have s1:=ai hp (.lst (ys.drop kk))
 have h1:upd H p (.lst (ys.drop kk)) p=some (.lst (ys.drop kk)):=ag
 generalize upd H p (.lst (ys.drop kk))=H1 at s1 h1 ⊢
 have al1:bG (RV K H1) (ys.drop kk) (S.drop kk):=(al.mono fun _ _ z=>z.mono (ax.same s1)).drop kk
 refine⟨p,_,S.drop kk,DM,60,60,rfl,aR.of h1,al1,fun r hr=>(am.ok r (List.mem_of_mem_drop hr)).bq,by decide,by decide,by decide,(by rw [List.length_drop];omega),by decide,fun u H2 s2 r2=>?_⟩
 refine⟨_,rfl,_,rfl,_,_,rfl,rfl,dU,fun p3 hp3=>?_⟩
 have s3:=ai hp3 (.tup [.int 1,.int ((hh:Int) - (kk:Int))])
 have r3:RV K (upd H2 p3 (.tup [.int 1,.int ((hh:Int) - (kk:Int))])) (.ref p3) (1,((hh:Int) - (kk:Int))):=RV.of ag
 generalize upd H2 p3 (.tup [.int 1,.int ((hh:Int) - (kk:Int))])=H3 at s3 r3 ⊢
 have bd:=cD am kk
 have bp:Bq (hh - kk) 1 ((1,((hh:Int) - (kk:Int))):R):=by
  rw [show ((hh:Int) - (kk:Int))=((hh - kk:Nat):Int) by omega]
  exact pN (by omega)
 refine⟨u,.ref p3,bR (S.drop kk),(1,((hh:Int) - (kk:Int))),60,10,rfl,r2.mono (ax.same s3),r3,bd.wf (by decide) (by decide) (by decide),bp.wf (by omega) (by omega) (by omega),by decide,fun p4 hp4=>?_⟩
 rw [vA am kh]
 exact k _ _ (((s1.trans s2).trans s3).trans (ai hp4 _)) (RV.of ag)
theorem Dv (T:eE K mg t):bB P w K mg base dk 5 t.a_Q2 t.d_Q2 ["_law_hands", "_law_amounts_here"] (fZ K):=by
 refine T.F_Q2.ok mN (fun vs H Q E h=>?_) (fun cdv A outer s H vs Q E hr h=>?_)
 ·obtain⟨_,_,_,_,rfl,_⟩:=h;rfl
 obtain⟨hh,pa,xs,rs,rfl,hS,al,am,h1,h9,k⟩:=h
 refine cY.ok (af (bH 2 mN.nd (ot rfl (by rfl) T.z_list (by rfl) T.z_reversed (bF (Dw T) hr T.m_Q1 T.F_Q1.kp T.b_Q1 (ac (qv 1) ae ad))))
   (af (bH 3 mN.nd ah)
   (af (fD PassesOwn.never (fS (jp (aK kq (qv 3) (ay bc (by rfl) T.z_len boot_len (ac (qv 2) ae ad)) (aJ _)) (gK (bE (bF (gs T) hr T.m_Q26 T.F_Q26.kp T.b_Q26 (ac (bF (ve T) hr T.m_Q29 T.F_Q29.kp T.b_Q29 (ac (qv 2) (ac (qv 3) (ac (qv 0) ae ad) ad) ad)) (ac (bv bj (qv 2) (qv 3)) ae aF) aB))))))
   (ak (bH 3 mN.nd (aG bJ (qv 3) ah))))
   (af (bH 4 mN.nd (bF (ve T) hr T.m_Q29 T.F_Q29.kp T.b_Q29 (ac (qv 2) (ac (qv 3) (ac (qv 0) ae ad) ad) ad)))
   (ak (aE (aG ju (fE iP (qv 2) gM (gL (qv 3))) (aG pP (bD (ac (qv 4) ae ad)) (aG fh (qv 0) (qv 3)))))))))) ?_
 extract_lets +lift
 try dsimp -zeta -zetaDelta only [Cx.nox,Cx.wish,bw]
 have l9:=am.len
 refine⟨_,rfl,pa,xs,rs,rfl,hS,al,(fun r hr=>(am.ok r hr).bq.wf (by decide) (by decide) (by decide)),by omega,fun l0 ys0 zs H1 s1 hn hl0 al1 pm so=>?_⟩
 refine⟨l0,ys0,rfl,hl0,fun l hl=>?_⟩
 have e2:=ai hl (.lst ys0.reverse)
 have h2:upd H1 l (.lst ys0.reverse) l=some (.lst ys0.reverse):=ag
 have al2:=yJ (al1.mono fun _ _ z=>z.mono (ax.same e2))
 generalize upd H1 l (.lst ys0.reverse)=H2 at e2 h2 al2 ⊢
 have s2:=s1.trans e2
 have pmS:zs.reverse.Perm rs:=(List.reverse_perm zs).trans pm
 have soS:=sS so
 generalize zs.reverse=S at al2 pmS soS
 generalize ys0.reverse=ys at h2 al2
 have amS:=am.perm pmS
 have lS:=amS.len
 have lys:=al2.len
 refine⟨fun m σ H'=>∃ i:Nat,σ=[some (.int hh),some (.ref pa),some (.ref l),some (.int (i:Int)),none]/\aS H2 H'/\i≤S.length/\(∀ j,j < i->nN hh S j=true)/\m=S.length - i,⟨_,0,rfl,aS.refl _,Nat.zero_le _,(fun j hj=>absurd hj (Nat.not_lt_zero _)),rfl⟩,?_⟩
 rintro m σ H3 ⟨i,rfl,s3,iS,go,rfl⟩
 have ih:i < hh:=lX amS h1 iS go
 have t3:=ax.same (K:=K) s3
 have al3:=al2.mono fun _ _ z=>z.mono t3
 have h3:=s3 _ _ h2
 refine⟨_,rfl,_,rfl,l,_,rfl,.inl (aR.of h3),_,_,rfl,rfl,_,rfl,?_⟩
 by_cases c:i < S.length
 ·refine cW (by omega) ?_
  obtain⟨x,hx⟩:∃ x,ys[i]?=some x:=⟨_,List.getElem?_eq_getElem (by omega)⟩
  obtain⟨r,hr',rx⟩:=al3.at hx
  have er:S.getD i (0,1)=r:=by rw [List.getD_eq_getElem?_getD,hr'];rfl
  have o:=amS.ok r (List.mem_of_getElem? hr')
  refine⟨_,rfl,_,rfl,_,rfl,l,ys,S,hh,i,rfl,aR.of h3,al3,amS,iS,ih,h9,fun um H4 s4 rm=>?_⟩
  have h4:=s4 _ _ h3
  have mo:=lI amS ih h9
  refine⟨_,rfl,_,rfl,l,_,_,_,rfl,rfl,aR.of h4,bM hx,um,x,cA hh S i,r,98,60,rfl,rm,rx.mono (ax.same s4),mo.sp.wf,o.bq.wf (by decide) (by decide) (by decide),by decide,_,rfl,?_⟩
  have eg:nN hh S i=aD (cA hh S i) r:=by unfold nN;rw [er]
  cases cg:aD (cA hh S i) r with
  | true=>
   refine fj ?_
   refine⟨_,fun _ _ z=>z,?_⟩
   refine⟨_,rfl,_,_,rfl,rfl,_,(by omega),i+1,rfl,s3.trans s4,c,fun j hj=>?_,rfl⟩
   by_cases e:j=i
   ·rw [e,eg,cg]
   ·exact go j (by omega)
  | false=>
   refine cU ?_
   have sX:=s3.trans s4
   have st:i < S.length->nN hh S i=false:=fun _=>by rw [eg,cg]
   have alo:yQ hh S i:=⟨iS,go,st⟩
   have hX:=sX _ _ h2
   have alX:=al2.mono fun _ _ z=>z.mono (ax.same sX)
   refine⟨_,rfl,_,rfl,_,rfl,l,ys,S,hh,i,rfl,aR.of hX,alX,amS,iS,ih,h9,fun um H5 s5 rm=>?_⟩
   have s25:=sX.trans s5
   refine⟨_,rfl,_,rfl,i,rfl,l,ys,rfl,aR.of (s25 _ _ h2),fun p6 hp6=>?_⟩
   rw [lR (by omega)]
   have e6:=ai hp6 (.lst (ys.take i))
   have h6:upd H5 p6 (.lst (ys.take i)) p6=some (.lst (ys.take i)):=ag
   generalize upd H5 p6 (.lst (ys.take i))=H6 at e6 h6 ⊢
   refine⟨_,rfl,yS,fun l1 hl1=>?_⟩
   have e7:=ai hl1 (.lst [um])
   refine⟨_,rfl,_,rfl,_,_,rfl,rfl,?_⟩
   dsimp only
   rw [show ((hh:Nat):Int) - ((i:Nat):Int)=((hh - i:Nat):Int) by omega]
   refine⟨l1,um,hh - i,rfl,rfl,ag,by omega,fun l8 hl8=>?_⟩
   have e8:=ai hl8 (.lst (List.replicate (hh - i) um))
   have h8:upd (upd H6 l1 (.lst [um])) l8 (.lst (List.replicate (hh - i) um)) l8=some (.lst (List.replicate (hh - i) um)):=ag
   have e78:=e7.trans e8
   generalize upd (upd H6 l1 (.lst [um])) l8 (.lst (List.replicate (hh - i) um))=H8 at h8 e78 ⊢
   refine⟨p6,l8,_,_,rfl,rfl,e78 _ _ h6,h8,Nat.le_trans (show _≤1000 by rw [List.length_replicate,List.length_take];omega) i5,fun l9 hl9=>?_⟩
   have e9:=ai hl9 (.lst (ys.take i++List.replicate (hh - i) um))
   have s59:=(e6.trans e78).trans e9
   have s9:=(s2.trans s25).trans s59
   have al9:bG (RV K (upd H8 l9 (.lst (ys.take i++List.replicate (hh - i) um)))) (ys.take i++List.replicate (hh - i) um) (pZ hh S i):=((al2.mono fun _ _ z=>z.mono (ax.same (s25.trans s59))).take i).join (bG.rep (rm.mono (ax.same s59)) _)
   rw [vM am pmS soS alo] at al9
   exact k l9 _ _ s9 ag al9
 ·refine bP (by omega) ?_
  have sX:=s3
  have st:i < S.length->nN hh S i=false:=fun z=>absurd z c
  have alo:yQ hh S i:=⟨iS,go,st⟩
  have hX:=sX _ _ h2
  have alX:=al2.mono fun _ _ z=>z.mono (ax.same sX)
  refine⟨_,rfl,_,rfl,_,rfl,l,ys,S,hh,i,rfl,aR.of hX,alX,amS,iS,ih,h9,fun um H5 s5 rm=>?_⟩
  have s25:=sX.trans s5
  refine⟨_,rfl,_,rfl,i,rfl,l,ys,rfl,aR.of (s25 _ _ h2),fun p6 hp6=>?_⟩
  rw [lR (by omega)]
  have e6:=ai hp6 (.lst (ys.take i))
  have h6:upd H5 p6 (.lst (ys.take i)) p6=some (.lst (ys.take i)):=ag
  generalize upd H5 p6 (.lst (ys.take i))=H6 at e6 h6 ⊢
  refine⟨_,rfl,yS,fun l1 hl1=>?_⟩
  have e7:=ai hl1 (.lst [um])
  refine⟨_,rfl,_,rfl,_,_,rfl,rfl,?_⟩
  dsimp only
  rw [show ((hh:Nat):Int) - ((i:Nat):Int)=((hh - i:Nat):Int) by omega]
  refine⟨l1,um,hh - i,rfl,rfl,ag,by omega,fun l8 hl8=>?_⟩
  have e8:=ai hl8 (.lst (List.replicate (hh - i) um))
  have h8:upd (upd H6 l1 (.lst [um])) l8 (.lst (List.replicate (hh - i) um)) l8=some (.lst (List.replicate (hh - i) um)):=ag
  have e78:=e7.trans e8
  generalize upd (upd H6 l1 (.lst [um])) l8 (.lst (List.replicate (hh - i) um))=H8 at h8 e78 ⊢
  refine⟨p6,l8,_,_,rfl,rfl,e78 _ _ h6,h8,Nat.le_trans (show _≤1000 by rw [List.length_replicate,List.length_take];omega) i5,fun l9 hl9=>?_⟩
  have e9:=ai hl9 (.lst (ys.take i++List.replicate (hh - i) um))
  have s59:=(e6.trans e78).trans e9
  have s9:=(s2.trans s25).trans s59
  have al9:bG (RV K (upd H8 l9 (.lst (ys.take i++List.replicate (hh - i) um)))) (ys.take i++List.replicate (hh - i) um) (pZ hh S i):=((al2.mono fun _ _ z=>z.mono (ax.same (s25.trans s59))).take i).join (bG.rep (rm.mono (ax.same s59)) _)
  rw [vM am pmS soS alo] at al9
  exact k l9 _ _ s9 ag al9
theorem Bs (T:eE K mg t) (hB:base.BuiltinsAt mg t.c_LT):bB P w K mg base dk 9 t.a_Q16 t.d_Q16 ["_law_rule_here", "_law_hands", "_law_amounts_here", "_law_plan_here"] (kY K t.c_Q34 t.c_LT):=by
 refine T.F_Q16.ok ig (fun vs H Q E h=>?_) (fun cdv A outer s H vs Q E hr h=>?_)
 ·obtain⟨_,_,_,_,_,_,_,rfl,_⟩:=h;rfl
 obtain⟨v,rl,hh,w,x,o,rows,rfl,hv,ok,rt,h1,h9,tb,px,ro,am,wr,k⟩:=h
 refine cY.ok (af (bH 4 ig.nd (aN (ac dy (ac (bD ae) ae gI) ap)))
   (af (uv (i:=5) (R:=(fun C dx H'=>C=t.c_Q34/\cN t.c_LT H H'/\TB H' t.c_LT/\∃ (dd:Addr) (u:V) (r:R),dx=some dd/\H' dd=some (dO dd [("speed", u)])/\RV K H' u r/\dQ rl hh rows=some r)) rfl rfl rfl rfl T.m_Q18 ig.nd rfl rfl (fun _=>(ak (bg (aK gl (qv 3) dy (aJ _)) (ak (bH 4 ig.nd (aN (ac (bI (zj T hB) (hr.mono (by decide)) rfl T.m_Q9 T.F_Q9.kp T.b_Q9 .nil (u3 rfl) (ac (qv 0) (ac (qv 1) (ac (qv 2) ae ad) ad) ad)) (ac (bD ae) ae gI) aB)))) (ak (bH 4 ig.nd (aN (ac (bI (Dq T hB) (hr.mono (by decide)) rfl T.m_Q7 T.F_Q7.kp T.b_Q7 .nil (u3 rfl) (ac (qv 0) (ac (qv 1) (ac (qv 3) ae ad) ad) ad)) (ac (bD ae) ae gI) aB)))))))
   (fun _=>(ak (bH 4 ig.nd (aN (ac (qv 5) (ac (uD (Bt T) (by exact hr.inM (by decide)) rfl T.m_Q15 T.F_Q15.kp T.b_Q15 .nil ef (ac (qv 5) ae ad)) ae aB) ad))))))
   (ak (aE (qv 4))))) ?_
 extract_lets +lift
 try dsimp -zeta -zetaDelta only [Cx.nox,Cx.wish,bw]
 refine⟨(by show 0≤sizeLine;exact Nat.zero_le _),fun l0 h0=>⟨dU,fun p0 g0=>?_⟩⟩
 have s0:=(ai h0 (.lst [])).trans (ai g0 (.tup [.non,.ref l0]))
 generalize upd (upd H l0 (.lst [])) p0 (.tup [.non,.ref l0])=H0 at s0 ⊢
 have t0:=ax.same (K:=K) s0
 have tb0:=iB s0 tb
 have hv0:=hv.mono t0
 refine⟨?_,?_⟩
 ·cases o with
  | none=>
   cases (show x=.non from px)
   obtain⟨rs,rfl⟩:=ro
   obtain⟨pa,xs,rfl,hS,al⟩:=wr rs rfl
   have ams:=am rs List.mem_cons_self
   refine⟨_,rfl,rfl,_,rfl,cW rfl ?_⟩
   refine⟨_,rfl,_,rfl,_,rfl,v,rl,hh,pa,xs,rs,rfl,hv0,ok,rt,t0 _ _ hS,al.mono fun _ _ z=>z.mono t0,ams,h1,h9,tb0,fun nb u1 H1 s1 tb1 r1=>⟨(by show 0≤sizeLine;exact Nat.zero_le _),fun l1 h1'=>⟨dU,fun p1 g1=>?_⟩⟩,fun be d u H1 s1 tb1 ru hd=>⟨_,rfl,rfl,(fun b o nb e=>s1 b o nb (s0 _ _ e)),tb1,d,u,_,rfl,hd,ru,zt (i:=0) rfl be fun j z hj=>absurd hj (Nat.not_lt_zero j)⟩⟩
   have nb':∀ z∈[rs],cM rl (fm hh z)=false:=fun z hz=>by rw [List.mem_singleton.mp hz];exact nb
   rw [show xh rl hh rs=fR rl hh [rs] from (wO (lE ok rt ams h1 h9 nb).red).symm] at r1
   have sa:=ai h1' (.lst [])
   have sb:=ai g1 (.tup [u1,.ref l1])
   have sab:=sa.trans sb
   refine⟨_,rfl,k _ _ (fun b o nb e=>sab _ _ (s1 b o nb (s0 _ _ e))) (iB sab tb1) ?_⟩
   rw [lN nb']
   exact⟨p1,l1,u1,rfl,bo.of ag,sb _ _ ag,r1.mono (ax.same sab)⟩
  | some pl=>
   obtain⟨pk,er⟩:=ro
   obtain⟨pp,xs,ex,hS,al⟩:=id (show gz K H x pl from px)
   have pl0:gz K H0 x pl:=gz.mono (show gz K H x pl from px) t0
   refine⟨_,rfl,rfl,_,rfl,bP (by rw [ex];exact fun z=>nomatch z) ?_⟩
   refine⟨_,rfl,_,rfl,_,rfl,v,rl,hh,x,pl,rfl,hv0,ok,rt,pl0,pk,h1,h9,tb0,fun nb u1 H1 s1 tb1 r1=>⟨(by show 0≤sizeLine;exact Nat.zero_le _),fun l1 h1'=>⟨dU,fun p1 g1=>?_⟩⟩,fun i c hc be bel d u H1 s1 tb1 ru hd=>⟨_,rfl,rfl,(fun b o nb e=>s1 b o nb (s0 _ _ e)),tb1,d,u,_,rfl,hd,ru,?_⟩⟩
   ·have nb':∀ z∈rows,cM rl (fm hh z)=false:=fun z hz=>by
     rw [er] at hz
     obtain⟨c,hc,rfl⟩:=List.mem_map.mp hz
     exact nb c hc
    rw [← er] at r1
    have sa:=ai h1' (.lst [])
    have sb:=ai g1 (.tup [u1,.ref l1])
    have sab:=sa.trans sb
    refine⟨_,rfl,k _ _ (fun b o nb e=>sab _ _ (s1 b o nb (s0 _ _ e))) (iB sab tb1) ?_⟩
    rw [lN nb']
    exact⟨p1,l1,u1,rfl,bo.of ag,sb _ _ ag,r1.mono (ax.same sab)⟩
   ·rw [er]
    refine zt (i:=i) (by rw [List.getElem?_map,hc];rfl) be fun j z hj hz=>?_
    rw [List.getElem?_map] at hz
    cases e:pl[j]? with
    | none=>rw [e] at hz;cases hz
    | some c'=>rw [e] at hz;cases hz;exact bel j c' hj e
 rintro C dx H' ⟨rfl,s1,tb1,dd,u,r,rfl,hd,ru,du⟩
 refine⟨T.x_catch,dd,rfl,fun x hx=>?_⟩
 have s2:=ai hx (rJ x t.c_Q34 dd)
 have ex:=ag (H:=H') (a:=x) (o:=rJ x t.c_Q34 dd)
 have ed:=s2 _ _ hd
 generalize upd H' x (rJ x t.c_Q34 dd)=H2 at s2 ex ed ⊢
 refine⟨_,rfl,_,rfl,x,dd,_,rfl,ex,ed,fun l H3 s3 hl=>⟨dU,fun p4 g4=>?_⟩⟩
 have s4:=ai g4 (.tup [.ref x,.ref l])
 have s24:=(s2.trans s3).trans s4
 refine⟨_,rfl,k _ _ (fun b o nb e=>s24 _ _ (s1 b o nb e)) (iB s24 tb1) ?_⟩
 rw [du]
 exact⟨p4,l,x,dd,u,rfl,bo.of ag,s4 _ _ (s3 _ _ ex),s4 _ _ (s3 _ _ ed),ru.mono (ax.same s24),s4 _ _ hl⟩
theorem vf (T:eE K mg t) (hB:base.BuiltinsAt mg t.c_LT):bB P w K mg base dk 10 t.a_Q17 t.d_Q17 ["_law_rule_here", "_law_hands", "_law_rows", "_law_plan_here"] (kZ K t.c_LT):=by
 refine T.F_Q17.ok d7 (fun vs H Q E h=>?_) (fun cdv A outer s H vs Q E hr h=>?_)
 ·obtain⟨_,_,_,_,_,_,_,_,rfl,_⟩:=h;rfl
 obtain⟨v,rl,hh,q,x,o,ys,rows,rfl,hv,ok,rt,h1,h9,tb,px,ro,am,hq,al,r24,r0,k⟩:=h
 refine cY.ok (af (bH 4 d7.nd (aN (ac ah (ac ah ae ap) ap)))
   (af (bH 5 d7.nd dy)
   (af (cz PassesOwn.never rfl (de (qv 2)) (aL (i:=6) d7.nd rfl (by first | exact Or.inl rfl | exact Or.inr rfl))
   (af (bH 7 d7.nd (bF (Dv T) hr T.m_Q2 T.F_Q2.kp T.b_Q2 (ac (qv 1) (ac (qv 6) ae ad) ad)))
   (ak (bg (fS (jp (aK dh (bv ar (qv 0) ah) lD (aJ _)) (gK (bE (bF (gs T) hr T.m_Q26 T.F_Q26.kp T.b_Q26 (ac (bv ar (bv ar (bv ar (qv 0) ah) (fu dG ah)) ah) (ac (bv bj (qv 7) ah) ae aF) aF)))))) (ak (bH 5 d7.nd (uA (aK gl (qv 5) dy (aJ _)) (bv bj (qv 7) ah) (qv 5)))) (ak (bg (aK gl (qv 5) dy (aJ _)) (ak (bH 4 d7.nd (bF (dI T) hr T.m_Q31 T.F_Q31.kp T.b_Q31 (ac (qv 4) (ac (bF (vd T) hr T.m_Q33 T.F_Q33.kp T.b_Q33 (ac (dg (N':=["_law_speed", "_law_rule_here"]) (src:=[none,some 0]) rfl (by exact (de (qv 7))) (fun _ _ _ _ _=>(by exact (by exact aL (i:=0) (by show List.Nodup (["_law_speed", "_law_rule_here"]:List Str);decide +kernel) (by exact rfl) (by first | exact Or.inl rfl | exact Or.inr rfl)))) (fun _ _ _ _ _=>cP) (fun _ _ _ _ _=>(by exact (by exact (bI (Bu T) (by exact hr.mono (by decide)) (by exact rfl) T.m_Q14 T.F_Q14.kp T.b_Q14 (by exact .nil) (by exact ef) (ac (by exact (qv 1)) (ac (by exact (qv 0)) ae ad) ad))))) (by exact⟨rfl,rfl,rfl,rfl,trivial⟩) rfl (by decide +kernel) rfl (by decide +kernel) (by exact bT rfl ⟨rfl,trivial⟩)) ae dD)) ae aB) ad)))) aI))))))
   (af (bH 8 d7.nd (ay (kI hr) (by rfl) T.z_repr boot_repr (ac (aN (ac (qv 0) (ac (qv 2) (ac (qv 3) ae ad) ad) ad)) ae aO)))
   (af (cz PassesOwn.never rfl (bZ rfl T.z_range (ac ah ae ap)) (aL (i:=9) d7.nd rfl (by first | exact Or.inl rfl | exact Or.inr rfl))
   (af (ij (bI (Bs T hB) (hr.mono (by decide)) rfl T.m_Q16 T.F_Q16.kp T.b_Q16 .nil ef (ac (qv 0) (ac (qv 1) (ac (bv bj (qv 2) ah) (ac (qv 3) ae ad) aF) ad) ad)) (lC rfl (df (aL (i:=10) d7.nd rfl (by first | exact Or.inl rfl | exact Or.inr rfl)) (df (aL (i:=11) d7.nd rfl (by first | exact Or.inl rfl | exact Or.inr rfl)) iR))))
   (af (bg (aK gQ (ay (kI hr) (by rfl) T.z_repr boot_repr (ac (aN (ac (qv 0) (ac (qv 2) (ac (qv 3) ae ad) ad) ad)) ae aO)) (qv 8) (aJ _)) (ak (aE dE)) aI)
   (ak (bg (aK pR (qv 5) dy (aJ _)) (ak (bg (fS (mO (aK (u7 hr) (qv 11) (bD (ac dE (ac dE (ac dE (ac dE ae ap) ap) ap) ap)) (aJ _)) (jo (ii (bE (bF (vg T) hr T.m_Q12 T.F_Q12.kp T.b_Q12 (ac (qv 5) (ac (xf (K:=K) rfl (qv 10) rfl) ae sL) ad))))))) (ak (aE dE)) aI)) (ak (bg (fS (mO (aK (u7 hr) (qv 11) (bD ae) (aJ _)) (jo (ii (bE (bF (vg T) hr T.m_Q12 T.F_Q12.kp T.b_Q12 (ac (qv 4) (ac (qv 10) ae ad) ad))))))) (ak (aE dE)) aI)))))))
   (ak (aE dE))))))) ?_
 extract_lets +lift
 try dsimp -zeta -zetaDelta only [Cx.nox,Cx.wish,bw]
 have hlen:=al.len
 have shw:=ES ro ok am r24
 refine⟨dU,fun p0 g0=>?_⟩
 have s0:=ai g0 (.tup [.int 0,.int 1])
 have r0':RV K (upd H p0 (.tup [.int 0,.int 1])) (.ref p0) (fR rl hh (rows.take 0)):=RV.of ag
 generalize upd H p0 (.tup [.int 0,.int 1])=H0 at s0 r0' ⊢
 refine⟨_,rfl,q,rfl,⟨_,s0.seq hq⟩,eV (K:=K) (a:=q) (xs:=ys) (fun i σ H'=>∃ (u uh:V) (x6 x7:Option V),σ=[some v,some (.int hh),some (.ref q),some x,some u,some uh,x6,x7,none,none,none,none]/\aS H H'/\EB K H' uh (dQ rl hh (rows.take i))/\(dQ rl hh (rows.take i)=none->RV K H' u (fR rl hh (rows.take i)))) ⟨_,.non,none,none,rfl,s0,rfl,fun _=>r0'⟩ (fun i σ H1 _ ⟨_,_,_,_,_,s1,_⟩=>s1.seq hq) ?_ ?_⟩
 ·rintro i y σ H1 hy ⟨u,uh,x6,x7,rfl,s1,hi,du⟩
  obtain⟨rs,hrs,pa,xs',rfl,hS,alr⟩:=al.at hy
  have mrs:=List.mem_of_getElem? hrs
  have ams:=am rs mrs
  have hil:=(List.getElem?_eq_some_iff.mp hrs).1
  have t1:=ax.same (K:=K) s1
  have tk:rows.take (i+1)=rows.take i++[rs]:=by rw [List.take_add_one,hrs];rfl
  refine⟨_,rfl,_,rfl,hh,pa,xs',rs,rfl,t1 _ _ hS,alr.mono fun _ _ z=>z.mono t1,ams,h1,h9,fun l zs H2 s2 hl al2=>?_⟩
  have s02:=s1.trans s2
  have t2:=ax.same (K:=K) s02
  have t12:=ax.same (K:=K) s2
  obtain⟨y0,hy0⟩:∃ y0,zs[0]?=some y0:=⟨_,List.getElem?_eq_getElem (by rw [al2.len,fN ams h1];omega)⟩
  obtain⟨r_,hr_,ry0⟩:=al2.at hy0
  rw [jF ams h1] at hr_
  cases hr_
  have rok:=vQ ams h1 h9
  have ys0:jN zs 0=some y0:=bM (j:=0) hy0
  obtain⟨pr,s0_,z0,ew,hSr,cs⟩:∃ (pr:Addr) (s0:Str) (z0:V),v=.ref pr/\bo K H pr [.str s0,z0]/\((s0≠Str.ofString "table" /\ cM rl (fm hh rs)=false)∨(s0=Str.ofString "table" /\ ∃ (qr:Addr) (xr:List V) (pl:Addr) (y1 y2:V) (tp_:R),z0=.ref qr/\bo K H qr xr/\jN xr (-1)=some (.ref pl)/\bo K H pl [y1,y2]/\RV K H y1 tp_/\Wf 98 tp_/\aD tp_ (fm hh rs)=cM rl (fm hh rs))):=by
   cases rl with
   | pow kk=>
    obtain⟨pr,ew,hSr⟩:=id hv
    exact⟨pr,_,_,ew,hSr,.inl ⟨by decide,rfl⟩⟩
   | tab rows'=>
    have ok':cj rows':=ok
    have n2:=ok'.n2
    obtain⟨pr,qr,xr,ew,hSr,hqr,alr⟩:=id hv
    obtain⟨xl,rlast,hlast,hrl,⟨pl,y1,y2,rfl,hSl,rvt,_⟩,_⟩:=alr.last (n:=rows'.length - 1) (by omega)
    exact⟨pr,_,_,ew,hSr,.inr ⟨rfl,qr,xr,pl,y1,y2,rlast.1,rfl,hqr,hlast,hSl,rvt,zM (ok'.sp _ (List.mem_of_getElem? hrl)),by show _=aD (ja rows') _;unfold ja;rw [cn hrl]⟩⟩
  cases cb:cM rl (fm hh rs) with
  | true=>
   rcases cs with ⟨_,n⟩ | ⟨rfl,qr,xr,pl,y1,y2,tp_,rfl,hqr,hlast,hSl,rvt,wt,lq⟩
   ·rw [cb] at n;cases n
   rw [cb] at lq
   refine⟨_,rfl,pr,_,_,_,ew,rfl,t2 _ _ hSr,rfl,rfl,_,rfl,cW rfl ?_⟩
   refine⟨_,rfl,pr,_,_,_,ew,rfl,t2 _ _ hSr,rfl,_,rfl,qr,_,_,_,rfl,rfl,t2 _ _ hqr,hlast,pl,_,_,_,rfl,rfl,t2 _ _ hSl,rfl,_,rfl,l,_,_,_,rfl,rfl,aR.of hl,ys0,y1,y0,tp_,fm hh rs,98,98,rfl,rvt.mono t2,ry0,wt,rok.sp.wf,by decide,_,rfl,?_⟩
   rw [lq]
   refine fj ?_
   cases cf:dQ rl hh (rows.take i) with
   | none=>
    rw [cf] at hi
    cases (show uh=.non from hi)
    refine⟨_,rfl,rfl,_,rfl,cW rfl ?_⟩
    refine⟨_,rfl,l,_,_,_,rfl,rfl,aR.of hl,ys0,?_⟩
    refine⟨u,y0,_,_,rfl,s02,?_,fun z=>?_⟩
    ·rw [tk,DN cf cb];exact ry0
    ·rw [tk,DN cf cb] at z;cases z
   | some r=>
    rw [cf] at hi
    obtain⟨pu,eu,_⟩:=id (show RV K H1 uh r from hi)
    refine⟨_,rfl,rfl,_,rfl,bP (by rw [eu];exact fun z=>nomatch z) ?_⟩
    refine⟨_,rfl,?_⟩
    refine⟨u,uh,_,_,rfl,s02,?_,fun z=>?_⟩
    ·rw [tk,iX cf];exact RV.mono hi t12
    ·rw [tk,iX cf] at z;cases z
  | false=>
   refine⟨_,rfl,pr,_,_,_,ew,rfl,t2 _ _ hSr,rfl,rfl,_,rfl,?_⟩
   rcases cs with ⟨n,_⟩ | ⟨rfl,qr,xr,pl,y1,y2,tp_,rfl,hqr,hlast,hSl,rvt,wt,lq⟩
   refine bP (fun z=>n (by injection z)) (cU ?_)
   rotate_left
   rw [cb] at lq
   refine cW rfl ?_
   refine⟨_,rfl,pr,_,_,_,ew,rfl,t2 _ _ hSr,rfl,_,rfl,qr,_,_,_,rfl,rfl,t2 _ _ hqr,hlast,pl,_,_,_,rfl,rfl,t2 _ _ hSl,rfl,_,rfl,l,_,_,_,rfl,rfl,aR.of hl,ys0,y1,y0,tp_,fm hh rs,98,98,rfl,rvt.mono t2,ry0,wt,rok.sp.wf,by decide,_,rfl,?_⟩
   rw [lq]
   refine cU ?_
   all_goals
    cases cf:dQ rl hh (rows.take i) with
    | none=>
     rw [cf] at hi
     cases (show uh=.non from hi)
     have ru:=(du cf).mono t12
     refine⟨_,rfl,rfl,_,rfl,cW rfl ?_⟩
     have bel:=ir ok ams h1 h9 cb
     refine⟨_,rfl,_,rfl,l,rfl,⟨_,aR.of hl⟩,fun D hD=>kG (K:=K) (a:=l) (xs:=zs) (ds:=oS hh rs) (P:=RV K) (f:=js rl) (fun _ _ _ _ t z=>z.mono t) hD (aR.of hl) al2.len (by rw [fN ams h1];omega) (fun j y s H' hy hs sm Rk E kR=>?_) fun HA ms sA hmA amA=>?_⟩
     ·obtain⟨s',hs',rvs⟩:=al2.at hy
      rw [hs] at hs'
      cases hs'
      have mh:=List.mem_of_getElem? hs
      have t':=t2.trans (ax.same (K:=K) sm)
      refine⟨hZ.set rfl,_,rfl,_,rfl,v,y,rl,s,rfl,hv.mono t',ok,rvs.mono (ax.same sm),(iq ams h1 h9 s mh).sp,bel s mh,fun u9 H9 s9 r9=>kR u9 H9 s9 r9⟩
     refine⟨D,ms,(oS hh rs).map (js rl),16500877357173888629751223333757772330952457491316736000000000000,85030560000,260,rfl,aR.of hmA,amA,(fun r hr=>?_),by decide,by decide,by decide,(by rw [List.length_map,fN ams h1];omega),by decide,fun u5 H5 s5 r5=>?_⟩
     ·obtain⟨s,hs,rfl⟩:=List.mem_map.mp hr
      exact ou ok rt (iq ams h1 h9 s hs) (bel s hs)
     have bd:=BW (rows:=rows.take i) ok rt (fun z hz=>am z (List.mem_of_mem_take hz)) h1 h9 (oU cf) (by rw [List.length_take];omega)
     have bp:=lE ok rt ams h1 h9 cb
     refine⟨u,u5,fR rl hh (rows.take i),xh rl hh rs,260,260,rfl,ru.mono (ax.same (sA.trans s5)),r5,bd.wf (by decide) (by decide) (by decide),bp.wf (by decide) (by decide) (by decide),by decide,fun p6 g6=>?_⟩
     rw [← vZ,← tk]
     have s6:=ai g6 (.tup [.int (fR rl hh (rows.take (i+1))).1,.int (fR rl hh (rows.take (i+1))).2])
     refine⟨_,.non,_,_,rfl,((s02.trans sA).trans s5).trans s6,?_,fun _=>RV.of ag⟩
     rw [tk,Fe cf cb]
     rfl
    | some r=>
     rw [cf] at hi
     obtain⟨pu,eu,_⟩:=id (show RV K H1 uh r from hi)
     refine⟨_,rfl,rfl,_,rfl,bP (by rw [eu];exact fun z=>nomatch z) ?_⟩
     refine⟨u,uh,_,_,rfl,s02,?_,fun z=>?_⟩
     ·rw [tk,iX cf];exact RV.mono hi t12
     ·rw [tk,iX cf] at z;cases z
 ·rintro σ H1 ⟨u,uh,x6,x7,rfl,s1,hi,du⟩
  rw [hlen,List.take_length] at hi du
  have t1:=ax.same (K:=K) s1
  refine⟨_,rfl,_,rfl,_,rfl,zK,fun p2 g2=>?_⟩
  have e2:=ai g2 (.tup [v,.ref q,x])
  have q2:bo K (upd H1 p2 (.tup [v,.ref q,x])) p2 [v,.ref q,x]:=bo.of ag
  generalize upd H1 p2 (.tup [v,.ref q,x])=H2 at e2 q2 ⊢
  have s2:=s1.trans e2
  have t2:=ax.same (K:=K) s2
  have hi2:=hi.mono (ax.same e2)
  have du2:dQ rl hh rows=none->RV K H2 u (fR rl hh rows):=fun z=>(du z).mono (ax.same e2)
  refine⟨_,_,rfl,zx q2 (hv.mono t2) (s2.seq hq) (al.mono fun _ _ z=>z.mono t2) (px.mono t2),shw,?_⟩
  have tb2:=iB s2 tb
  refine⟨2,rfl,by decide,by decide,cX (lo:=0) (n:=2) (fun i σ H'=>∃ (x9 x10 x11:Option V),σ=[some v,some (.int hh),some (.ref q),some x,some u,some uh,x6,x7,some (.str (PyData.shown (.tuple [Co rl,.list (rows.map Et),DS o]))),x9,x10,x11]/\cN t.c_LT H2 H'/\TB H' t.c_LT) ⟨none,none,none,rfl,(fun _ _ _ e=>e),tb2⟩ ?_ ?_⟩
  rotate_left
  ·rintro σ H3 ⟨_,_,_,rfl,s3,tb3⟩
   exact k _ (fun b o nb e=>s3 b o nb (s2 _ _ e)) tb3
  rintro i σ H3 _ ⟨x9,x10,x11,rfl,s3,tb3⟩
  have t3:=dt (K:=K) s3 tb2
  have t03:=t2.trans t3
  have hq3:aR K H3 q ys:=CT s3 tb2 (s2.seq hq)
  obtain⟨w0,hw0⟩:∃ w0,ys[0]?=some w0:=⟨_,List.getElem?_eq_getElem (by omega)⟩
  have aw0:jN ys 0=some w0:=bM (j:=0) hw0
  have wr:∀ rs,rows=[rs]->rY K H3 w0 rs:=fun rs e=>by
   obtain⟨rs',hrs',sq⟩:=al.at hw0
   rw [e] at hrs'
   cases hrs'
   exact sq.mono t03
  refine⟨_,rfl,_,rfl,_,rfl,q,_,_,_,rfl,rfl,hq3,aw0,_,rfl,v,rl,hh,w0,x,o,rows,rfl,hv.mono t03,ok,rt,h1,h9,tb3,px.mono t03,ro,am,wr,fun ut H4 s4 tb4 tr=>?_⟩
  have s24:cN t.c_LT H2 H4:=fun b o nb e=>s4 b o nb (s3 b o nb e)
  have t24:=dt (K:=K) s24 tb2
  have t04:=t2.trans t24
  obtain⟨p,l,f0,rfl,hp,hl⟩:∃ (p l:Addr) (f0:V),ut=.ref p/\bo K H4 p [f0,.ref l]/\((dQ rl hh rows=none/\RV K H4 f0 (fR rl hh rows)/\H4 l=some (.lst []))∨∃ r x dd y,dQ rl hh rows=some r/\f0=.ref x/\H4 x=some (rJ x t.c_Q34 dd)/\H4 dd=some (dO dd [("speed", y)])/\RV K H4 y r/\H4 l=some (.lst [.bl true,.bl true,.bl true,.bl false])):=by
   cases fs:dQ rl hh rows with
   | none=>
    rw [fs] at tr
    obtain⟨p,l,v1,e1,e2,e3,e4⟩:=tr
    exact⟨p,l,v1,e1,e2,.inl ⟨rfl,e4,e3⟩⟩
   | some r=>
    rw [fs] at tr
    obtain⟨p,l,x,dd,y,e1,e2,e3,e4,e5,e6⟩:=tr
    exact⟨p,l,.ref x,e1,e2,.inr ⟨r,x,dd,y,rfl,rfl,e3,e4,e5,e6⟩⟩
  refine⟨p,_,rfl,hp,rfl,_,_,rfl,_,_,rfl,rfl,?_⟩
  refine⟨_,rfl,_,rfl,_,rfl,zK,fun p5 g5=>?_⟩
  have e5:=ai g5 (.tup [v,.ref q,x])
  have q5:bo K (upd H4 p5 (.tup [v,.ref q,x])) p5 [v,.ref q,x]:=bo.of ag
  generalize upd H4 p5 (.tup [v,.ref q,x])=H5 at e5 q5 ⊢
  have t05:=t04.trans (ax.same (K:=K) e5)
  have t25:=t24.trans (ax.same (K:=K) e5)
  have hq5:aR K H5 q ys:=e5.seq (CT s24 tb2 (s2.seq hq))
  refine⟨_,_,rfl,zx q5 (hv.mono t05) hq5 (al.mono fun _ _ z=>z.mono t05) (px.mono t05),shw,_,rfl,rfl,_,rfl,iG rfl ?_⟩
  have fin:∀ H6,aS H5 H6->cN t.c_LT H2 H6/\TB H6 t.c_LT:=fun H6 s6=>⟨fun b o nb e=>s6 _ _ (e5 _ _ (s24 b o nb e)),iB s6 (iB e5 tb4)⟩
  rcases hl with ⟨no,rb,hl⟩ | ⟨r,xx,dd,y,so,rfl,hx,hd,ry,hl⟩
  ·rw [no] at hi2
   cases (show uh=.non from hi2)
   refine⟨_,rfl,rfl,_,rfl,iG rfl ?_⟩
   refine⟨_,rfl,(by show 0≤sizeLine;exact Nat.zero_le _),fun l6 g6=>?_⟩
   have e6:=ai g6 (.lst [])
   have h6:upd H5 l6 (.lst []) l6=some (.lst []):=ag
   generalize upd H5 l6 (.lst [])=H6 at e6 h6 ⊢
   refine⟨.list [],.list [],.lst (aR.of (e6 _ _ (e5 _ _ hl))) .nil,.lst (aR.of h6) .nil,rfl,rfl,by decide,_,rfl,vH rfl ?_⟩
   refine⟨_,rfl,_,rfl,u,f0,fR rl hh rows,rfl,((du2 no).mono t25).mono (ax.same e6),rb.mono (ax.same (e5.trans e6)),fun H7 s7=>⟨_,rfl,?_⟩⟩
   exact cU ⟨_,_,_,rfl,fin _ (e6.trans s7)⟩
  ·rw [so] at hi2
   obtain⟨pu,eu,_⟩:=id (show RV K H2 uh r from hi2)
   refine⟨_,rfl,rfl,_,rfl,pX (by rw [eu];exact fun z=>nomatch z) ?_⟩
   refine⟨_,rfl,EC,fun l6 g6=>?_⟩
   have e6:=ai g6 (.lst [.bl true,.bl true,.bl true,.bl false])
   have h6:upd H5 l6 (.lst [.bl true,.bl true,.bl true,.bl false]) l6=some (.lst [.bl true,.bl true,.bl true,.bl false]):=ag
   generalize upd H5 l6 (.lst [.bl true,.bl true,.bl true,.bl false])=H6 at e6 h6 ⊢
   have e56:=e5.trans e6
   refine⟨(.list [.bool true,.bool true,.bool true,.bool false]),(.list [.bool true,.bool true,.bool true,.bool false]),.lst (aR.of (e56 _ _ hl)) (.cons (.bl _) (.cons (.bl _) (.cons (.bl _) (.cons (.bl _) .nil)))),.lst (aR.of h6) (.cons (.bl _) (.cons (.bl _) (.cons (.bl _) (.cons (.bl _) .nil)))),rfl,rfl,by decide,_,rfl,vH rfl ?_⟩
   refine⟨_,rfl,_,rfl,xx,_,dd,_,_,_,rfl,.inl (e56 _ _ hx),e56 _ _ hd,T.X_Q34.cl,T.g_Q34,T.n_Q34_speed,rfl,?_⟩
   refine⟨uh,y,r,rfl,(RV.mono hi2 t25).mono (ax.same e6),ry.mono (ax.same e56),fun H7 s7=>⟨_,rfl,?_⟩⟩
   exact cU ⟨_,_,_,rfl,fin _ (e6.trans s7)⟩
theorem Bg (T:eE K mg t) (hB:base.BuiltinsAt mg t.c_LT):bB P w K mg base dk 11 t.a_Q51 t.d_Q51 ["_law_script"] (k9 K t.c_LT):=by
 refine T.F_Q51.ok eZ (fun vs H Q E h=>?_) (fun cdv A outer s H vs Q E hr h=>?_)
 ·obtain⟨_,_,rfl,_⟩:=h;rfl
 obtain⟨a,ns,rfl,hS,hl,hT,k⟩:=h
 refine cY.ok (af (bH 1 eZ.nd (bF (Bn T) hr T.m_Q23 T.F_Q23.kp T.b_Q23 (ac (qv 0) ae ad)))
   (af (cz PassesOwn.never rfl (bZ rfl T.z_range (ac ah ae ap)) (aL (i:=2) eZ.nd rfl (by first | exact Or.inl rfl | exact Or.inr rfl))
   (af (bH 3 eZ.nd (bF (Dp T) hr T.m_Q8 T.F_Q8.kp T.b_Q8 (ac (qv 1) ae ad)))
   (af (bH 4 eZ.nd (aG bJ ah (bF (bA T) hr T.m_Q24 T.F_Q24.kp T.b_Q24 (ac (qv 1) (ac ah ae ap) ad))))
   (af (bH 5 eZ.nd (bv bj (bD (ac (bF (mR T) hr T.m_Q33 T.F_Q33.kp T.b_Q33 (ac (qv 3) ae ad)) (ac (aN (ac ah (ac ah ae ap) ap)) (ac (aN (ac ah (ac ah ae ap) ap)) ae aO) aO) aB)) (bF (bA T) hr T.m_Q24 T.F_Q24.kp T.b_Q24 (ac (qv 1) (ac ah ae ap) ad))))
   (af (bH 6 eZ.nd (bF (Bm T) hr T.m_Q27 T.F_Q27.kp T.b_Q27 (ac (qv 1) (ac (cc gZ (by rfl) T.z_list boot_list (ac (qv 3) ae ad)) (ac (qv 5) ae ad) aB) ad)))
   (af (bg (ii (bE (bI (vf T hB) (hr.mono (by decide)) rfl T.m_Q17 T.F_Q17.kp T.b_Q17 .nil ef (ac (qv 6) (ac (qv 4) (ac (bD (ac (qv 3) ae ad)) (ac dy ae ap) gI) ad) ad)))) (ak (aE dE)) aI)
   (af (bH 7 eZ.nd (bF (Bl T) hr T.m_Q28 T.F_Q28.kp T.b_Q28 (ac (qv 1) (ac (bF (Bv T) hr T.m_Q13 T.F_Q13.kp T.b_Q13 (ac (qv 1) (ac (bF (bA T) hr T.m_Q24 T.F_Q24.kp T.b_Q24 (ac (qv 1) (ac ah ae ap) ad)) ae aB) ad)) ae aB) ad)))
   (af (iQ (i:=8) (N':=["_law_turn"]) (src:=[none]) eZ.nd rfl (by first | exact Or.inl rfl | exact Or.inr rfl) rfl (by exact (gf (qv 7))) (fun _ _ _ _ _=>(by exact (by exact aL (i:=0) (by show List.Nodup (["_law_turn"]:List Str);decide +kernel) (by exact rfl) (by first | exact Or.inl rfl | exact Or.inr rfl)))) (fun _ _ _ _ _=>cP) (fun _ _ _ _ _=>(by exact (by exact (cc (eD (K:=K) (by exact rfl)) (by exact rfl) T.z_tuple boot_tuple (ac (by exact (dg (N':=["_law_piece"]) (src:=[none]) (by exact rfl) (by exact (pJ (K:=K) (by exact rfl) (by exact (qv 0)))) (by exact fun _ _ _ _ _=>(by exact (by exact aL (i:=0) (by show List.Nodup (["_law_piece"]:List Str);decide +kernel) (by exact rfl) (by first | exact Or.inl rfl | exact Or.inr rfl)))) (by exact fun _ _ _ _ _=>cP) (by exact fun _ _ _ _ _=>(by exact (by exact (gN (fM (K:=K) (by exact rfl)) (by exact (qv 0)) ah (by exact fun _ _=>rfl))))) (by exact trivial) (by exact rfl) (by decide +kernel) (by exact rfl) (by decide +kernel) (by exact bT rfl trivial))) ae dD))))) (by exact trivial) rfl (by decide +kernel) rfl (by decide +kernel) (by exact bT rfl trivial))
   (ak (bg (ii (bE (bI (vf T hB) (hr.mono (by decide)) rfl T.m_Q17 T.F_Q17.kp T.b_Q17 .nil ef (ac (qv 6) (ac (qv 4) (ac (qv 8) (ac (qv 7) ae ad) ad) ad) ad)))) (ak (aE dE)) aI))))))))))
   (ak (aE dE)))) ?_
 extract_lets +lift
 try dsimp -zeta -zetaDelta only [Cx.nox,Cx.wish,bw]
 refine⟨_,rfl,a,ns,rfl,hS,hl,fun t₁ H1 s1 ht T1=>?_⟩
 refine⟨8,rfl,by decide,by decide,cX (lo:=0) (n:=8) (fun i σ H'=>∃ (x2 x3 x4 x5 x6 x7 x8:Option V),σ=[some (.ref a),some (.ref t₁),x2,x3,x4,x5,x6,x7,x8]/\bx K H' t₁ a/\TB H' t.c_LT) ⟨none,none,none,none,none,none,none,rfl,T1,iB s1 (.inl hT)⟩ ?_ ?_⟩
 rotate_left
 ·rintro σ H2 ⟨_,_,_,_,_,_,_,rfl,_,_⟩
  exact k _
 rintro i₀ σ H2 _ ⟨x2,x3,x4,x5,x6,x7,x8,rfl,tp,tb⟩
 refine⟨_,rfl,t₁,a,rfl,tp,fun va rs H3 S3 T3 sa l9 aw=>?_⟩
 have tb3:=CH S3 tb
 have am:cE rs:=⟨fun r hr=>(aw r hr).am,l9⟩
 obtain⟨y3,e3⟩:=T3.lst
 refine⟨_,rfl,t₁,a,9,rfl,T3,by omega,by omega,fun r4 x4_ a4 b4 T4=>?_⟩
 have S4:aX t₁ H3 _:=aX.up (ys:=x4_) e3
 generalize upd H3 t₁ (.lst x4_)=H4 at T4 S4 ⊢
 have tb4:=CH S4 tb3
 replace sa:=sa.mono (ax.step S4)
 obtain⟨pa,xa,rfl,hA,alA⟩:=id sa
 obtain⟨rr,rfl⟩:=Int.eq_ofNat_of_zero_le a4
 refine⟨_,_,rfl,rfl,?_⟩
 dsimp only
 rw [show (1:Int)+((rr:Nat):Int)=((1+rr:Nat):Int) by omega]
 have h1:1≤1+rr:=by omega
 have h9:1+rr≤9:=by omega
 generalize 1+rr=hh at h1 h9 ⊢
 clear tp T3 S3 S4 e3 tb tb3
 refine⟨_,rfl,pa,xa,rs,84,60,30,rfl,hA,alA,(fun r hr=>(aw r hr).bq),by decide,by decide,by decide,by omega,by decide,fun u5 H5 s5 r5=>?_⟩
 refine⟨dU,fun p6 g6=>⟨dU,fun p7 g7=>⟨zK,fun l8 g8=>?_⟩⟩⟩
 have e6:=ai g6 (.tup [.int 1,.int 1])
 have e7:=ai g7 (.tup [.int 4,.int 1])
 have n8:l8≠t₁:=fun z=>by
  subst z
  obtain⟨_,e⟩:=T4.lst
  have q:=(e6.trans e7) _ _ (s5 _ _ e)
  rw [g8] at q
  cases q
 have e8:=ai g8 (.lst [u5,.ref p6,.ref p7])
 have h8:upd (upd (upd H5 p6 (.tup [.int 1,.int 1])) p7 (.tup [.int 4,.int 1])) l8 (.lst [u5,.ref p6,.ref p7]) l8=some (.lst [u5,.ref p6,.ref p7]):=ag
 have r6:RV K (upd (upd (upd H5 p6 (.tup [.int 1,.int 1])) p7 (.tup [.int 4,.int 1])) l8 (.lst [u5,.ref p6,.ref p7])) (.ref p6) (1,1):=RV.mono (RV.of ag) (ax.same (e7.trans e8))
 have r7:RV K (upd (upd (upd H5 p6 (.tup [.int 1,.int 1])) p7 (.tup [.int 4,.int 1])) l8 (.lst [u5,.ref p6,.ref p7])) (.ref p7) (4,1):=RV.mono (RV.of ag) (ax.same e8)
 have e58:=(e6.trans e7).trans e8
 generalize upd (upd (upd H5 p6 (.tup [.int 1,.int 1])) p7 (.tup [.int 4,.int 1])) l8 (.lst [u5,.ref p6,.ref p7])=H8 at e8 h8 r6 r7 e58 ⊢
 have s48:=s5.trans e58
 have T8:=T4.same s48
 have tb8:=iB s48 tb4
 have sa8:=sa.mono (ax.same s48)
 have r58:=r5.mono (ax.same e58)
 clear T4 tb4 sa hA alA s48 e58 e8 e7 e6 r5 s5
 obtain⟨y8,e8⟩:=T8.lst
 refine⟨_,rfl,t₁,a,3,rfl,T8,by omega,by omega,fun r9 x9_ a9 b9 T9=>?_⟩
 have S9:aX t₁ H8 _:=aX.up (ys:=x9_) e8
 have h89:upd H8 t₁ (.lst x9_) l8=some (.lst [u5,.ref p6,.ref p7]):=by rw [av n8];exact h8
 generalize upd H8 t₁ (.lst x9_)=H9 at T9 S9 h89 ⊢
 have t9:=ax.step (K:=K) S9
 have tb9:=CH S9 tb8
 have sa9:=sa8.mono t9
 obtain⟨um,rm,hat,rvm,kim,nnm⟩:∃ (um:V) (rm:R),jN [u5,.ref p6,.ref p7] r9=some um/\RV K H9 um rm/\zI rm/\0≤rm.1:=by
  rcases (show r9=0∨r9=1∨r9=2 by omega) with rfl | rfl | rfl
  ·exact⟨u5,bR rs,rfl,r58.mono t9,(cD am 0).mono (by decide) (Nat.le_refl _),qf am 0⟩
  ·exact⟨.ref p6,(1,1),rfl,r6.mono t9,(io (n:=1) (by decide)).mono (by decide) (by decide),by decide⟩
  ·exact⟨.ref p7,(4,1),rfl,r7.mono t9,(io (n:=4) (by decide)).mono (by decide) (by decide),by decide⟩
 refine⟨l8,_,_,_,rfl,rfl,aR.of h89,hat,?_⟩
 clear T8 tb8 sa8 S9 t9 h8 e8 r6 r7 r58 h89 hat
 obtain⟨pa_,xa,epa,hA,alA⟩:=id sa9
 cases epa
 refine⟨_,rfl,_,rfl,pa,xa,rfl,.inr hA,fun lk gk=>?_⟩
 have ek:=ai gk (.lst xa)
 have hk:upd H9 lk (.lst xa) lk=some (.lst xa):=ag
 have nk:lk≠t₁:=fun z=>by
  subst z
  obtain⟨_,e⟩:=T9.lst
  rw [gk] at e
  cases e
 generalize upd H9 lk (.lst xa)=H10 at ek hk ⊢
 have tk:=ax.same (K:=K) ek
 refine⟨_,rfl,t₁,a,lk,xa,um,rs,rm,rfl,T9.same ek,nk,hk,alA.mono fun _ _ z=>z.mono tk,(fun r hr=>(am.ok r hr).bq.mono (by decide) (by decide)),by omega,rvm.mono tk,kim,nnm,fun vr rl H11 S11 T11 rv okr rtl=>?_⟩
 have sa11:=(sa9.mono tk).mono (ax.step (K:=K) S11)
 have tb11:=CH S11 (iB ek tb9)
 clear T9 tb9 sa9 hA alA ek hk tk S11 rvm gk
 refine⟨_,rfl,_,rfl,_,rfl,yS,fun lr gr=>?_⟩
 have er:=ai gr (.lst [.ref pa])
 have hr':upd H11 lr (.lst [.ref pa]) lr=some (.lst [.ref pa]):=ag
 generalize upd H11 lr (.lst [.ref pa])=H12 at er hr' ⊢
 have tr:=ax.same (K:=K) er
 have tb12:=iB er tb11
 have T12:=T11.same er
 have rv12:=rv.mono tr
 refine⟨vr,rl,hh,lr,.non,none,[.ref pa],[rs],rfl,rv12,okr,rtl,h1,h9,tb12,rfl,⟨rs,rfl⟩,(fun z hz=>by rw [List.mem_singleton.mp hz];exact am),aR.of hr',.cons (sa11.mono tr) .nil,(by show 1≤24;decide),(by show 0 < 1;decide),fun H13 s13 tb13=>⟨_,rfl,cU ?_⟩⟩
 have rv13:=rv12.mono (dt (K:=K) s13 tb12)
 have T13:=yU T12 s13 tb12
 clear T11 T12 tb11 tb12 sa11 rv rv12 s13 er hr' tr gr
 obtain⟨y13,e13⟩:=T13.lst
 refine⟨_,rfl,_,rfl,_,rfl,t₁,a,7,rfl,T13,by omega,by omega,fun r14 x14_ a14 b14 T14=>?_⟩
 have S14:aX t₁ H13 _:=aX.up (ys:=x14_) e13
 generalize upd H13 t₁ (.lst x14_)=H14 at T14 S14 ⊢
 obtain⟨m,rfl⟩:=Int.eq_ofNat_of_zero_le a14
 refine⟨t₁,a,m,rfl,T14,by omega,fun vw ws H15 S15 T15 wv lw okw=>?_⟩
 refine⟨t₁,a,vw,ws,rfl,T15,wv,by omega,okw,fun vp pl H16 S16 T16 pv pk p0=>?_⟩
 have S:=(S14.trans S15).trans S16
 have tb16:=CH S tb13
 have rv16:=rv13.mono (ax.step (K:=K) S)
 clear S14 S15 S16 S T13 T14 T15 tb13 rv13 wv e13
 obtain⟨pp,xs,rfl,hp,al⟩:=id pv
 have l24:=pk.len
 refine⟨_,rfl,pp,rfl,⟨_,hp⟩,fun D hD=>iw (K:=K) (P:=rY K) (ds:=pl) (f:=l7) (fun _ _ _ _ t z=>z.mono t) hD hp al.len (by omega) (fun i x d H' hx hd sm Rk E kR=>?_) fun HA ms sA hmA amA=>?_⟩
 ·obtain⟨d',hd',pq,yq,rfl,hpq,aq⟩:=al.at hx
  rw [hd] at hd'
  cases hd'
  have t':=ax.same (K:=K) sm
  have lc:=(pk.ok d (List.mem_of_getElem? hd)).len
  unfold l7 at lc
  rw [List.length_map] at lc
  refine⟨hZ.set rfl,_,rfl,pq,rfl,⟨_,t' _ _ hpq⟩,fun D3 hD3=>iw (K:=K) (P:=RV K) (ds:=d) (f:=fun c=>c.2) (fun _ _ _ _ t z=>z.mono t) hD3 (t' _ _ hpq) aq.len (by omega) (fun j y c H'' hy hc sm2 Rk2 E2 kR2=>?_) fun HB qs sB hqB aqB=>?_⟩
  ·obtain⟨c',hc',pc_,rv_,rfl,hpc,rrv⟩:=aq.at hy
   rw [hc] at hc'
   cases hc'
   have t'':=t'.trans (ax.same (K:=K) sm2)
   exact⟨hZ.set rfl,_,rfl,pc_,_,_,_,rfl,rfl,t'' _ _ hpc,rfl,kR2 _ _ (aS.refl _) (rrv.mono t'')⟩
  refine⟨D3,qs,rfl,.inl ⟨aR.of hqB,fun l hl=>?_⟩⟩
  have sl:=ai hl (.tup qs)
  exact kR _ _ (sB.trans sl) ⟨l,qs,rfl,bo.of ag,aqB.mono fun _ _ z=>z.mono (ax.same sl)⟩
 have tA:=ax.same (K:=K) sA
 refine⟨_,rfl,_,rfl,_,rfl,_,rfl,vr,rl,hh,D,.ref pp,some pl,ms,pl.map l7,rfl,rv16.mono tA,okr,rtl,h1,h9,iB sA tb16,gz.mono pv tA,⟨pk,rfl⟩,(fun z hz=>?_),aR.of hmA,amA,(by rw [List.length_map];exact l24),(by rw [List.length_map];exact p0),fun HF sF tbF=>⟨_,rfl,cU ?_⟩⟩
 ·obtain⟨c,hc,rfl⟩:=List.mem_map.mp hz
  exact pk.ok c hc
 exact⟨_,_,_,_,_,_,_,rfl,yU (T16.same sA) sF (iB sA tb16),tbF⟩
end
set_option autoImplicit true in
set_option relaxedAutoImplicit true in
open PySem.W in
theorem all_mk {l:OpenLaw} {w:World} {K:Frag} {h:Heap} {mg:Str->Option Value} {fa:Addr} (X:K.In h) (G:h.Ns mainGlobals mg) (hfa:mg "law" = some (.ref fa))
  {f_Q39:Addr} {d_Q39:FuncData} (h_copied:dM K "copied" tO f_Q39 d_Q39)
  {f_Q0:Addr} {d_Q0:FuncData} (h_greatest_divisor:dM K "greatest_divisor" AB f_Q0 d_Q0)
  {f_Q45:Addr} {d_Q45:FuncData} (h_ratio:dM K "ratio" tK f_Q45 d_Q45)
  {f_Q49:Addr} {d_Q49:FuncData} (h_plus:dM K "plus" tF f_Q49 d_Q49)
  {f_Q46:Addr} {d_Q46:FuncData} (h_minus:dM K "minus" tJ f_Q46 d_Q46)
  {f_Q47:Addr} {d_Q47:FuncData} (h_times:dM K "times" tH f_Q47 d_Q47)
  {f_Q50:Addr} {d_Q50:FuncData} (h_over:dM K "over" tE f_Q50 d_Q50)
  {f_Q40:Addr} {d_Q40:FuncData} (h_raised:dM K "raised" tN f_Q40 d_Q40)
  {f_Q30:Addr} {d_Q30:FuncData} (h_is_less:dM K "is_less" tS f_Q30 d_Q30)
  {f_Q48:Addr} {d_Q48:FuncData} (h_total:dM K "total" tG f_Q48 d_Q48)
  {f_Q5:Addr} {d_Q5:FuncData} (h_whole_parts:dM K "whole_parts" Aw f_Q5 d_Q5)
  {f_Q3:Addr} {d_Q3:FuncData} (h_falling_order:dM K "falling_order" Ay f_Q3 d_Q3)
  {f_Q4:Addr} {d_Q4:FuncData} (h_slope_between:dM K "slope_between" Ax f_Q4 d_Q4)
  {f_Q41:Addr} {d_Q41:FuncData} (h_top_of:dM K "top_of" tM f_Q41 d_Q41)
  {f_Q11:Addr} {d_Q11:FuncData} (h_is_beyond:dM K "is_beyond" uk f_Q11 d_Q11)
  {f_Q20:Addr} {d_Q20:FuncData} (h_place_of:dM K "place_of" uc f_Q20 d_Q20)
  {f_Q21:Addr} {d_Q21:FuncData} (h_power_at:dM K "power_at" ub f_Q21 d_Q21)
  {f_Q22:Addr} {d_Q22:FuncData} (h_power_of:dM K "power_of" ua f_Q22 d_Q22)
  {f_Q6:Addr} {d_Q6:FuncData} (h_hand_speeds:dM K "hand_speeds" Av f_Q6 d_Q6)
  {f_Q9:Addr} {d_Q9:FuncData} (h_turn_power:dM K "turn_power" Ar f_Q9 d_Q9)
  {f_Q7:Addr} {d_Q7:FuncData} (h_hands_power:dM K "hands_power" Au f_Q7 d_Q7)
  {f_Q23:Addr} {d_Q23:FuncData} (h_law_tape:dM K "_law_tape" t7 f_Q23 d_Q23)
  {f_Q24:Addr} {d_Q24:FuncData} (h_law_draw:dM K "_law_draw" t5 f_Q24 d_Q24)
  {f_Q12:Addr} {d_Q12:FuncData} (h_law_alike:dM K "_law_alike" uj f_Q12 d_Q12)
  {f_Q25:Addr} {d_Q25:FuncData} (h_law_frac:dM K "_law_frac" tZ f_Q25 d_Q25)
  {f_Q31:Addr} {d_Q31:FuncData} (h_law_add:dM K "_law_add" tR f_Q31 d_Q31)
  {f_Q32:Addr} {d_Q32:FuncData} (h_law_mul:dM K "_law_mul" tQ f_Q32 d_Q32)
  {f_Q26:Addr} {d_Q26:FuncData} (h_law_less:dM K "_law_less" tY f_Q26 d_Q26)
  {f_Q33:Addr} {d_Q33:FuncData} (h_law_sum:dM K "_law_sum" tP f_Q33 d_Q33)
  {f_Q13:Addr} {d_Q13:FuncData} (h_law_works:dM K "_law_works" ui f_Q13 d_Q13)
  {f_Q27:Addr} {d_Q27:FuncData} (h_law_rule:dM K "_law_rule" tW f_Q27 d_Q27)
  {f_Q10:Addr} {d_Q10:FuncData} (h_law_rising:dM K "_law_rising" ul f_Q10 d_Q10)
  {f_Q14:Addr} {d_Q14:FuncData} (h_law_power:dM K "_law_power" ug f_Q14 d_Q14)
  {f_Q28:Addr} {d_Q28:FuncData} (h_law_plan:dM K "_law_plan" tV f_Q28 d_Q28)
  {f_Q1:Addr} {d_Q1:FuncData} (h_law_least_first:dM K "_law_least_first" AA f_Q1 d_Q1)
  {f_Q15:Addr} {d_Q15:FuncData} (h_law_marks:dM K "_law_marks" uf f_Q15 d_Q15)
  {f_Q29:Addr} {d_Q29:FuncData} (h_law_mean:dM K "_law_mean" tU f_Q29 d_Q29)
  {f_Q2:Addr} {d_Q2:FuncData} (h_law_hand_speeds:dM K "_law_hand_speeds" Az f_Q2 d_Q2)
  {f_Q16:Addr} {d_Q16:FuncData} (h_law_tried:dM K "_law_tried" ue f_Q16 d_Q16)
  {f_Q17:Addr} {d_Q17:FuncData} (h_law_right:dM K "_law_right" ud f_Q17 d_Q17)
  {f_Q8:Addr} {d_Q8:FuncData} (h_law_amounts:dM K "_law_amounts" As f_Q8 d_Q8)
  {f_Q51:Addr} {d_Q51:FuncData} (h_law:dM K "law" tD f_Q51 d_Q51)
  {f_NOUGHT:Addr} {od_NOUGHT:Option Addr} {sl_NOUGHT:Array (Option Value)} {tkNOUGHT0 tkNOUGHT1:Tok} {n_NOUGHT:Nat} (p_NOUGHT:nsIn K mainGlobals "NOUGHT" = some (some (.ref f_NOUGHT))) (l_NOUGHT:K.lookup f_NOUGHT=some ⟨.type "tuple", od_NOUGHT,.seq #[.int (0) tkNOUGHT0,.int (1) tkNOUGHT1] n_NOUGHT,sl_NOUGHT⟩)
  {tkPOWER:Tok} (p_POWER:nsIn K mainGlobals "POWER" = some (some (.str "power" tkPOWER)))
  {cB NB:Addr} {nmB qB:Str} {bsB:List Value} {hdB:Bool} {snB:List Str} {suB:List Value} {abB:Bool} {coB:Option Bool} {ddB:Option Addr} {j0 j1 j2 j3 j5:Option Value} {ocB:Value} {odB:Option Addr} {esB:Array DictEntry} {nB:Nat} {slB:Array (Option Value)}
  (pB:nsIn K mainGlobals "PaceError" = some (some (.ref cB))) (lB:K.lookup cB=some (excClassObj nmB qB cB NB bsB [.type "ValueError", .type "Exception", .type "BaseException", .type "object"] hdB snB suB abB coB ddB j0 j1 j2 j3 j5 "ValueError.__new__")) (lnB:K.lookup NB=some ⟨ocB,odB,.dict esB nB,slB⟩) (hsB:jc esB=true) (hnB:(nsFind esB "__init__").isNone=true)
  (cgB:specialIn K (.builtin "object.__class__") "__get__" = some (some (.builtin "getset_descriptor.__get__"))) (ctB:takesIn K (.builtin "object.__class__")=some true)
  {c_Q34 N_Q34 i_Q34:Addr} {nm_Q34 q_Q34:Str} {bs_Q34:List Value} {hd_Q34:Bool} {sn_Q34:List Str} {su_Q34:List Value} {ab_Q34:Bool} {co_Q34:Option Bool} {dd_Q34:Option Addr} {k0_Q34 k1_Q34 k2_Q34 k3_Q34 k5_Q34:Option Value} {od_Q34 an_Q34:Option Addr} {sl_Q34:Array (Option Value)} {oc_Q34 kV_Q34 dc_Q34 pm_Q34 cd_Q34 ct_Q34:Value}
  (p_Q34:nsIn K mainGlobals "NoSpeed" = some (some (.ref c_Q34))) (lc_Q34:K.lookup c_Q34=some (excClassObj nm_Q34 q_Q34 c_Q34 N_Q34 bs_Q34 (.ref cB :: [.type "ValueError", .type "Exception", .type "BaseException", .type "object"]) hd_Q34 sn_Q34 su_Q34 ab_Q34 co_Q34 dd_Q34 k0_Q34 k1_Q34 k2_Q34 k3_Q34 k5_Q34 "ValueError.__new__")) (fi_Q34:findIn K (.ref c_Q34) "__init__" = some (some (.ref i_Q34)))
  (l_Q34:K.lookup i_Q34=some ⟨oc_Q34,od_Q34,.func (fnOf "__init__" "NoSpeed.__init__" (dS km) (cI km) (au km) .none kV_Q34 dc_Q34 pm_Q34 an_Q34 cd_Q34 ct_Q34),sl_Q34⟩) (cd_Q34_:codeIn K cd_Q34 "NoSpeed.__init__" = true) (ki_Q34:keepIn K (.ref i_Q34)=true) (ti_Q34:typeIn K (.ref i_Q34)=some (.type "function")) (kc_Q34:keepIn K (.ref c_Q34)=true)
  (hh_Q34:hasDictIn K c_Q34=true) (sa_Q34:findIn K (.ref c_Q34) "__setattr__" = some (some (.builtin "object.__setattr__")))
  (na_Q34_speed:findIn K (.ref c_Q34) "speed" = some none) (ga_Q34:findIn K (.ref c_Q34) "__getattribute__" = some (some (.builtin "BaseException.__getattribute__"))) (gn_Q34:findIn K (.ref c_Q34) "__getattr__" = some none) (cl_Q34:findIn K (.ref c_Q34) "__class__" = some (some (.builtin "object.__class__")))
  {c_Q18:Addr} (p_Q18:nsIn K mainGlobals "PaceError" = some (some (.ref c_Q18)))
  {c_Q35:Addr} (p_Q35:nsIn K mainGlobals "NoLeast" = some (some (.ref c_Q35)))
  {c_Q42:Addr} (p_Q42:nsIn K mainGlobals "NoMuch" = some (some (.ref c_Q42)))
  {c_Q43:Addr} (p_Q43:nsIn K mainGlobals "NoPlan" = some (some (.ref c_Q43)))
  {c_Q36:Addr} (p_Q36:nsIn K mainGlobals "NoPrice" = some (some (.ref c_Q36)))
  {c_Q44:Addr} (p_Q44:nsIn K mainGlobals "NoRoom" = some (some (.ref c_Q44)))
  {c_Q37:Addr} (p_Q37:nsIn K mainGlobals "NoSheet" = some (some (.ref c_Q37)))
  {c_Q19:Addr} (p_Q19:nsIn K mainGlobals "NoStretch" = some (some (.ref c_Q19)))
  {c_Q38:Addr} (p_Q38:nsIn K mainGlobals "NoRatio" = some (some (.ref c_Q38)))
  (w_x_catch:exmOne K (.ref c_Q34) (.ref c_Q18)=some true)
  (w_y_self:kitOne K (.ref c_Q34) (.ref c_Q34)=some true)
  (w_y_base:kitOne K (.ref c_Q34) (.ref c_Q18)=some true)
  (w_y_val:kitOne K (.ref c_Q34) (.type "ValueError")=some true)
  (w_y_not:kitAny K (.ref c_Q34) [.ref c_Q35,.ref c_Q42,.ref c_Q43,.ref c_Q36,.ref c_Q44,.ref c_Q37,.ref c_Q19]=some false)
  (z_ValueError:nsIn K mainGlobals "ValueError" = some none)
  (z_abs:nsIn K mainGlobals "abs" = some none)
  (z_all:nsIn K mainGlobals "all" = some none)
  (z_bool:nsIn K mainGlobals "bool" = some none)
  (z_int:nsIn K mainGlobals "int" = some none)
  (z_isinstance:nsIn K mainGlobals "isinstance" = some none)
  (z_len:nsIn K mainGlobals "len" = some none)
  (z_list:nsIn K mainGlobals "list" = some none)
  (z_min:nsIn K mainGlobals "min" = some none)
  (z_range:nsIn K mainGlobals "range" = some none)
  (z_repr:nsIn K mainGlobals "repr" = some none)
  (z_reversed:nsIn K mainGlobals "reversed" = some none)
  (z_sorted:nsIn K mainGlobals "sorted" = some none)
  (z_str:nsIn K mainGlobals "str" = some none)
  (z_sum:nsIn K mainGlobals "sum" = some none)
  (z_tuple:nsIn K mainGlobals "tuple" = some none)
  {cL tL:Addr} (w_lhd:codeHdIn K cL tL=true) (w_lcd:d_Q3.code=.ref cL)
  : ∃ fd:FuncData,(∀ (s:Shared) (v:Value),BindsTo s fd ⟨[v],[]⟩ [("_law_script", v)])/\∀ base:Heap,K.In base->base.Ns mainGlobals mg->base.BuiltinsAt mg tL->bB l.prog w K mg base dk 11 fa fd ["_law_script"] (k9 K tL):=by
 have e:=hfa.symm.trans (mg_of X G h_law.p)
 cases e
 obtain⟨_,_,_,_,_,_,_,_,_,rfl,_,_⟩:=h_law.F.ex
 have F_Q34:=vU (st:=km) l_Q34 cd_Q34_ ki_Q34
 have T:eE K mg ⟨f_Q39,_,f_Q0,_,f_Q45,_,f_Q49,_,f_Q46,_,f_Q47,_,f_Q50,_,f_Q40,_,f_Q30,_,f_Q48,_,f_Q5,_,f_Q3,_,f_Q4,_,f_Q41,_,f_Q11,_,f_Q20,_,f_Q21,_,f_Q22,_,f_Q6,_,f_Q9,_,f_Q7,_,f_Q23,_,f_Q24,_,f_Q12,_,f_Q25,_,f_Q31,_,f_Q32,_,f_Q26,_,f_Q33,_,f_Q13,_,f_Q27,_,f_Q10,_,f_Q14,_,f_Q28,_,f_Q1,_,f_Q15,_,f_Q29,_,f_Q2,_,f_Q16,_,f_Q17,_,f_Q8,_,fa,_,f_NOUGHT,tkPOWER,cB,c_Q34,i_Q34,_,c_Q18,c_Q35,c_Q42,c_Q43,c_Q36,c_Q44,c_Q37,c_Q19,c_Q38,cL,tL⟩:={
  lhd:=w_lhd,lcd:=w_lcd,
  F_Q39:=h_copied.F,b_Q39:=h_copied.b1,m_Q39:=mg_of X G h_copied.p,
  F_Q0:=h_greatest_divisor.F,b_Q0:=h_greatest_divisor.b2,m_Q0:=mg_of X G h_greatest_divisor.p,
  F_Q45:=h_ratio.F,b_Q45:=h_ratio.b2,m_Q45:=mg_of X G h_ratio.p,
  F_Q49:=h_plus.F,b_Q49:=h_plus.b2,m_Q49:=mg_of X G h_plus.p,
  F_Q46:=h_minus.F,b_Q46:=h_minus.b2,m_Q46:=mg_of X G h_minus.p,
  F_Q47:=h_times.F,b_Q47:=h_times.b2,m_Q47:=mg_of X G h_times.p,
  F_Q50:=h_over.F,b_Q50:=h_over.b2,m_Q50:=mg_of X G h_over.p,
  F_Q40:=h_raised.F,b_Q40:=h_raised.b2,m_Q40:=mg_of X G h_raised.p,
  F_Q30:=h_is_less.F,b_Q30:=h_is_less.b2,m_Q30:=mg_of X G h_is_less.p,
  F_Q48:=h_total.F,b_Q48:=h_total.b1,m_Q48:=mg_of X G h_total.p,
  F_Q5:=h_whole_parts.F,b_Q5:=h_whole_parts.b1,m_Q5:=mg_of X G h_whole_parts.p,
  F_Q3:=h_falling_order.F,b_Q3:=h_falling_order.b1,m_Q3:=mg_of X G h_falling_order.p,
  F_Q4:=h_slope_between.F,b_Q4:=h_slope_between.b2,m_Q4:=mg_of X G h_slope_between.p,
  F_Q41:=h_top_of.F,b_Q41:=h_top_of.b1,m_Q41:=mg_of X G h_top_of.p,
  F_Q11:=h_is_beyond.F,b_Q11:=h_is_beyond.b2,m_Q11:=mg_of X G h_is_beyond.p,
  F_Q20:=h_place_of.F,b_Q20:=h_place_of.b2,m_Q20:=mg_of X G h_place_of.p,
  F_Q21:=h_power_at.F,b_Q21:=h_power_at.b2,m_Q21:=mg_of X G h_power_at.p,
  F_Q22:=h_power_of.F,b_Q22:=h_power_of.b2,m_Q22:=mg_of X G h_power_of.p,
  F_Q6:=h_hand_speeds.F,b_Q6:=h_hand_speeds.b2,m_Q6:=mg_of X G h_hand_speeds.p,
  F_Q9:=h_turn_power.F,b_Q9:=h_turn_power.b3,m_Q9:=mg_of X G h_turn_power.p,
  F_Q7:=h_hands_power.F,b_Q7:=h_hands_power.b3,m_Q7:=mg_of X G h_hands_power.p,
  F_Q23:=h_law_tape.F,b_Q23:=h_law_tape.b1,m_Q23:=mg_of X G h_law_tape.p,
  F_Q24:=h_law_draw.F,b_Q24:=h_law_draw.b2,m_Q24:=mg_of X G h_law_draw.p,
  F_Q12:=h_law_alike.F,b_Q12:=h_law_alike.b2,m_Q12:=mg_of X G h_law_alike.p,
  F_Q25:=h_law_frac.F,b_Q25:=h_law_frac.b2,m_Q25:=mg_of X G h_law_frac.p,
  F_Q31:=h_law_add.F,b_Q31:=h_law_add.b2,m_Q31:=mg_of X G h_law_add.p,
  F_Q32:=h_law_mul.F,b_Q32:=h_law_mul.b2,m_Q32:=mg_of X G h_law_mul.p,
  F_Q26:=h_law_less.F,b_Q26:=h_law_less.b2,m_Q26:=mg_of X G h_law_less.p,
  F_Q33:=h_law_sum.F,b_Q33:=h_law_sum.b1,m_Q33:=mg_of X G h_law_sum.p,
  F_Q13:=h_law_works.F,b_Q13:=h_law_works.b2,m_Q13:=mg_of X G h_law_works.p,
  F_Q27:=h_law_rule.F,b_Q27:=h_law_rule.b3,m_Q27:=mg_of X G h_law_rule.p,
  F_Q10:=h_law_rising.F,b_Q10:=h_law_rising.b1,m_Q10:=mg_of X G h_law_rising.p,
  F_Q14:=h_law_power.F,b_Q14:=h_law_power.b2,m_Q14:=mg_of X G h_law_power.p,
  F_Q28:=h_law_plan.F,b_Q28:=h_law_plan.b2,m_Q28:=mg_of X G h_law_plan.p,
  F_Q1:=h_law_least_first.F,b_Q1:=h_law_least_first.b1,m_Q1:=mg_of X G h_law_least_first.p,
  F_Q15:=h_law_marks.F,b_Q15:=h_law_marks.b1,m_Q15:=mg_of X G h_law_marks.p,
  F_Q29:=h_law_mean.F,b_Q29:=h_law_mean.b3,m_Q29:=mg_of X G h_law_mean.p,
  F_Q2:=h_law_hand_speeds.F,b_Q2:=h_law_hand_speeds.b2,m_Q2:=mg_of X G h_law_hand_speeds.p,
  F_Q16:=h_law_tried.F,b_Q16:=h_law_tried.b4,m_Q16:=mg_of X G h_law_tried.p,
  F_Q17:=h_law_right.F,b_Q17:=h_law_right.b4,m_Q17:=mg_of X G h_law_right.p,
  F_Q8:=h_law_amounts.F,b_Q8:=h_law_amounts.b1,m_Q8:=mg_of X G h_law_amounts.p,
  F_Q51:=h_law.F,b_Q51:=h_law.b1,m_Q51:=mg_of X G h_law.p,
  m_NOUGHT:=mg_of X G p_NOUGHT,q_NOUGHT:=fun H=>.inr ⟨_,_,_,l_NOUGHT,rfl,rfl,dU,(.cons ⟨_,rfl⟩ (.cons ⟨_,rfl⟩ .nil))⟩,
  m_POWER:=mg_of X G p_POWER,
  X_Q34:=CC lc_Q34 lB lnB hsB hnB fi_Q34 ti_Q34 kc_Q34 hh_Q34 sa_Q34,F_Q34:=F_Q34,b_Q34:=HP F_Q34,m_Q34:=mg_of X G p_Q34,n_Q34_speed:=na_Q34_speed,g_Q34:=⟨ga_Q34,gn_Q34,cl_Q34,cgB,ctB⟩,
  m_Q18:=mg_of X G p_Q18,
  m_Q35:=mg_of X G p_Q35,
  m_Q42:=mg_of X G p_Q42,
  m_Q43:=mg_of X G p_Q43,
  m_Q36:=mg_of X G p_Q36,
  m_Q44:=mg_of X G p_Q44,
  m_Q37:=mg_of X G p_Q37,
  m_Q19:=mg_of X G p_Q19,
  m_Q38:=mg_of X G p_Q38,
  x_catch:=w_x_catch,
  y_self:=w_y_self,
  y_base:=w_y_base,
  y_val:=w_y_val,
  y_not:=w_y_not,
  z_ValueError:=mg_none_of X G z_ValueError,z_abs:=mg_none_of X G z_abs,z_all:=mg_none_of X G z_all,z_bool:=mg_none_of X G z_bool,z_int:=mg_none_of X G z_int,z_isinstance:=mg_none_of X G z_isinstance,z_len:=mg_none_of X G z_len,z_list:=mg_none_of X G z_list,z_min:=mg_none_of X G z_min,z_range:=mg_none_of X G z_range,z_repr:=mg_none_of X G z_repr,z_reversed:=mg_none_of X G z_reversed,z_sorted:=mg_none_of X G z_sorted,z_str:=mg_none_of X G z_str,z_sum:=mg_none_of X G z_sum,z_tuple:=mg_none_of X G z_tuple }
 exact⟨_,fun s v=>.of_eq rfl,fun base _ _ hB=>Bg T hB⟩
theorem walk {l:PySem.W.OpenLaw} {q:Program} {loose:List Str} {XP:(Str->Option Value)->Heap->Prop} {YP:World->Heap->Prop} {d:DefRec} {K:Params->PySem.W.Frag} {c T:Addr} (hn:l.most=some 63) (hdf:d.params.defaults=[])
  (hY:∀ (w:World) (h:Heap),YP w h->(K w.params).In h/\h.get? T=some (PySem.W.tabObj #[])) (hC:∀ w:World,PySem.W.codeHdIn (K w.params) c T=true) (hnt:∀ w:World,PySem.W.noTabs (K w.params)=true)
  (F:∀ (w:World) (mg:Str->Option Value) (fa:Addr) (h:Heap),(K w.params).In h->h.Ns mainGlobals mg->mg d.name=some (.ref fa)→
   ∃ fd:FuncData,(∀ (s:Shared) (u:Value),BindsTo s fd ⟨[u],[]⟩ [("_law_script", u)])/\∀ base:Heap,(K w.params).In base->base.Ns mainGlobals mg->base.BuiltinsAt mg T->bB l.prog w (K w.params) mg base dk 11 fa fd ["_law_script"] (k9 (K w.params) T)) :
  PySem.W.WalkO q loose XP YP l.row.toRowW d [] (fun f vs=>PySem.call f vs):=
 B.walk_ofT (c:=c) (T:=T) (n:=63) (k:=11) (x := "_law_script") (CX:=fun _=>dk) (sp:=fun w=>k9 (K w.params) T) hn (by decide) hdf ⟨rfl,by decide,by decide,rfl⟩ hY hC hnt F (fun _ _ a ns hl hT hS=>⟨a,ns,rfl,hS,hl,hT,fun _=>rfl⟩) fun _ _ _ _ _ z=>z
end My
open PySem PySem.W PyProof.Rows
set_option maxRecDepth 100000 in
set_option maxHeartbeats 0 in
theorem PySem.Challenge.cw_paceplan_k40_power_of_several_hands_holds : PySem.Challenge.rw_paceplan_k40_power_of_several_hands.Holds := by
 w_on;refine HWtop ?_
 k_fill
 refine My.walk (l:=PySem.Challenge.rw_paceplan_k40_power_of_several_hands) (c:=278) (T:=274) rfl rfl (fun w h Y=>⟨PySem.W.km_in_of Y,PySem.W.km_tabs_of Y _ List.mem_cons_self⟩) (fun w=>by kernel_rfl) (fun w=>by kernel_rfl) ?F
 case F=>
  intro w mg fa h KX G hmg
  refine' My.all_mk KX G hmg ?h_copied ?h_greatest_divisor ?h_ratio ?h_plus ?h_minus ?h_times ?h_over ?h_raised ?h_is_less ?h_total ?h_whole_parts ?h_falling_order ?h_slope_between ?h_top_of ?h_is_beyond ?h_place_of ?h_power_at ?h_power_of ?h_hand_speeds ?h_turn_power ?h_hands_power ?h_law_tape ?h_law_draw ?h_law_alike ?h_law_frac ?h_law_add ?h_law_mul ?h_law_less ?h_law_sum ?h_law_works ?h_law_rule ?h_law_rising ?h_law_power ?h_law_plan ?h_law_least_first ?h_law_marks ?h_law_mean ?h_law_hand_speeds ?h_law_tried ?h_law_right ?h_law_amounts ?h_law ?p_NOUGHT ?l_NOUGHT ?p_POWER ?pB ?lB ?lnB ?hsB ?hnB ?cgB ?ctB ?p_Q34 ?lc_Q34 ?fi_Q34 ?l_Q34 ?cd_Q34_ ?ki_Q34 ?ti_Q34 ?kc_Q34 ?hh_Q34 ?sa_Q34 ?na_Q34_speed ?ga_Q34 ?gn_Q34 ?cl_Q34 ?p_Q18 ?p_Q35 ?p_Q42 ?p_Q43 ?p_Q36 ?p_Q44 ?p_Q37 ?p_Q19 ?p_Q38 ?w_x_catch ?w_y_self ?w_y_base ?w_y_val ?w_y_not ?z_ValueError ?z_abs ?z_all ?z_bool ?z_int ?z_isinstance ?z_len ?z_list ?z_min ?z_range ?z_repr ?z_reversed ?z_sorted ?z_str ?z_sum ?z_tuple ?w_lhd ?w_lcd
  (case h_copied=>refine' B.isF ?a ?b ?c ?d;(case a=>k_is);(case b=>k_is);(case c=>k_is);(case d=>k_is))
  (case h_greatest_divisor=>refine' B.isF ?a ?b ?c ?d;(case a=>k_is);(case b=>k_is);(case c=>k_is);(case d=>k_is))
  (case h_ratio=>refine' B.isF ?a ?b ?c ?d;(case a=>k_is);(case b=>k_is);(case c=>k_is);(case d=>k_is))
  (case h_plus=>refine' B.isF ?a ?b ?c ?d;(case a=>k_is);(case b=>k_is);(case c=>k_is);(case d=>k_is))
  (case h_minus=>refine' B.isF ?a ?b ?c ?d;(case a=>k_is);(case b=>k_is);(case c=>k_is);(case d=>k_is))
  (case h_times=>refine' B.isF ?a ?b ?c ?d;(case a=>k_is);(case b=>k_is);(case c=>k_is);(case d=>k_is))
  (case h_over=>refine' B.isF ?a ?b ?c ?d;(case a=>k_is);(case b=>k_is);(case c=>k_is);(case d=>k_is))
  (case h_raised=>refine' B.isF ?a ?b ?c ?d;(case a=>k_is);(case b=>k_is);(case c=>k_is);(case d=>k_is))
  (case h_is_less=>refine' B.isF ?a ?b ?c ?d;(case a=>k_is);(case b=>k_is);(case c=>k_is);(case d=>k_is))
  (case h_total=>refine' B.isF ?a ?b ?c ?d;(case a=>k_is);(case b=>k_is);(case c=>k_is);(case d=>k_is))
  (case h_whole_parts=>refine' B.isF ?a ?b ?c ?d;(case a=>k_is);(case b=>k_is);(case c=>k_is);(case d=>k_is))
  (case h_falling_order=>refine' B.isF ?a ?b ?c ?d;(case a=>k_is);(case b=>k_is);(case c=>k_is);(case d=>k_is))
  (case h_slope_between=>refine' B.isF ?a ?b ?c ?d;(case a=>k_is);(case b=>k_is);(case c=>k_is);(case d=>k_is))
  (case h_top_of=>refine' B.isF ?a ?b ?c ?d;(case a=>k_is);(case b=>k_is);(case c=>k_is);(case d=>k_is))
  (case h_is_beyond=>refine' B.isF ?a ?b ?c ?d;(case a=>k_is);(case b=>k_is);(case c=>k_is);(case d=>k_is))
  (case h_place_of=>refine' B.isF ?a ?b ?c ?d;(case a=>k_is);(case b=>k_is);(case c=>k_is);(case d=>k_is))
  (case h_power_at=>refine' B.isF ?a ?b ?c ?d;(case a=>k_is);(case b=>k_is);(case c=>k_is);(case d=>k_is))
  (case h_power_of=>refine' B.isF ?a ?b ?c ?d;(case a=>k_is);(case b=>k_is);(case c=>k_is);(case d=>k_is))
  (case h_hand_speeds=>refine' B.isF ?a ?b ?c ?d;(case a=>k_is);(case b=>k_is);(case c=>k_is);(case d=>k_is))
  (case h_turn_power=>refine' B.isF ?a ?b ?c ?d;(case a=>k_is);(case b=>k_is);(case c=>k_is);(case d=>k_is))
  (case h_hands_power=>refine' B.isF ?a ?b ?c ?d;(case a=>k_is);(case b=>k_is);(case c=>k_is);(case d=>k_is))
  (case h_law_tape=>refine' B.isF ?a ?b ?c ?d;(case a=>k_is);(case b=>k_is);(case c=>k_is);(case d=>k_is))
  (case h_law_draw=>refine' B.isF ?a ?b ?c ?d;(case a=>k_is);(case b=>k_is);(case c=>k_is);(case d=>k_is))
  (case h_law_alike=>refine' B.isF ?a ?b ?c ?d;(case a=>k_is);(case b=>k_is);(case c=>k_is);(case d=>k_is))
  (case h_law_frac=>refine' B.isF ?a ?b ?c ?d;(case a=>k_is);(case b=>k_is);(case c=>k_is);(case d=>k_is))
  (case h_law_add=>refine' B.isF ?a ?b ?c ?d;(case a=>k_is);(case b=>k_is);(case c=>k_is);(case d=>k_is))
  (case h_law_mul=>refine' B.isF ?a ?b ?c ?d;(case a=>k_is);(case b=>k_is);(case c=>k_is);(case d=>k_is))
  (case h_law_less=>refine' B.isF ?a ?b ?c ?d;(case a=>k_is);(case b=>k_is);(case c=>k_is);(case d=>k_is))
  (case h_law_sum=>refine' B.isF ?a ?b ?c ?d;(case a=>k_is);(case b=>k_is);(case c=>k_is);(case d=>k_is))
  (case h_law_works=>refine' B.isF ?a ?b ?c ?d;(case a=>k_is);(case b=>k_is);(case c=>k_is);(case d=>k_is))
  (case h_law_rule=>refine' B.isF ?a ?b ?c ?d;(case a=>k_is);(case b=>k_is);(case c=>k_is);(case d=>k_is))
  (case h_law_rising=>refine' B.isF ?a ?b ?c ?d;(case a=>k_is);(case b=>k_is);(case c=>k_is);(case d=>k_is))
  (case h_law_power=>refine' B.isF ?a ?b ?c ?d;(case a=>k_is);(case b=>k_is);(case c=>k_is);(case d=>k_is))
  (case h_law_plan=>refine' B.isF ?a ?b ?c ?d;(case a=>k_is);(case b=>k_is);(case c=>k_is);(case d=>k_is))
  (case h_law_least_first=>refine' B.isF ?a ?b ?c ?d;(case a=>k_is);(case b=>k_is);(case c=>k_is);(case d=>k_is))
  (case h_law_marks=>refine' B.isF ?a ?b ?c ?d;(case a=>k_is);(case b=>k_is);(case c=>k_is);(case d=>k_is))
  (case h_law_mean=>refine' B.isF ?a ?b ?c ?d;(case a=>k_is);(case b=>k_is);(case c=>k_is);(case d=>k_is))
  (case h_law_hand_speeds=>refine' B.isF ?a ?b ?c ?d;(case a=>k_is);(case b=>k_is);(case c=>k_is);(case d=>k_is))
  (case h_law_tried=>refine' B.isF ?a ?b ?c ?d;(case a=>k_is);(case b=>k_is);(case c=>k_is);(case d=>k_is))
  (case h_law_right=>refine' B.isF ?a ?b ?c ?d;(case a=>k_is);(case b=>k_is);(case c=>k_is);(case d=>k_is))
  (case h_law_amounts=>refine' B.isF ?a ?b ?c ?d;(case a=>k_is);(case b=>k_is);(case c=>k_is);(case d=>k_is))
  (case h_law=>refine' B.isF ?a ?b ?c ?d;(case a=>k_is);(case b=>k_is);(case c=>k_is);(case d=>k_is))
  (case p_NOUGHT=>k_is)
  (case l_NOUGHT=>k_is)
  (case p_POWER=>k_is)
  (case pB=>k_is)
  (case lB=>k_is)
  (case lnB=>k_is)
  (case hsB=>rfl)
  (case hnB=>rfl)
  (case cgB=>k_is)
  (case ctB=>k_is)
  (case p_Q34=>k_is)
  (case lc_Q34=>k_is)
  (case fi_Q34=>k_is)
  (case l_Q34=>k_is)
  (case cd_Q34_=>k_is)
  (case ki_Q34=>k_is)
  (case ti_Q34=>k_is)
  (case kc_Q34=>k_is)
  (case hh_Q34=>k_is)
  (case sa_Q34=>k_is)
  (case na_Q34_speed=>k_is)
  (case ga_Q34=>k_is)
  (case gn_Q34=>k_is)
  (case cl_Q34=>k_is)
  (case p_Q18=>k_is)
  (case p_Q35=>k_is)
  (case p_Q42=>k_is)
  (case p_Q43=>k_is)
  (case p_Q36=>k_is)
  (case p_Q44=>k_is)
  (case p_Q37=>k_is)
  (case p_Q19=>k_is)
  (case p_Q38=>k_is)
  (case w_x_catch=>kts_exm)
  (case w_y_self=>kit_is)
  (case w_y_base=>kit_is)
  (case w_y_val=>kit_is)
  (case w_y_not=>kit_is)
  (case z_ValueError=>k_is)
  (case z_abs=>k_is)
  (case z_all=>k_is)
  (case z_bool=>k_is)
  (case z_int=>k_is)
  (case z_isinstance=>k_is)
  (case z_len=>k_is)
  (case z_list=>k_is)
  (case z_min=>k_is)
  (case z_range=>k_is)
  (case z_repr=>k_is)
  (case z_reversed=>k_is)
  (case z_sorted=>k_is)
  (case z_str=>k_is)
  (case z_sum=>k_is)
  (case z_tuple=>k_is)
  (case w_lcd=>rfl)
  (case w_lhd=>kernel_rfl)
