import PyProof.Rows.All
import KE.RegKIsAll
import KE.RegKTryMore
import KE.KItem
import PySem.Challenge.RW_paceplan_k17_plans_let_by_or_not
set_option Elab.async false
set_option linter.all false
set_option maxRecDepth 100000
theorem wI {α β γ:Type} {o:Option α} {f:α->β} {g:α->γ} {a:β} {b:γ} (h1:o.map f=some a) (h2:o.map g=some b):o.map (fun s=>(f s,g s))=some (a,b):=by
 cases o with
 | none=>cases h1
 | some x=>cases h1;cases h2;rfl
namespace HW
open PySem
def keep:List Nat:=[1,2,3,4,6,7,8,9,10,11,13,14,15,16,17,18,19,21,22,24,25,26,27,28,29,30,32,33,34,35,36,37,38,39,40,41,42,43,44,45,46,47,48,49,50,51,52,53,54,55,56]
def V:Program:=PySem.W.view PySem.Challenge.pw_paceplan_k17_plans_let_by_or_not keep
end HW
section HWs
open PySem PySem.W PyProof.Rows
set_option maxHeartbeats 0 in
theorem HWa:∀ w:World,(openEnds treeTable PySem.Challenge.rw_paceplan_k17_plans_let_by_or_not.row.prog w 5680).map (fun s=>openSeen HW.V [] (importedModules PySem.Challenge.rw_paceplan_k17_plans_let_by_or_not.row.prog.main.body) (fun s=>xlAt HW.V [] s && recOk PySem.Challenge.rw_paceplan_k17_plans_let_by_or_not.row.records s) true s)=some (openGood HW.V []):=by
 intro w
 delta openEnds fencedOpening topFrom
 rw [PySem.W.Fast.te14364793385576792824,PySem.W.Fast.te14082659384304107361,PySem.W.Fast.te10274390034422433532,PySem.W.Fast.te1435165496053646825,PySem.W.Fast.te14289696077712309145,PySem.W.Fast.te4187177175401517315]
 kernel_rfl
local macro_rules
 | `(tactic| o_head $H:term) => `(tactic| (
   refine holds_open (q:=HW.V) (loose:=[]) (N:=5680)
    (Xt:=fun s=>xlAt HW.V [] s && recOk (RowW.records (OpenRow.toRowW (OpenLaw.row PySem.Challenge.rw_paceplan_k17_plans_let_by_or_not))) s)
    (XP:=XL HW.V []) (Yf:=Hook.obs $H) (Ya:=Hook.val $H) (YP:=Hook.says $H)
    ?hl (Hook.of $H) (Hook.keeps $H)
    (fun s e=>xl_of s (Bool.and_eq_true_iff.mp e).1) XL.keeps
    (by rfl) (by rfl) (by rfl)
    (fun s e=>recFacts_of (Bool.and_eq_true_iff.mp e).2) (by rfl) (by assumption) (by decide +kernel)
    ⟨rfl,rfl,rfl,rfl,rfl,by decide +kernel⟩ ?hw ?hc
   (case hl=>
    intro w
    refine wI (HWa w) ?_
    delta openEnds fencedOpening topFrom
    rw [PySem.W.Fast.te14364793385576792824,PySem.W.Fast.te14082659384304107361,PySem.W.Fast.te10274390034422433532,PySem.W.Fast.te1435165496053646825,PySem.W.Fast.te14289696077712309145]
    kernel_rfl)))
set_option maxHeartbeats 0 in
open_top HWtop for PySem.Challenge.rw_paceplan_k17_plans_let_by_or_not
end HWs
abbrev Fg:=PySem.W.Frag
abbrev bo:=List (PySem.Addr×PySem.Obj)
abbrev bu:=PySem.Value->PySem.Shared->Prop
theorem rB:0≤PySem.sizeLine:=by decide
theorem vn:1≤PySem.sizeLine:=by decide
theorem dJ:2≤PySem.sizeLine:=by decide
theorem Bs:3≤PySem.sizeLine:=by decide
theorem EL:4≤PySem.sizeLine:=by decide
theorem Fx:5≤PySem.sizeLine:=by decide
theorem DP:7≤PySem.sizeLine:=by decide
theorem Fw:8≤PySem.sizeLine:=by decide
theorem EK:9≤PySem.sizeLine:=by decide
theorem DQ:11≤PySem.sizeLine:=by decide
theorem yE:1000≤PySem.sizeLine:=by decide
namespace L2
open PySem PySem.Spec PyProof.Rows
abbrev bS:=Sum Int Str
def iY:bS->Value->Bool
 | .inl k,v=>Value.isInt k v
 | .inr x,v=>Value.isStrOf x v
def Eo (w:World):bS->Int
 | .inl k=>hashInt k
 | .inr x=>hashStr w x
theorem bz:∀ {k:bS} {v:Value},iY k v=true->(∃ i t,k=Sum.inl i/\v=Value.int i t)∨(∃ x t,k=Sum.inr x/\v=Value.str x t)
 | .inl i,v,h=>by
  obtain⟨t,e⟩:=Value.isInt_shape (k:=i) (v:=v) h
  exact .inl ⟨i,t,rfl,e⟩
 | .inr x,v,h=>by
  obtain⟨t,e⟩:=Value.isStrOf_shape (x:=x) (v:=v) h
  exact .inr ⟨x,t,rfl,e⟩
theorem qE (i:Int) (t:Tok):iY (.inl i) (.int i t)=true:=by simp [iY,Value.isInt]
theorem qD (x:Str) (t:Tok):iY (.inr x) (.str x t)=true:=by simp [iY,Value.isStrOf]
theorem AM (a b:Int):decide ((Sum.inl a:bS)=Sum.inl b)=(a == b):=by
 by_cases e:a=b
 ·subst e;simp
 ·have h:¬ (Sum.inl a:bS)=Sum.inl b:=fun q=>e (Sum.inl.inj q)
  rw [decide_eq_false h]
  exact (beq_eq_false_iff_ne.mpr e).symm
theorem AJ (a b:Str):decide ((Sum.inr a:bS)=Sum.inr b)=decide (a=b):=by
 by_cases e:a=b
 ·subst e;simp
 ·have h:¬ (Sum.inr a:bS)=Sum.inr b:=fun q=>e (Sum.inr.inj q)
  rw [decide_eq_false h,decide_eq_false e]
theorem AL (a:Int) (b:Str):decide ((Sum.inl a:bS)=Sum.inr b)=false:=decide_eq_false (fun q=>nomatch q)
theorem AK (a:Str) (b:Int):decide ((Sum.inr a:bS)=Sum.inl b)=false:=decide_eq_false (fun q=>nomatch q)
def bi (prog:Program) (w:World):PySem.KeyKind prog w bS where
 is:=iY
 hash:=Eo w
 inj:=fun v a b ha hb=>by
  rcases bz ha with ⟨i,t,rfl,rfl⟩ | ⟨x,t,rfl,rfl⟩
  ·rcases bz hb with ⟨j,u,rfl,e⟩ | ⟨y,u,rfl,e⟩
   ·injection e with e1 _;rw [e1]
   ·exact nomatch e
  ·rcases bz hb with ⟨j,u,rfl,e⟩ | ⟨y,u,rfl,e⟩
   ·exact nomatch e
   ·injection e with e1 _;rw [e1]
 byValue:=fun k v h=>by
  rcases bz h with ⟨i,t,rfl,rfl⟩ | ⟨x,t,rfl,rfl⟩ <;> rfl
 pyHash:=fun hv h=>by
  rcases bz hv with ⟨i,t,rfl,rfl⟩ | ⟨x,t,rfl,rfl⟩
  ·exact wpAny_pyHash_int h
  ·exact wpAny_pyHash_str h
 eqBool:=fun hu hv h=>by
  rcases bz hu with ⟨i,t,rfl,rfl⟩ | ⟨x,t,rfl,rfl⟩
  ·rcases bz hv with ⟨j,u,rfl,rfl⟩ | ⟨y,u,rfl,rfl⟩
   ·rw [AM] at h;exact wpAny_eqBool_int h
   ·rw [AL] at h;exact SeqAt.EqAt.int_str i t y u _ _ _ _ h
  ·rcases bz hv with ⟨j,u,rfl,rfl⟩ | ⟨y,u,rfl,rfl⟩
   ·rw [AK] at h;exact SeqAt.EqAt.str_int x t j u _ _ _ _ h
   ·rw [AJ] at h;exact wpAny_eqBool_str h
 «strs»:=fun k x t v h=>by
  rcases bz h with ⟨i,u,rfl,e⟩ | ⟨y,u,rfl,e⟩
  ·exact nomatch e
  ·injection e with e1 _
   subst e1
   cases v <;> rfl
theorem mw (prog:Program) (w:World) (i:Int) (t:Tok):(bi prog w).is (.inl i) (.int i t)=true:=qE i t
theorem mv (prog:Program) (w:World) (x:Str) (t:Tok):(bi prog w).is (.inr x) (.str x t)=true:=qD x t
end L2
namespace L2
open PySem PySem.Spec PyProof.Rows
inductive V where
 | non | bl (b:Bool) | int (i:Int) | str (x:Str) | byt (b:Array UInt8) | flt (b:UInt64) | ref (a:Addr) | ty (n:String)
 deriving DecidableEq
def aU:V->Value->Prop
 | .non,u=>u=Value.none
 | .bl b,u=>u=Value.bool b
 | .int i,u=>∃ t,u=Value.int i t
 | .str x,u=>∃ t,u=Value.str x t
 | .byt b,u=>∃ t,u=Value.bytes b t
 | .flt b,u=>∃ t,u=Value.float b t
 | .ref a,u=>u=Value.ref a
 | .ty n,u=>u=Value.type n
abbrev aT:List V->List Value->Prop:=Paired aU
theorem aT.length {xs:List V} {us:List Value} (r:aT xs us):xs.length=us.length:=Paired.length r
theorem aT.get:∀ {xs:List V} {us:List Value} {i:Nat} {x:V},aT xs us->xs[i]?=some x->∃ u,us[i]?=some u/\aU x u
 | _,_,_,_,.nil,e=>by simp at e
 | _,_,0,_,.cons r _,e=>by simp at e;subst e;exact⟨_,rfl,r⟩
 | _,_,i+1,x,.cons _ t,e=>by
  obtain⟨u,h1,h2⟩:=aT.get (i:=i) (x:=x) t (by simpa using e)
  exact⟨u,by simpa using h1,h2⟩
theorem aT.set {x:V} {u:Value} (r:aU x u):∀ {xs:List V} {us:List Value} (i:Nat),aT xs us->aT (xs.set i x) (us.set i u)
 | _,_,_,.nil=>.nil
 | _,_,0,.cons _ t=>.cons r t
 | _,_,i+1,.cons q t=>.cons q (aT.set r i t)
theorem aT.append:∀ {xs ys:List V} {us ws:List Value},aT xs us->aT ys ws->aT (xs++ys) (us++ws)
 | _,_,_,_,.nil,s=>s
 | _,_,_,_,.cons r t,s=>.cons r (aT.append t s)
theorem aT.take:∀ {xs:List V} {us:List Value} (n:Nat),aT xs us->aT (xs.take n) (us.take n)
 | _,_,0,_=>.nil
 | _,_,_+1,.nil=>.nil
 | _,_,n+1,.cons r t=>.cons r (aT.take n t)
theorem aT.drop:∀ {xs:List V} {us:List Value} (n:Nat),aT xs us->aT (xs.drop n) (us.drop n)
 | _,_,0,r=>r
 | _,_,_+1,.nil=>.nil
 | _,_,n+1,.cons _ t=>aT.drop n t
def eF:Option V->Option Value->Prop
 | some v,some u=>aU v u
 | none,none=>True
 | _,_=>False
def KV {κ:Type}:List (κ×V)->List (κ×Value)->Prop:=Paired fun (p:κ×V) (q:κ×Value)=>p.1=q.1/\aU p.2 q.2
def kV:bS->V
 | .inl i=>.int i
 | .inr x=>.str x
inductive HO where
 | lst (xs:List V)
 | tup (xs:List V)
 | dK (kvs:List (bS×V)) | dT (kvs:List (List bS×V))
 | set (S:Int->Bool) (n:Nat)
 | ins (C dx:Addr) (fs:List (Str×V))
 | own (x:Addr)
 | xd (fs:List (Str×V))
 | met (f x:Addr)
 | rng (lo hi:Int)
 | frz (o:Obj) (u:HO)
 | tbl (ps:Array Value)
 | ext (φ:Heap->Prop)
abbrev Hp:=Addr->Option HO
def upd (H:Hp) (a:Addr) (o:HO):Hp:=fun b=>if b=a then some o else H b
theorem ai {H:Hp} {a:Addr} {o:HO}:upd H a o a=some o:=by unfold upd;rw [if_pos rfl]
theorem aw {H:Hp} {a b:Addr} {o:HO} (h:b≠a):upd H a o b=H b:=by unfold upd;rw [if_neg h]
theorem fR {H:Hp} {a:Addr} {o u:HO}:upd (upd H a o) a u=upd H a u:=by
 funext b;unfold upd;split <;> rfl
theorem CJ {H:Hp} {a b:Addr} {o u:HO} (h:H a=some o) (h':H b=some u) (d:o≠u):a≠b:=by
 intro e;subst e;rw [h] at h';exact d (Option.some.inj h')
theorem aM {H:Hp} {a b:Addr} {o:HO} (h:H a=some o) (h':H b=none):a≠b:=by
 intro e;subst e;rw [h] at h';cases h'
section
variable (P:Program) (w:World)
def ObjOk (H:Hp) (h:Heap) (a:Addr):HO->Prop
 | .lst xs=>xs.length≤sizeLine/\∃ (its:List Value) (n:Nat),aT xs its/\h.get? a=some { cls:=.type "list", data:=.seq its.toArray n }
 | .tup xs=>xs.length≤sizeLine/\∃ its:List Value,aT xs its/\IsTup h a its.toArray
 | .dK kvs=>kvs.length≤sizeLine/\(a == sysModules)=false/\∃ vs,KV kvs vs/\h.DictOf (bi P w) a vs
 | .dT kvs=>kvs.length≤sizeLine/\(a == sysModules)=false/\∃ xs:List (List bS×Addr×Value),
   Paired (fun (p:List bS×V) (q:List bS×Addr×Value)=>p.1=q.1/\H q.2.1=some (.tup (p.1.map kV))/\aU p.2 q.2.2) kvs xs∧
   ∃ o es ep,h.get? a=some o/\o.ExactDict/\o.data=.dict es ep/\es.toList=xs.map (entryOfKey (tupleKind (bi P w)))/\(xs.map (·.1)).Nodup
 | .set S n=>h.SetOf (intKind P w) a S n
 | .ins C dx fs=>H dx=some (.own a)/\fs.length≤1000/\dx≠a/\h.get? a=some (PySem.W.instObj C dx)∧
   ∃ mA,h.Ns1 dx mA/\(∀ f,eF (fs.lookup f) (mA f))/\PySem.Within mA (fs.map (·.1))
 | .own _=>∃ o,h.get? a=some o
 | .xd fs=>∃ mA,h.Ns1 a mA/\∀ f,eF (fs.lookup f) (mA f)
 | .rng lo hi=>∃ t u v,h.get? a=some { cls:=.type "range", data:=.fields #[.int lo t,.int hi u,.int 1 v] }
 | .frz o u=>h.get? a=some o/\ObjOk H h a u
 | .tbl ps=>h.get? a=some { cls:=.none,data:=.fields ps }
 | .met f x=>h.get? a=some (PySem.W.methodObj (.ref f) (.ref x))
 | .ext φ=>φ h/\(∃ o,h.get? a=some o)/\∀ h1 h2:Heap,φ h1->(∀ o,h1.get? a=some o->h2.get? a=some o)->φ h2
def fA (H:Hp) (h:Heap):Prop:=∀ a o,H a=some o->ObjOk P w H h a o
end
section
variable {P:Program} {w:World} {H H':Hp} {h h':Heap} {a:Addr} {o:HO}
theorem ObjOk.lt (x:ObjOk P w H h a o):a < h.objs.size:=by
 cases o with
 | lst xs=>obtain⟨_,_,_,_,e⟩:=x;exact Heap.lt_size e
 | tup xs=>obtain⟨_,_,_,p⟩:=x;exact p.lt
 | dK kvs=>obtain⟨_,_,_,_,o,_,_,e,_⟩:=x;exact Heap.lt_size e
 | dT kvs=>obtain⟨_,_,_,_,o,_,_,e,_⟩:=x;exact Heap.lt_size e
 | set S n=>obtain⟨o,_,_,_,e,_⟩:=x;exact Heap.lt_size e
 | ins C dx fs=>obtain⟨_,_,_,e,_⟩:=x;exact Heap.lt_size e
 | own y=>obtain⟨_,e⟩:=x;exact Heap.lt_size e
 | xd fs=>obtain⟨_,⟨_,_,_,e,_⟩,_⟩:=x;exact Heap.lt_size e
 | rng lo hi=>obtain⟨_,_,_,e⟩:=x;exact Heap.lt_size e
 | frz ob u=>obtain⟨e,_⟩:=x;exact Heap.lt_size e
 | tbl ps=>exact Heap.lt_size (show h.get? a=some _ from x)
 | met f y=>exact Heap.lt_size (show h.get? a=some _ from x)
 | ext φ=>obtain⟨_,⟨_,e⟩,_⟩:=x;exact Heap.lt_size e
theorem Paired.mapP {α β:Type} {F G:α->β->Prop}:∀ {l₁:List α} {l₂:List β},Paired F l₁ l₂->(∀ a b,F a b->G a b)->Paired G l₁ l₂
 | _,_,.nil,_=>.nil
 | _,_,.cons r t,f=>.cons (f _ _ r) (Paired.mapP t f)
theorem ObjOk.stay (x:ObjOk P w H h a o) (k:∀ b u,(b=a∨H b=some (.own a))->h.get? b=some u->h'.get? b=some u)
  (ho:∀ b,H b=some (.own a)->H' b=some (.own a)) (ht:∀ b xs,H b=some (.tup xs)->H' b=some (.tup xs)):ObjOk P w H' h' a o:=by
 induction o with
 | lst xs=>obtain⟨z,its,n,r,e⟩:=x;exact⟨z,its,n,r,k _ _ (.inl rfl) e⟩
 | tup xs=>obtain⟨z,its,r,ob,e,c⟩:=x;exact⟨z,its,r,ob,k _ _ (.inl rfl) e,c⟩
 | dK kvs=>obtain⟨z,y,vs,r,ob,es,ep,e,c⟩:=x;exact⟨z,y,vs,r,ob,es,ep,k _ _ (.inl rfl) e,c⟩
 | dT kvs=>
  obtain⟨z,y,xs,r,ob,es,ep,e,c⟩:=x
  exact⟨z,y,xs,Paired.mapP r fun p q z=>⟨z.1,ht _ _ z.2.1,z.2.2⟩,ob,es,ep,k _ _ (.inl rfl) e,c⟩
 | set S n=>obtain⟨ob,es,ep,t,e,c⟩:=x;exact⟨ob,es,ep,t,k _ _ (.inl rfl) e,c⟩
 | ins C dx fs=>
  obtain⟨d,z,ne,e,mA,⟨od,es,ep,e2,c⟩,r⟩:=x
  exact⟨ho _ d,z,ne,k _ _ (.inl rfl) e,mA,⟨od,es,ep,k _ _ (.inr d) e2,c⟩,r⟩
 | own y=>obtain⟨ob,e⟩:=x;exact⟨ob,k _ _ (.inl rfl) e⟩
 | xd fs=>obtain⟨mA,⟨od,es,ep,e,c⟩,r⟩:=x;exact⟨mA,⟨od,es,ep,k _ _ (.inl rfl) e,c⟩,r⟩
 | rng lo hi=>obtain⟨t,u,v,e⟩:=x;exact⟨t,u,v,k _ _ (.inl rfl) e⟩
 | frz ob u ih=>obtain⟨e,q⟩:=x;exact⟨k _ _ (.inl rfl) e,ih q⟩
 | tbl ps=>
  have e:h.get? a=some { cls:=.none,data:=.fields ps }:=x
  show h'.get? a=some { cls:=.none,data:=.fields ps }
  exact k a _ (.inl rfl) e
 | met f y=>
  have e:h.get? a=some (PySem.W.methodObj (.ref f) (.ref y)):=x
  show h'.get? a=some (PySem.W.methodObj (.ref f) (.ref y))
  exact k a _ (.inl rfl) e
 | ext φ=>obtain⟨p,⟨o,e⟩,st⟩:=x;exact⟨st _ _ p fun o q=>k _ _ (.inl rfl) q,⟨o,k _ _ (.inl rfl) e⟩,st⟩
theorem fA.lt (x:fA P w H h) (e:H a=some o):a < h.objs.size:=(x a o e).lt
theorem fA.fresh (x:fA P w H h) (e:h.objs.size≤a):H a=none:=by
 cases q:H a with
 | none=>rfl
 | some u=>exact absurd (Nat.lt_of_lt_of_le (x.lt q) e) (Nat.lt_irrefl _)
theorem fA.kept (x:fA P w H h) (k:∀ b u,h.get? b=some u->h'.get? b=some u):fA P w H h':=fun a o e=>
 (x a o e).stay (fun b u _ q=>k b u q) (fun _ q=>q) fun _ _ q=>q
theorem fA.laid (x:fA P w H h) (k:∀ b u,h.get? b=some u->h'.get? b=some u) (hp:h.objs.size≤a) (new:ObjOk P w (upd H a o) h' a o):fA P w (upd H a o) h':=fun b u e=>by
 have hn:=x.fresh hp
 by_cases hb:b=a
 ·subst hb;rw [ai] at e;cases e;exact new
 ·rw [aw hb] at e
  exact (x b u e).stay (fun c v _ q=>k c v q) (fun c q=>by rw [aw (aM q hn)];exact q) fun c xs q=>by rw [aw (aM q hn)];exact q
end
def Rd (H:Hp) (a:Addr) (u:HO):Prop:=H a=some u∨∃ o,H a=some (.frz o u)
theorem Rd.ok {P:Program} {w:World} {H:Hp} {h:Heap} {a:Addr} {u:HO} (r:Rd H a u) (x:fA P w H h):ObjOk P w H h a u:=by
 rcases r with r | ⟨o,r⟩
 ·exact x a u r
 ·obtain⟨_,q⟩:=x a _ r
  exact q
def Df:Option HO->Prop
 | some (.lst _)=>True
 | some (.dK _)=>True
 | some (.dT _)=>True
 | some (.set _ _)=>True
 | some (.ins _ _ _)=>True
 | some (.ext _)=>True
 | _=>False
section
variable {P:Program} {w:World} {H:Hp} {h h':Heap} {x e:Addr} {o':HO}
theorem fA.write (ok:fA P w H h) (mu:Df (H x)) (he:e=x∨H e=some (.own x)) (k:∀ b u,b≠e->h.get? b=some u->h'.get? b=some u) (heo:∃ u,h'.get? e=some u)
  (new:ObjOk P w (upd H x o') h' x o'):fA P w (upd H x o') h':=fun b u q=>by
 have nown:∀ c y,H c=some (.own y)->c≠x:=fun c y r z=>by subst z;rw [r] at mu;exact mu
 have ntup:∀ c xs,H c=some (.tup xs)->c≠x:=fun c xs r z=>by subst z;rw [r] at mu;exact mu
 by_cases hb:b=x
 ·subst hb;rw [ai] at q;cases q;exact new
 ·rw [aw hb] at q
  by_cases hbe:b=e
  ·have q':H b=some (.own x):=by
    rcases he with z | z
    ·exact absurd (hbe.trans z) hb
    ·rw [hbe];exact z
   rw [q] at q';cases q'
   obtain⟨v,hv⟩:=heo
   exact⟨v,by rw [hbe];exact hv⟩
  ·refine (ok b u q).stay (fun c v hc r=>k c v ?_ r) (fun c r=>by rw [aw (nown c b r)];exact r) fun c xs r=>by rw [aw (ntup c xs r)];exact r
   rcases hc with rfl | hc
   ·exact hbe
   ·rintro rfl
    rcases he with z | z
    ·exact nown c b hc z
    ·rw [hc] at z;cases z;exact hb rfl
end
structure Un (fs ex:List Addr) (H H':Hp) (h h':Heap):Prop where
 keep:∀ b o,h.get? b=some o->H b=none->b∉fs->b∉ex->h'.get? b=some o
 slot:∀ b o,h.get? b=some o->H b=none->b∈fs->b∉ex->∃ sl,h'.get? b=some { o with slots:=sl }
 free:∀ b o,h.get? b=some o->H b=none->b∉ex->H' b=none
 there:∀ b o,h.get? b=some o->b∉ex->∃ o',h'.get? b=some o'
 tups:∀ b xs,H b=some (.tup xs)->H' b=some (.tup xs)
 frzs:∀ b o u,H b=some (.frz o u)->H' b=some (.frz o u)
 tbls:∀ b ps,H b=some (.tbl ps)->∃ more,H' b=some (.tbl (ps++more))
section
variable {fs fs' ex ex':List Addr} {H H1 H2:Hp} {h h1 h2 h':Heap} {a x e:Addr} {o:HO}
theorem Un.any (u:Un fs ex H H1 h h1) {b:Addr} {ob:Obj} (q:h.get? b=some ob) (n:H b=none) (hx:b∉ex):∃ sl,h1.get? b=some { ob with slots:=sl }:=by
 by_cases hb:b∈fs
 ·exact u.slot b ob q n hb hx
 ·exact⟨ob.slots,u.keep b ob q n hb hx⟩
theorem Un.kept (k:∀ b u,h.get? b=some u->h'.get? b=some u):Un fs ex H H h h':=
 ⟨fun b ob q _ _ _=>k b ob q,fun b ob q _ _ _=>⟨ob.slots,k b ob q⟩,fun _ _ _ n _=>n,fun b ob q _=>⟨ob,k b ob q⟩,fun _ _ q=>q,fun _ _ _ q=>q,fun _ ps q=>⟨#[],by rw [q];simp⟩⟩
theorem Un.refl:Un fs ex H H h h:=Un.kept fun _ _ q=>q
theorem Un.laid (k:∀ b u,h.get? b=some u->h'.get? b=some u) (hp:h.objs.size≤a) (hn:H a=none):Un fs ex H (upd H a o) h h' where
 keep:=fun b u q _ _ _=>k b u q
 slot:=fun b u q _ _ _=>⟨u.slots,k b u q⟩
 free:=fun b u q n _=>by rw [aw (Nat.ne_of_lt (Nat.lt_of_lt_of_le (Heap.lt_size q) hp))];exact n
 there:=fun b u q _=>⟨u,k b u q⟩
 tups:=fun b xs q=>by rw [aw (aM q hn)];exact q
 frzs:=fun b u xs q=>by rw [aw (aM q hn)];exact q
 tbls:=fun b ps q=>⟨#[],by rw [aw (aM q hn),q];simp⟩
theorem Un.write (mu:Df (H x)) (he:e=x∨H e=some (.own x)) (k:∀ b u,b≠e->h.get? b=some u->h'.get? b=some u) (heo:∃ u,h'.get? e=some u):Un fs ex H (upd H x o) h h':=by
 have hx:∀ b,H b=none->b≠x:=fun b n z=>by subst z;rw [n] at mu;exact mu
 have hb:∀ b,H b=none->b≠e:=fun b n z=>by
  subst z
  rcases he with r | r
  ·exact hx b n r
  ·rw [n] at r;cases r
 have hm:∀ b u,H b=some u->¬ Df (some u)->b≠x:=fun b u q nm z=>by subst z;rw [q] at mu;exact nm mu
 refine⟨fun b u q n _ _=>k b u (hb b n) q,fun b u q n _ _=>⟨u.slots,k b u (hb b n) q⟩,fun b u q n _=>by rw [aw (hx b n)];exact n,fun b u q _=>?_,
  fun b xs q=>by rw [aw (hm b _ q fun z=>z)];exact q,fun b u xs q=>by rw [aw (hm b _ q fun z=>z)];exact q,fun b ps q=>⟨#[],by rw [aw (hm b _ q fun z=>z),q];simp⟩⟩
 by_cases hbe:b=e
 ·subst hbe;exact heo
 ·exact⟨u,k b u hbe q⟩
end
def yL (h:Heap) (H:Hp):List Addr:=(List.range h.objs.size).filter fun a=>(H a).isSome
def kU (h:Heap) (H:Hp):Heap:=PySem.W.hideAll h (yL h H)
theorem qI (h:Heap) (H:Hp):(kU h H).objs.size=h.objs.size:=PySem.W.hideAll_size _ _
theorem uK {h:Heap} {H:Hp} {b:Addr} {o:Obj} (e:h.get? b=some o) (n:H b=none):(kU h H).get? b=some o:=
 PySem.W.hideAll_get _ e fun hm=>by
  have q:(H b).isSome=true:=(List.mem_filter.mp hm).2
  rw [n] at q;simp at q
theorem wN {h:Heap} {H:Hp} {b:Addr} {o:Obj} (e:(kU h H).get? b=some o):h.get? b=some o/\H b=none:=by
 have e':h.get? b=some o:=PySem.W.of_hideAll (yL h H) e
 refine⟨e',?_⟩
 cases q:H b with
 | none=>rfl
 | some x=>
  have hm:b∈yL h H:=List.mem_filter.mpr ⟨List.mem_range.mpr (Heap.lt_size e'),by simp [q]⟩
  have z:(kU h H).get? b=none:=PySem.W.hideAll_none (yL h H) hm
  rw [z] at e;cases e
def xF (g h:Heap) (L:Addr):bo:=(List.range h.objs.size).filterMap fun a=>if a=L∨(g.get? a).isSome=true then none else (h.get? a).map fun o=>(a,o)
def bT (g h:Heap) (L d:Addr):bo:=(xF g h L).filter fun p=>decide (p.1≠d)
end L2
namespace L2
open PySem PySem.Spec PyProof.Rows
structure Mod (K:Fg) (mg:Str->Option Value) (base:Heap):Prop where
 kin:K.In base
 glob:base.Ns mainGlobals mg
 blt:∃ mb,base.Ns builtinsNs mb/\∀ x:Str,x ≠ "__name__" -> mb x=bootBuiltins x
 nolimit:base.NoLimit
structure Cx where
 prog:Program
 w:World
 K:Fg
 mg:Str->Option Value
 base:Heap
 A:Around
 N:List Str
 s₀:Shared
 H₀:Hp
 env:Env
 outer:List Env
 stack:List Env
 ex:List Addr
 fn:Str->Bool
 calm:Bool
 pn:bo
 xe:bu
def jx (l:List Env):List Addr:=l.filterMap (·.frame)
abbrev Cx.fs (X:Cx):List Addr:=jx X.outer
def DG (sc:Scope) (x:Str):Prop:=sc.names.lookup x=some .local∨sc.names.lookup x=some .cell∨sc.names.lookup x=some .free
def xM (sc:Scope) (x:Str):Prop:=sc.names.lookup x=some .local∨sc.names.lookup x=some .cell
def Ez (env:Env) (h:Heap) (m:Str->Option Value) (x:Str) (u:Value):Prop:=
 (env.kindOf x=some .local/\m x=some u)∨((env.kindOf x=some .cell∨env.kindOf x=some .free)/\∃ c,env.cells.lookup x=some c/\h.IsCell c (some u))
structure Cx.Ok (X:Cx):Prop where
 mod:Mod X.K X.mg X.base
 kind:X.env.scope.kind=.function
 glob:X.env.globals=mainGlobals
 blt:X.env.builtins=builtinsNs
 above:X.s₀.heap.objs.size≤X.env.locals
 inj:∀ x y c,X.env.cells.lookup x=some c->X.env.cells.lookup y=some c->x=y
 has:∀ x,(X.env.kindOf x=some .cell∨X.env.kindOf x=some .free)->∃ c,X.env.cells.lookup x=some c
 cab:∀ x c,X.fn x=true->X.env.cells.lookup x=some c->X.s₀.heap.objs.size≤c
 hd:X.calm=true->X.A.handled=none
 frames:X.A.frames=some X.stack
 stk:X.stack=X.outer∨(X.stack=X.env :: X.outer/\X.env.frame=some X.env.locals)
 exf:∀ b∈X.ex,b≠X.env.locals/\∀ x c,X.env.cells.lookup x=some c->c≠b
 bs:∀ b o,X.base.get? b=some o->X.s₀.heap.get? b=some o/\X.H₀ b=none
 bsz:X.base.objs.size≤X.s₀.heap.objs.size
 noex:∀ b o,X.base.get? b=some o->b∉X.ex
 exfs:∀ b∈X.ex,b∉X.fs
 funs:X.s₀.heap.FunFrames X.base X.outer
 frf:∀ b∈X.fs,X.H₀ b=none
structure Inv (X:Cx) (pins:bo) (σ:List (Option V)) (H:Hp) (s:Shared):Prop where
 ok:X.Ok
 os:s.os=X.s₀.os
 bare:AllBare s.gens
 base:Un X.fs X.ex X.H₀ H X.s₀.heap s.heap
 loc:∃ m,s.heap.Ns X.env.locals m/\∀ (i:Nat) (x:Str) (v:V),X.N[i]?=some x->σ[i]?=some (some v)->DG X.env.scope x->∃ u,aU v u/\Ez X.env s.heap m x u
 cell:∀ x c,X.env.cells.lookup x=some c->∃ v,s.heap.IsCell c v
 free:H X.env.locals=none
 freeC:∀ x c,X.env.cells.lookup x=some c->H c=none
 pin:∀ p∈X.pn++pins,s.heap.get? p.1=some p.2/\H p.1=none/\p.1≠X.env.locals/\p.1∉X.fs/\∀ v,p.2.data≠.cell v
 hok:fA X.prog X.w H s.heap
 len:σ.length=X.N.length
section
variable {X:Cx} {pins:bo} {σ:List (Option V)} {H H':Hp} {s:Shared} {h':Heap}
theorem Cx.Ok.nofr (ok:X.Ok) {b:Addr} {o:Obj} (e:X.base.get? b=some o):b∉X.fs:=fun hb=>by
 have:=(ok.funs.mem hb).1
 rw [e] at this;cases this
theorem Inv.bs (I:Inv X pins σ H s):∀ b o,X.base.get? b=some o->s.heap.get? b=some o/\H b=none:=fun b o e=>
 ⟨I.base.keep b o (I.ok.bs b o e).1 (I.ok.bs b o e).2 (I.ok.nofr e) (I.ok.noex b o e),I.base.free b o (I.ok.bs b o e).1 (I.ok.bs b o e).2 (I.ok.noex b o e)⟩
theorem Inv.bk (I:Inv X pins σ H s):∀ b o,X.base.get? b=some o->s.heap.get? b=some o:=fun b o e=>(I.bs b o e).1
theorem Inv.mod (I:Inv X pins σ H s):Mod X.K X.mg X.base:=I.ok.mod
theorem Inv.kIn (I:Inv X pins σ H s):X.K.In s.heap:=I.ok.mod.kin.keeps I.bk
theorem Inv.lt (I:Inv X pins σ H s):X.env.locals < s.heap.objs.size:=let ⟨_,hn,_⟩:=I.loc;hn.lt
theorem Inv.sz (I:Inv X pins σ H s):X.s₀.heap.objs.size≤s.heap.objs.size:=Nat.le_trans I.ok.above (Nat.le_of_lt I.lt)
theorem Inv.nofs (I:Inv X pins σ H s) {a:Addr} (h:s.heap.objs.size≤a):a∉X.fs:=fun hb=>by
 obtain⟨_,o,ho,_⟩:=I.ok.funs.mem hb
 exact absurd (Nat.lt_of_lt_of_le (Heap.lt_size ho) (Nat.le_trans I.sz h)) (Nat.lt_irrefl _)
theorem Inv.cne (I:Inv X pins σ H s):∀ x c,X.env.cells.lookup x=some c->c≠X.env.locals:=fun x c e z=>by
 obtain⟨v,o,ho,hd⟩:=I.cell x c e
 obtain⟨m,⟨o',es,ep,ho',hd',_⟩,_⟩:=I.loc
 rw [z,ho'] at ho;cases ho;rw [hd'] at hd;cases hd
theorem Inv.funs (I:Inv X pins σ H s):s.heap.FunFrames X.base X.outer:=by
 have all:∀ (l:List Env),(∀ b∈jx l,b∈X.fs)->X.s₀.heap.FunFrames X.base l->s.heap.FunFrames X.base l:=by
  intro l
  induction l with
  | nil=>intro _ _;trivial
  | cons env r ih=>
   intro hs hl
   obtain⟨hk,⟨L,o,hf,hn,ho,hd⟩,hr⟩:=hl
   have hL:L∈X.fs:=hs L (by unfold jx;rw [List.filterMap_cons,hf];exact List.mem_cons_self)
   obtain⟨sl,e⟩:=I.base.slot L o ho (I.ok.frf L hL) hL fun z=>I.ok.exfs L z hL
   exact⟨hk,⟨L,_,hf,hn,e,hd⟩,ih (fun b hb=>hs b (by unfold jx;rw [List.filterMap_cons,hf];exact List.mem_cons_of_mem _ hb)) hr⟩
 exact all X.outer (fun _ hb=>hb) I.ok.funs
theorem Inv.stack (I:Inv X pins σ H s):s.heap.FunFrames X.base X.stack:=by
 rcases I.ok.stk with e | ⟨e,hf⟩
 ·rw [e];exact I.funs
 ·rw [e]
  obtain⟨m,hn,_⟩:=I.loc
  refine .cons (by rw [I.ok.kind];decide) hf hn ?_ I.funs
  exact Heap.get?_none_of_le (Nat.le_trans I.ok.bsz I.ok.above)
theorem Inv.stkSub (I:Inv X pins σ H s):∀ b∈jx X.stack,b∈X.env.locals :: X.fs:=fun b hb=>by
 rcases I.ok.stk with e | ⟨e,hf⟩
 ·rw [e] at hb;exact List.mem_cons_of_mem _ hb
 ·rw [e] at hb
  unfold jx at hb
  rw [List.filterMap_cons,hf] at hb
  exact hb
theorem Inv.stkFree (I:Inv X pins σ H s):∀ b∈jx X.stack,H b=none:=fun b hb=>by
 rcases List.mem_cons.mp (I.stkSub b hb) with e | hb
 ·rw [e];exact I.free
 ·obtain⟨_,o,ho,_⟩:=I.ok.funs.mem hb
  exact I.base.free b o ho (I.ok.frf b hb) fun z=>I.ok.exfs b z hb
theorem Inv.step {g':Array GenState} {t':Nat} {d':Drawn} {ch:List Addr} (I:Inv X pins σ H s)
  (hch:∀ b∈ch,(b∈X.ex∨X.s₀.heap.get? b=none)/\b≠X.env.locals/\(∀ x c,X.env.cells.lookup x=some c->c≠b)/\∀ p∈X.pn++pins,p.1≠b)
  (keep:∀ b o,b≠X.env.locals->b∉X.fs->b∉ch->s.heap.get? b=some o->H b=none->h'.get? b=some o)
  (slot:∀ b o,b≠X.env.locals->b∈X.fs->b∉ch->s.heap.get? b=some o->H b=none->∃ sl,h'.get? b=some { o with slots:=sl }) (free:∀ b o,b∉ch->s.heap.get? b=some o->H b=none->H' b=none)
  (there:∀ b o,b∉ch->s.heap.get? b=some o->∃ o',h'.get? b=some o')
  (tups:∀ b xs,H b=some (.tup xs)->H' b=some (.tup xs)) (frzs:∀ b o u,H b=some (.frz o u)->H' b=some (.frz o u)) (tbls:∀ b ps,H b=some (.tbl ps)->∃ more,H' b=some (.tbl (ps++more)))
  (ns:∀ m,s.heap.Ns X.env.locals m->h'.Ns X.env.locals m) (hok:fA X.prog X.w H' h') (hg:AllBare g') :
  Inv X pins σ H' { s with heap:=h',gens:=g',drawn:=d',toks:=t' }:=by
 have neL:∀ b o,X.s₀.heap.get? b=some o->b≠X.env.locals:=fun b o e=>Nat.ne_of_lt (Nat.lt_of_lt_of_le (Heap.lt_size e) I.ok.above)
 have neC:∀ b o,X.s₀.heap.get? b=some o->b∉X.ex->b∉ch:=fun b o e hx hb=>by
  rcases (hch b hb).1 with z | z
  ·exact hx z
  ·rw [e] at z;cases z
 have cellK:∀ x c,X.env.cells.lookup x=some c->∀ v,s.heap.IsCell c v->h'.IsCell c v:=fun x c e v ⟨o,ho,hd⟩=>by
  have nch:c∉ch:=fun z=>(hch c z).2.2.1 x c e rfl
  by_cases hc:c∈X.fs
  ·obtain⟨sl,q⟩:=slot c o (I.cne x c e) hc nch ho (I.freeC x c e)
   exact⟨_,q,hd⟩
  ·exact⟨o,keep c o (I.cne x c e) hc nch ho (I.freeC x c e),hd⟩
 refine⟨I.ok,I.os,hg,⟨fun b o e n hb hx=>?_,fun b o e n hb hx=>?_,fun b o e n hx=>?_,fun b o e hx=>?_,fun b xs e=>tups b xs (I.base.tups b xs e),fun b o xs e=>frzs b o xs (I.base.frzs b o xs e),fun b ps e=>?_⟩,?_,fun x c e=>?_,?_,fun x c e=>?_,fun p hp=>?_,hok,I.len⟩
 ·exact keep b o (neL b o e) hb (neC b o e hx) (I.base.keep b o e n hb hx) (I.base.free b o e n hx)
 ·obtain⟨sl,e1⟩:=I.base.slot b o e n hb hx
  obtain⟨sl',e2⟩:=slot b _ (neL b o e) hb (neC b o e hx) e1 (I.base.free b o e n hx)
  exact⟨sl',e2⟩
 ·obtain⟨o',e1⟩:=I.base.there b o e hx
  exact free b o' (neC b o e hx) e1 (I.base.free b o e n hx)
 ·obtain⟨o',e1⟩:=I.base.there b o e hx
  exact there b o' (neC b o e hx) e1
 ·obtain⟨m1,e1⟩:=I.base.tbls b ps e
  obtain⟨m2,e2⟩:=tbls b _ e1
  exact⟨m1++m2,by rw [e2,Array.append_assoc]⟩
 ·obtain⟨m,hn,hl⟩:=I.loc
  refine⟨m,ns m hn,fun i x v e1 e2 e3=>?_⟩
  obtain⟨u,r,l⟩:=hl i x v e1 e2 e3
  refine⟨u,r,?_⟩
  rcases l with l | ⟨k,c,e,z⟩
  ·exact .inl l
  ·exact .inr ⟨k,c,e,cellK x c e _ z⟩
 ·obtain⟨v,z⟩:=I.cell x c e
  exact⟨v,cellK x c e v z⟩
 ·obtain⟨m,⟨o,_,_,ho,_⟩,_⟩:=I.loc
  exact free _ o (fun z=>(hch _ z).2.1 rfl) ho I.free
 ·obtain⟨v,o,ho,hd⟩:=I.cell x c e
  exact free c o (fun z=>(hch c z).2.2.1 x c e rfl) ho (I.freeC x c e)
 ·obtain⟨e,n,ne,nf,d⟩:=I.pin p hp
  have nch:p.1∉ch:=fun z=>(hch p.1 z).2.2.2 p hp rfl
  exact⟨keep p.1 p.2 ne nf nch e n,free p.1 p.2 nch e n,ne,nf,d⟩
theorem Inv.un {t':Nat} (I:Inv X pins σ H s) (u:Un X.fs [] H H' s.heap h') (hok:fA X.prog X.w H' h'):Inv X pins σ H' { s with heap:=h',toks:=t' }:=by
 obtain⟨m,⟨o,es,ep,ho,r⟩,_⟩:=id I.loc
 obtain⟨sl,hL⟩:=u.any ho I.free (by simp)
 exact I.step (g':=s.gens) (d':=s.drawn) (ch:=[]) (fun _ z=>nomatch z) (fun b o _ hb _ e n=>u.keep b o e n hb (by simp)) (fun b o _ hb _ e n=>u.slot b o e n hb (by simp)) (fun b o _ e n=>u.free b o e n (by simp)) (fun b o _ e=>u.there b o e (by simp)) u.tups u.frzs u.tbls (fun m' hm=>by
  obtain⟨o',es',ep',ho',r'⟩:=hm
  rw [ho] at ho';cases ho'
  exact⟨_,es',ep',hL,r'⟩) hok I.bare
theorem Inv.call {g':Array GenState} {t':Nat} {d':Drawn} {ch:List Addr} (I:Inv X pins σ H s) (u:Un (jx X.stack) ch H H' s.heap h') (hok:fA X.prog X.w H' h') (hg:AllBare g')
  (hch:∀ b∈ch,(b∈X.ex∨X.s₀.heap.get? b=none)/\b≠X.env.locals/\(∀ x c,X.env.cells.lookup x=some c->c≠b)/\∀ p∈X.pn++pins,p.1≠b) :
  Inv X pins σ H' { s with heap:=h',gens:=g',drawn:=d',toks:=t' }:=by
 obtain⟨m,⟨o,es,ep,ho,r⟩,_⟩:=id I.loc
 obtain⟨sl,hL⟩:=u.any ho I.free fun z=>(hch _ z).2.1 rfl
 exact I.step (ch:=ch) hch (fun b o hL hb hc e n=>u.keep b o e n (fun z=>(List.mem_cons.mp (I.stkSub b z)).elim hL hb) hc) (fun b o _ _ hc e n=>u.any e n hc) (fun b o hc e n=>u.free b o e n hc) (fun b o hc e=>u.there b o e hc) u.tups u.frzs u.tbls (fun m' hm=>by
  obtain⟨o',es',ep',ho',r'⟩:=hm
  rw [ho] at ho';cases ho'
  exact⟨_,es',ep',hL,r'⟩) hok hg
theorem Inv.turned {t':Nat} {it:Addr} (I:Inv X pins σ H s) (k:∀ b o,b≠it->s.heap.get? b=some o->h'.get? b=some o) (hn:H it=none) (hL:it≠X.env.locals)
  (h1:it∈X.ex∨X.s₀.heap.get? it=none) (h2:∀ x c,X.env.cells.lookup x=some c->c≠it) (h3:∀ p∈X.pn++pins,p.1≠it):Inv X pins σ H { s with heap:=h',toks:=t' }:=by
 have nit:∀ b u,H b=some u->b≠it:=fun b u e z=>by rw [z,hn] at e;cases e
 refine I.step (g':=s.gens) (d':=s.drawn) (ch:=[it]) (fun b hb=>?_) (fun b o _ _ hc e _=>k b o (fun z=>hc (by simp [z])) e) (fun b o _ _ hc e _=>⟨o.slots,k b o (fun z=>hc (by simp [z])) e⟩) (fun _ _ _ _ n=>n)
  (fun b o hc e=>⟨o,k b o (fun z=>hc (by simp [z])) e⟩) (fun _ _ e=>e) (fun _ _ _ e=>e) (fun b ps e=>⟨#[],by rw [e];simp⟩) (fun m hm=>?_) (fun b u e=>?_) I.bare
 ·have e:b=it:=by simpa using hb
  subst e
  exact⟨h1,hL,h2,h3⟩
 ·obtain⟨o,es,ep,ho,r⟩:=hm
  exact⟨o,es,ep,k _ o (Ne.symm hL) ho,r⟩
 ·refine (I.hok b u e).stay (fun c v hc q=>k c v ?_ q) (fun _ q=>q) fun _ _ q=>q
  rcases hc with z | z
  ·rw [z];exact nit b u e
  ·exact nit c _ z
theorem Inv.tok (I:Inv X pins σ H s) (t:Nat):Inv X pins σ H { s with toks:=t }:=I.un (h':=s.heap) (t':=t) Un.refl I.hok
theorem Inv.kept {t':Nat} (I:Inv X pins σ H s) (k:∀ b u,s.heap.get? b=some u->h'.get? b=some u):Inv X pins σ H { s with heap:=h',toks:=t' }:=I.un (Un.kept k) (I.hok.kept k)
theorem Inv.laid {a:Addr} {o:HO} {t':Nat} (I:Inv X pins σ H s) (k:∀ b u,s.heap.get? b=some u->h'.get? b=some u) (hp:s.heap.objs.size≤a) (new:ObjOk X.prog X.w (upd H a o) h' a o) :
  Inv X pins σ (upd H a o) { s with heap:=h',toks:=t' }:=I.un (Un.laid k hp (I.hok.fresh hp)) (I.hok.laid k hp new)
theorem Inv.write {x e:Addr} {o:HO} {t':Nat} (I:Inv X pins σ H s) (mu:Df (H x)) (he:e=x∨H e=some (.own x)) (k:∀ b u,b≠e->s.heap.get? b=some u->h'.get? b=some u) (heo:∃ u,h'.get? e=some u)
  (new:ObjOk X.prog X.w (upd H x o) h' x o):Inv X pins σ (upd H x o) { s with heap:=h',toks:=t' }:=I.un (Un.write mu he k heo) (I.hok.write mu he k heo new)
theorem Inv.weak {σ':List (Option V)} (I:Inv X pins σ H s) (hl:σ'.length=σ.length) (w:∀ (i:Nat) v,σ'[i]?=some (some v)->σ[i]?=some (some v)):Inv X pins σ' H s:=
 ⟨I.ok,I.os,I.bare,I.base,let ⟨m,hn,hl'⟩:=I.loc;⟨m,hn,fun i x v e1 e2 e3=>hl' i x v e1 (w i v e2) e3⟩,I.cell,I.free,I.freeC,I.pin,I.hok,hl.trans I.len⟩
theorem Inv.pins_of {pins':bo} (I:Inv X pins σ H s) (h:∀ p∈pins',s.heap.get? p.1=some p.2/\H p.1=none/\p.1≠X.env.locals/\p.1∉X.fs/\∀ v,p.2.data≠.cell v):Inv X pins' σ H s:=
 ⟨I.ok,I.os,I.bare,I.base,I.loc,I.cell,I.free,I.freeC,fun p hp=>(List.mem_append.mp hp).elim (fun z=>I.pin p (List.mem_append_left _ z)) (h p),I.hok,I.len⟩
theorem iT {N:List Str} (hN:N.Nodup) {i j:Nat} {x:Str} (a:N[i]?=some x) (b:N[j]?=some x):i=j:=by
 obtain⟨h1,e1⟩:=List.getElem?_eq_some_iff.mp a
 obtain⟨h2,e2⟩:=List.getElem?_eq_some_iff.mp b
 exact (List.getElem_inj hN).mp (e1.trans e2.symm)
theorem pW {M:Model} {A:Around} {E:bu} {i:Nat} {x:Str} {v:V} {u:Value} {Q:Unit->Shared->Prop} (I:Inv X pins σ H s) (hN:X.N.Nodup) (hi:X.N[i]?=some x) (hx:xM X.env.scope x) (r:aU v u)
  (h:∀ s',Inv X pins (σ.set i (some v)) H s'->(∃ a,Heap.SameBut a s.heap s'.heap/\(a=X.env.locals∨X.env.cells.lookup x=some a))->Q () s') (hf:X.fn x=true∨X.env.scope.names.lookup x=some .local:=by first | exact .inl rfl | exact .inr rfl | assumption):wpAny M A (storeName X.env x u) Q E s:=by
 obtain⟨m,hn,hl⟩:=id I.loc
 have hcls:(X.env.scope.kind == .class || (X.env.scope.kind == .module && X.env.locals != X.env.globals))=false:=by rw [I.ok.kind];rfl
 have hiσ:i < σ.length:=by rw [I.len];exact (List.getElem?_eq_some_iff.mp hi).1
 have cne:=I.cne
 have tracked:∀ {a:Addr} {h':Heap},(∃ o,s.heap.get? a=some o/\H a=none)->Heap.SameBut a s.heap h'->fA X.prog X.w H h':=fun {a h'} ha hs b ob e=>by
  obtain⟨_,_,hfree⟩:=ha
  refine (I.hok b ob e).stay (fun c w' hc q=>(hs.2 c ?_).trans q) (fun _ q=>q) fun _ _ q=>q
  rintro rfl
  rcases hc with rfl | hc
  ·rw [hfree] at e;cases e
  ·rw [hfree] at hc;cases hc
 rcases hx with hk | hk
 ·refine wpAny_storeName_local hk hn (fun h' hn' hs=>?_) hcls
  obtain⟨oL,_,_,hoL,_⟩:=id hn
  refine h _ ⟨I.ok,I.os,I.bare,⟨fun b o e n hb hx=>?_,fun b o e n hb hx=>?_,I.base.free,fun b o e hx=>?_,I.base.tups,I.base.frzs,I.base.tbls⟩,⟨_,hn',fun j y v' e1 e2 e3=>?_⟩,fun y c e=>?_,I.free,I.freeC,fun p hp=>?_,tracked ⟨oL,hoL,I.free⟩ hs,by simpa using I.len⟩ ⟨_,hs,.inl rfl⟩
  ·exact (hs.2 b (Nat.ne_of_lt (Nat.lt_of_lt_of_le (Heap.lt_size e) I.ok.above))).trans (I.base.keep b o e n hb hx)
  ·obtain⟨sl,e1⟩:=I.base.slot b o e n hb hx
   exact⟨sl,(hs.2 b (Nat.ne_of_lt (Nat.lt_of_lt_of_le (Heap.lt_size e) I.ok.above))).trans e1⟩
  ·obtain⟨o',e1⟩:=I.base.there b o e hx
   exact⟨o',(hs.2 b (Nat.ne_of_lt (Nat.lt_of_lt_of_le (Heap.lt_size e) I.ok.above))).trans e1⟩
  ·by_cases hj:j=i
   ·subst hj
    rw [hi] at e1;cases e1
    rw [List.getElem?_set_self hiσ] at e2
    cases e2
    exact⟨u,r,.inl ⟨hk,by simp⟩⟩
   ·rw [List.getElem?_set_ne (Ne.symm hj)] at e2
    obtain⟨u',r',q⟩:=hl j y v' e1 e2 e3
    refine⟨u',r',?_⟩
    rcases q with ⟨k,e⟩ | ⟨k,c,e,z⟩
    ·refine .inl ⟨k,?_⟩
     have:y≠x:=fun e=>hj (iT hN e1 (e ▸ hi))
     simp [this,e]
    ·exact .inr ⟨k,c,e,z.sameBut hs (cne y c e)⟩
  ·obtain⟨w',z⟩:=I.cell y c e
   exact⟨w',z.sameBut hs (cne y c e)⟩
  ·obtain⟨e,n,ne,nf,d⟩:=I.pin p hp
   exact⟨(hs.2 p.1 ne).trans e,n,ne,nf,d⟩
 ·have hfn:X.fn x=true:=by
   rcases hf with z | z
   ·exact z
   ·rw [z] at hk;cases hk
  obtain⟨c,hc⟩:=I.ok.has x (.inl hk)
  obtain⟨w',z⟩:=I.cell x c hc
  refine wpAny_storeName_cell I.ok.kind hk hc z (fun h' hc' hs=>?_)
  obtain⟨oc,hoc,hocd⟩:=id z
  refine h { s with heap:=h' } ⟨I.ok,I.os,I.bare,⟨fun b o e n hb hx=>?_,fun b o e n hb hx=>?_,I.base.free,fun b o e hx=>?_,I.base.tups,I.base.frzs,I.base.tbls⟩,⟨m,hn.sameBut hs (Ne.symm (cne x c hc)),fun j y v' e1 e2 e3=>?_⟩,fun y c' e=>?_,I.free,I.freeC,fun p hp=>?_,tracked ⟨oc,hoc,I.freeC x c hc⟩ hs,by simpa using I.len⟩ ⟨c,hs,.inr hc⟩
  ·exact (hs.2 b (Nat.ne_of_lt (Nat.lt_of_lt_of_le (Heap.lt_size e) (I.ok.cab x c hfn hc)))).trans (I.base.keep b o e n hb hx)
  ·obtain⟨sl,e1⟩:=I.base.slot b o e n hb hx
   exact⟨sl,(hs.2 b (Nat.ne_of_lt (Nat.lt_of_lt_of_le (Heap.lt_size e) (I.ok.cab x c hfn hc)))).trans e1⟩
  ·obtain⟨o',e1⟩:=I.base.there b o e hx
   exact⟨o',(hs.2 b (Nat.ne_of_lt (Nat.lt_of_lt_of_le (Heap.lt_size e) (I.ok.cab x c hfn hc)))).trans e1⟩
  ·by_cases hj:j=i
   ·subst hj
    rw [hi] at e1;cases e1
    rw [List.getElem?_set_self hiσ] at e2
    cases e2
    exact⟨u,r,.inr ⟨.inl hk,c,hc,hc'⟩⟩
   ·rw [List.getElem?_set_ne (Ne.symm hj)] at e2
    obtain⟨u',r',q⟩:=hl j y v' e1 e2 e3
    refine⟨u',r',?_⟩
    rcases q with q | ⟨k,c',e,z'⟩
    ·exact .inl q
    ·refine .inr ⟨k,c',e,z'.sameBut hs ?_⟩
     rintro rfl
     exact hj (iT hN e1 (I.ok.inj _ _ _ e hc ▸ hi))
  ·by_cases hcc:c'=c
   ·subst hcc;exact⟨_,hc'⟩
   ·obtain⟨w2,z2⟩:=I.cell y c' e
    exact⟨w2,z2.sameBut hs hcc⟩
  ·obtain⟨e,n,ne,nf,d⟩:=I.pin p hp
   refine⟨(hs.2 p.1 ?_).trans e,n,ne,nf,d⟩
   intro q
   rw [q,hoc] at e
   have q':oc=p.2:=Option.some.inj e
   exact d w' (by rw [← q'];exact hocd)
theorem dQ {M:Model} {A:Around} {E:bu} {i:Nat} {x:Str} {v:V} {u:Value} {Q:Unit->Shared->Prop} (I:Inv X pins σ H s) (hN:X.N.Nodup) (hi:X.N[i]?=some x) (hx:xM X.env.scope x) (r:aU v u)
  (h:∀ s',Inv X pins (σ.set i (some v)) H s'->Q () s') (hf:X.fn x=true∨X.env.scope.names.lookup x=some .local:=by first | exact .inl rfl | exact .inr rfl | assumption):wpAny M A (storeName X.env x u) Q E s:=
 pW I hN hi hx r (fun s' I' _=>h s' I') hf
theorem Inv.call' {s':Shared} {ch:List Addr} (I:Inv X pins σ H s) (ho:s'.os=s.os) (u:Un (jx X.stack) ch H H' s.heap s'.heap) (hok:fA X.prog X.w H' s'.heap) (hg:AllBare s'.gens)
  (hch:∀ b∈ch,(b∈X.ex∨X.s₀.heap.get? b=none)/\b≠X.env.locals/\(∀ x c,X.env.cells.lookup x=some c->c≠b)/\∀ p∈X.pn++pins,p.1≠b):Inv X pins σ H' s':=by
 obtain⟨h',g',d',t',o'⟩:=s'
 have e:o'=s.os:=ho
 subst e
 exact I.call (g':=g') (t':=t') (d':=d') u hok hg hch
end
abbrev XK:=Value->Option Addr->Hp->Prop
abbrev St:=List (Option V)
abbrev VK:=V->Hp->Prop
abbrev TE:=St->Hp->VK->Prop
abbrev TT:=St->Hp->(Bool->Hp->Prop)->Prop
abbrev TA:=St->Hp->(List V->Hp->Prop)->Prop
structure fN where
 nx:St->Hp->Prop
 rt:VK
 bk:St->Hp->Prop:=fun _ _=>False
 ct:St->Hp->Prop:=fun _ _=>False
abbrev TS:=fN->St->Hp->Prop
def EP (X:Cx) (pins:bo) (σ:St) (Q:VK) (u:Value) (s':Shared):Prop:=∃ v H',Inv X pins σ H' s'/\aU v u/\Q v H'
def TP (X:Cx) (pins:bo) (σ:St) (Q:Bool->Hp->Prop) (b:Bool) (s':Shared):Prop:=∃ H',Inv X pins σ H' s'/\Q b H'
def AP (X:Cx) (pins:bo) (σ:St) (Q:List V->Hp->Prop) (us:List Value) (s':Shared):Prop:=∃ vs H',Inv X pins σ H' s'/\aT vs us/\Q vs H'
def SP (X:Cx) (pins:bo) (D:fN) (f:Flow) (s':Shared):Prop:=
 match f with
 | .next=>∃ σ' H',Inv X pins σ' H' s'/\D.nx σ' H'
 | .brk=>∃ σ' H',Inv X pins σ' H' s'/\D.bk σ' H'
 | .cont=>∃ σ' H',Inv X pins σ' H' s'/\D.ct σ' H'
 | .ret u=>∃ v σ' H',Inv X pins σ' H' s'/\aU v u/\D.rt v H'
def PE (X:Cx) (e:Expr) (t:TE):Prop:=
 ∀ (pins:bo) (s:Shared) (σ:St) (H:Hp) (Q:VK),Inv X pins σ H s->t σ H Q->wpAny (model X.prog X.w) X.A (eval e X.env) (EP X pins σ Q) X.xe s
def PT (X:Cx) (e:Expr) (t:TT):Prop:=
 ∀ (pins:bo) (s:Shared) (σ:St) (H:Hp) (Q:Bool->Hp->Prop),Inv X pins σ H s->t σ H Q->wpAny (model X.prog X.w) X.A (isTrue e X.env (eval e X.env)) (TP X pins σ Q) X.xe s
def PW (X:Cx) (e:Expr) (t:TT):Prop:=
 ∀ (whole:Sem Value) (pins:bo) (s:Shared) (σ:St) (H:Hp) (Q:Bool->Hp->Prop),Inv X pins σ H s->t σ H Q->wpAny (model X.prog X.w) X.A (isTrue e X.env whole) (TP X pins σ Q) X.xe s
theorem PW.pt {X:Cx} {e:Expr} {t:TT} (h:PW X e t):PT X e t:=h _
def PA (X:Cx) (es:List Expr) (t:TA):Prop:=
 ∀ (pos:Pos) (pins:bo) (s:Shared) (σ:St) (H:Hp) (Q:List V->Hp->Prop),Inv X pins σ H s->t σ H Q->wpAny (model X.prog X.w) X.A (spliced (backTo pos (starEach es X.env))) (AP X pins σ Q) X.xe s
def PS (X:Cx) (st:Stmt) (t:TS):Prop:=
 ∀ (pins:bo) (s:Shared) (σ:St) (H:Hp) (D:fN),Inv X pins σ H s->t D σ H->wpAny (model X.prog X.w) X.A (exec st X.env) (SP X pins D) X.xe s
def lD (X:Cx) (st:List Stmt) (t:TS):Prop:=
 ∀ (pins:bo) (s:Shared) (σ:St) (H:Hp) (D:fN),Inv X pins σ H s->t D σ H->wpAny (model X.prog X.w) X.A (execs st X.env) (SP X pins D) X.xe s
theorem bF {α:Type} {t:Sem α} {Q Q':α->Shared->Prop} {M:Model} {A:Around} {E:bu} {s:Shared} (h:wpAny M A t Q E s) (hQ:∀ a s,Q a s->Q' a s):wpAny M A t Q' E s:=wpAny_mono h hQ fun _ _ x=>x
end L2
namespace L2
open PySem PySem.Spec PyProof.Rows
section
variable {X:Cx}
def yN (i:Nat):TE:=fun σ H Q=>∃ v,σ[i]?=some (some v)/\Q v H
def tC (v:V):TE:=fun _ H Q=>Q v H
theorem zX {i:Nat} {x:Str} {pos:Pos} (hN:X.N[i]?=some x) (hv:DG X.env.scope x) (hd:(x == ("__debug__" : Str))=false:=by decide) (hcd:(x == ("__classdict__" : Str))=false:=by decide):PE X (.Name x pos) (yN i):=by
 intro pins s σ H Q I h
 obtain⟨v,e,h⟩:=h
 obtain⟨m,hn,hl⟩:=I.loc
 obtain⟨u,r,l⟩:=hl i x v hN e hv
 have fin:EP X pins σ Q u s:=⟨v,H,I,r,h⟩
 rcases l with ⟨hk,hm⟩ | ⟨hk,c,hc,hcell⟩
 ·exact wpAny_Name (wpAny_loadName_local I.ok.kind hk hn hm fin) hd
 ·rcases hk with hk | hk
  ·exact wpAny_Name (wpAny_loadName_cell I.ok.kind hk hc hcell fin) hd
  ·exact wpAny_Name (wpAny_loadName_free I.ok.kind hk hc hcell fin hcd) hd
theorem uf {i j pos}:PE X (.Constant (.int i) j pos) (tC (.int i)):=fun _ _ _ H _ I h=>wpAny_Constant_int ⟨.int i,H,I.tok _,⟨_,rfl⟩,h⟩
theorem Cs {b j pos}:PE X (.Constant (.bool b) j pos) (tC (.bl b)):=fun _ _ _ H _ I h=>Constant_bool ⟨.bl b,H,I,rfl,h⟩
theorem Ac {j pos}:PE X (.Constant .none j pos) (tC .non):=fun _ _ _ H _ I h=>Constant_none ⟨.non,H,I,rfl,h⟩
theorem zZ {x j pos}:PE X (.Constant (.str x) j pos) (tC (.str x)):=fun _ _ _ H _ I h=>Calls.Constant_str ⟨.str x,H,I.tok _,⟨_,rfl⟩,h⟩
def Gl (X:Cx) (x:Str):Prop:=X.env.kindOf x=some .globalImplicit
theorem ir {E:bu} {pins:bo} {s:Shared} {σ:St} {H:Hp} {x:Str} {u:Value} {pos:Pos} {Q:bu} (I:Inv X pins σ H s) (hg:Gl X x) (hm:X.mg x=some u) (h:Q u s)
  (hd:(x == ("__debug__" : Str))=false:=by decide):wpAny (model X.prog X.w) X.A (eval (.Name x pos) X.env) Q E s:=
 Calls.Name_function_global I.ok.kind hg (Calls.loadGlobal_global (by rw [I.ok.glob];exact I.mod.glob.keeps I.bk) hm h) hd
theorem eU {E:bu} {pins:bo} {s:Shared} {σ:St} {H:Hp} {x:Str} {u:Value} {pos:Pos} {Q:bu} (I:Inv X pins σ H s) (hg:Gl X x) (hm:X.mg x=none) (hv:bootBuiltins x=some u) (h:Q u s)
  (hn:x ≠ "__name__" := by decide) (hd:(x == ("__debug__" : Str))=false:=by decide):wpAny (model X.prog X.w) X.A (eval (.Name x pos) X.env) Q E s:=by
 obtain⟨mb,h1,h2⟩:=I.mod.blt
 exact Calls.Name_function_global I.ok.kind hg (Calls.loadGlobal_builtin (by rw [I.ok.glob];exact I.mod.glob.keeps I.bk) hm (by rw [I.ok.blt];exact h1.keeps I.bk) ((h2 x hn).trans hv) h) hd
theorem wy {x:Str} {v:V} {u:Value} {pos:Pos} (hg:Gl X x) (hm:X.mg x=some u) (r:aU v u) (hd:(x == ("__debug__" : Str))=false:=by decide):PE X (.Name x pos) (tC v):=
 fun _ _ _ H _ I h=>ir I hg hm ⟨v,H,I,r,h⟩ hd
theorem wD {x:Str} {v:V} {u:Value} {pos:Pos} (hg:Gl X x) (hm:X.mg x=none) (hv:bootBuiltins x=some u) (r:aU v u) (hn:x ≠ "__name__" := by decide) (hd:(x == ("__debug__" : Str))=false:=by decide):PE X (.Name x pos) (tC v):=
 fun _ _ _ H _ I h=>eU I hg hm hv ⟨v,H,I,r,h⟩ hn hd
def Ds (ta tb:TE) (k:Int->Int->Hp->Prop):St->Hp->Prop:=fun σ H=>ta σ H fun x H1=>tb σ H1 fun y H2=>∃ i j,x=.int i/\y=.int j/\k i j H2
def FP (ta tb:TE):TE:=fun σ H Q=>Ds ta tb (fun i j H2=>Q (.int (i+j)) H2) σ H
def FE (ta tb:TE):TE:=fun σ H Q=>Ds ta tb (fun i j H2=>Q (.int (i - j)) H2) σ H
def FH (ta tb:TE):TE:=fun σ H Q=>Ds ta tb (fun i j H2=>(-(2 ^ 64) < i/\i < 2 ^ 64)/\Q (.int (i * j)) H2) σ H
variable {a b:Expr} {ta tb:TE} {pos:Pos}
def PC (X:Cx) (op:CmpOp) (a b:Expr) (t:TE):Prop:=
 ∀ (pins:bo) (s:Shared) (σ:St) (H:Hp) (Q:VK),Inv X pins σ H s->t σ H Q→
  wpAny (model X.prog X.w) X.A (eval a X.env) (fun v s₁=>wpAny (model X.prog X.w) X.A (eval b X.env) (fun u s₂=>wpAny (model X.prog X.w) X.A (compareOp op v u) (EP X pins σ Q) X.xe s₂) X.xe s₁) X.xe s
def pV (p:Int->Int->Bool) (ta tb:TE):TE:=fun σ H Q=>Ds ta tb (fun i j H2=>Q (.bl (p i j)) H2) σ H
abbrev Gv:TE->TE->TE:=pV fun i j=>decide (i < j)
abbrev Gw:TE->TE->TE:=pV fun i j=>decide (i≤j)
abbrev Gy:TE->TE->TE:=pV fun i j=>decide (j < i)
abbrev Gz:TE->TE->TE:=pV fun i j=>decide (j≤i)
abbrev FK:TE->TE->TE:=pV fun i j=>decide (i=j)
abbrev FG:TE->TE->TE:=pV fun i j=>!decide (i=j)
def FI (ta:TE):TE:=fun σ H Q=>ta σ H fun x H1=>Q (.bl (decide (x=.non))) H1
def EU (ta:TE):TE:=fun σ H Q=>ta σ H fun x H1=>Q (.bl (!decide (x=.non))) H1
def tB (t:TE):TT:=fun σ H Q=>t σ H fun x H1=>∃ c,x=.bl c/\Q c H1
theorem zK {e:Expr} {t:TE} (h:PE X e t) (he:∀ whole,isTrue e X.env whole=(do let v ← whole;standAt e.pos;holding [v] (truthy v)):=by intro _;rfl):PT X e (tB t):=by
 intro pins s σ H Q I hw
 refine isTrue_plain (bF (h pins s σ H _ I hw) fun v s1 ⟨x,H1,I1,r1,q1⟩=>?_) (he _)
 obtain⟨d,rfl,q⟩:=q1
 cases r1
 exact wpAny_truthy_bool ⟨H1,I1,q⟩
variable {tA tB':TT} {bT:List Expr}
def BJ (t u:TT):TT:=fun σ H Q=>t σ H fun c H1=>if c=true then u σ H1 Q else Q false H1
def ET (t u:TT):TT:=fun σ H Q=>t σ H fun c H1=>if c=true then Q true H1 else u σ H1 Q
def BE (t:TT):TT:=fun σ H Q=>t σ H fun c H1=>Q (!c) H1
theorem vW (ha:PT X a tA):PW X (.BoolOp .And [a] pos) tA:=by
 intro wh pins s σ H Q I h
 refine isTrue_and (bF (ha pins s σ H Q I h) fun c s1 e=>?_)
 cases c with
 | true=>exact isTrue_and_nil e
 | false=>exact e
theorem zH (ha:PT X a tA):PW X (.BoolOp .Or [a] pos) tA:=by
 intro wh pins s σ H Q I h
 refine isTrue_or (bF (ha pins s σ H Q I h) fun c s1 e=>?_)
 cases c with
 | false=>exact isTrue_or_nil e
 | true=>exact e
theorem zI (ha:PT X a tA) (hb:PW X (.BoolOp .And (b :: bT) pos) tB'):PW X (.BoolOp .And (a :: b :: bT) pos) (BJ tA tB'):=by
 intro wh pins s σ H Q I h
 refine isTrue_and (bF (ha pins s σ H _ I h) fun c s1 ⟨H1,I1,q1⟩=>?_)
 cases c with
 | true=>exact hb wh pins s1 σ H1 Q I1 q1
 | false=>exact⟨H1,I1,q1⟩
theorem Cm (ha:PT X a tA) (hb:PW X (.BoolOp .Or (b :: bT) pos) tB'):PW X (.BoolOp .Or (a :: b :: bT) pos) (ET tA tB'):=by
 intro wh pins s σ H Q I h
 refine isTrue_or (bF (ha pins s σ H _ I h) fun c s1 ⟨H1,I1,q1⟩=>?_)
 cases c with
 | true=>exact⟨H1,I1,q1⟩
 | false=>exact hb wh pins s1 σ H1 Q I1 q1
theorem zL (ha:PT X a tA):PT X (.UnaryOp .Not a pos) (BE tA):=by
 intro pins s σ H Q I h
 exact isTrue_not (ha pins s σ H (fun c H1=>Q (!c) H1) I h)
def xX (ta tb:TE):TE:=fun σ H Q=>ta σ H fun x H1=>∃ c,x=.bl c/\if c=true then tb σ H1 Q else Q (.bl false) H1
def FF (ta tb:TE):TE:=fun σ H Q=>ta σ H fun x H1=>∃ c,x=.bl c/\if c=true then Q (.bl true) H1 else tb σ H1 Q
def xR (ta:TE):TE:=fun σ H Q=>ta σ H fun x H1=>∃ c,x=.bl c/\Q (.bl (!c)) H1
theorem Aa {op} {t:TE} (h:PE X a t):PE X (.BoolOp op [a] pos) t:=fun pins s σ H Q I hw=>BoolOp_one (h pins s σ H Q I hw)
theorem Af (ha:PE X a ta) (hb:PE X (.BoolOp .And (b :: bT) pos) tb):PE X (.BoolOp .And (a :: b :: bT) pos) (xX ta tb):=by
 intro pins s σ H Q I h
 refine BoolOp_and (bF (ha pins s σ H _ I h) fun v s1 ⟨x,H1,I1,r1,q1⟩=>?_)
 obtain⟨c,rfl,q1⟩:=q1
 cases r1
 refine wpAny_truthy_bool ?_
 cases c with
 | true=>exact hb pins s1 σ H1 Q I1 q1
 | false=>exact⟨.bl false,H1,I1,rfl,q1⟩
theorem Ab (ha:PE X a ta):PE X (.UnaryOp .Not a pos) (xR ta):=by
 intro pins s σ H Q I h
 refine UnaryOp_ (bF (ha pins s σ H _ I h) fun v s1 ⟨x,H1,I1,r1,q1⟩=>?_)
 obtain⟨c,rfl,q1⟩:=q1
 cases r1
 exact not_of (wpAny_truthy_bool ⟨.bl (!c),H1,I1,rfl,q1⟩)
def Gx (t:TT) (ta tb:TE):TE:=fun σ H Q=>t σ H fun c H1=>if c=true then ta σ H1 Q else tb σ H1 Q
end
end L2
namespace L2
open PySem PySem.Spec PyProof.Rows
def aQ (K:Fg) (H:Hp) (a:Addr) (xs:List V):Prop:=
 Rd H a (.lst xs)∨
  ∃ (o:Obj) (its:Array Value) (n:Nat),K.lookup a=some o/\o.cls=.type "list" /\ o.dict=none/\o.data=.seq its n/\its.size≤sizeLine/\aT xs its.toList
def aV (K:Fg) (H:Hp) (a:Addr) (xs:List V):Prop:=
 Rd H a (.tup xs)∨
  ∃ (o:Obj) (its:Array Value) (n:Nat),K.lookup a=some o/\o.cls=.type "tuple" /\ o.data=.seq its n/\its.size≤sizeLine/\aT xs its.toList
def Eu:Value->Option V
 | .none=>some .non
 | .bool b=>some (.bl b)
 | .int i _=>some (.int i)
 | .str x _=>some (.str x)
 | .bytes b _=>some (.byt b)
 | .float b _=>some (.flt b)
 | .ref a=>some (.ref a)
 | .type n=>some (.ty n)
 | _=>none
theorem aU.abs {x:V} {u:Value} (r:aU x u):Eu u=some x:=by
 cases x with
 | non=>cases r;rfl
 | bl _=>cases r;rfl
 | int _=>obtain⟨t,rfl⟩:=r;rfl
 | str _=>obtain⟨t,rfl⟩:=r;rfl
 | byt _=>obtain⟨t,rfl⟩:=r;rfl
 | flt _=>obtain⟨t,rfl⟩:=r;rfl
 | ref _=>cases r;rfl
 | ty _=>cases r;rfl
theorem aU.inj {x y:V} {u:Value} (r:aU x u) (q:aU y u):x=y:=Option.some.inj (r.abs.symm.trans q.abs)
theorem aT.inj:∀ {xs ys:List V} {us:List Value},aT xs us->aT ys us->xs=ys
 | _,_,_,.nil,.nil=>rfl
 | _,_,_,.cons r t,.cons r' t'=>by rw [r.inj r',aT.inj t t']
section
variable {X:Cx} {pins:bo} {σ:St} {H:Hp} {s:Shared} {a:Addr} {xs ys:List V}
theorem aQ.of {K:Fg} (h:H a=some (.lst xs)):aQ K H a xs:=.inl (.inl h)
theorem aV.of {K:Fg} (h:H a=some (.tup xs)):aV K H a xs:=.inl (.inl h)
theorem Inv.list (I:Inv X pins σ H s) (h:aQ X.K H a xs):∃ its:List Value,aT xs its/\PlainL s.heap a its.toArray/\xs.length≤sizeLine:=by
 rcases h with h | ⟨o,its,n,hk,hc,hd,hs,hz,r⟩
 ·obtain⟨z,its,n,r,e⟩:=h.ok I.hok
  exact⟨its,r,⟨_,n,e,rfl,rfl,rfl⟩,z⟩
 ·refine⟨its.toList,r,⟨o,n,I.kIn a o hk,hc,hd,by simpa using hs⟩,?_⟩
  have e:=r.length
  simp only [Array.length_toList] at e
  omega
theorem Inv.tuple (I:Inv X pins σ H s) (h:aV X.K H a xs):∃ its:List Value,aT xs its/\IsTup s.heap a its.toArray/\xs.length≤sizeLine:=by
 rcases h with h | ⟨o,its,n,hk,hc,hs,hz,r⟩
 ·obtain⟨z,its,r,p⟩:=h.ok I.hok
  exact⟨its,r,p,z⟩
 ·refine⟨its.toList,r,⟨o,I.kIn a o hk,hc,n,by simpa using hs⟩,?_⟩
  have e:=r.length
  simp only [Array.length_toList] at e
  omega
theorem Inv.list_inj (I:Inv X pins σ H s) (h:aQ X.K H a xs) (h':aQ X.K H a ys):xs=ys:=by
 obtain⟨its,r,⟨o,n,e,_,_,d⟩,_⟩:=I.list h
 obtain⟨its',r',⟨o',n',e',_,_,d'⟩,_⟩:=I.list h'
 rw [e] at e';cases e'
 rw [d] at d'
 injection d' with d1 _
 have:its=its':=by simpa using congrArg Array.toList d1
 subst this
 exact r.inj r'
theorem Inv.tuple_inj (I:Inv X pins σ H s) (h:aV X.K H a xs) (h':aV X.K H a ys):xs=ys:=by
 obtain⟨its,r,⟨o,e,_,n,d⟩,_⟩:=I.tuple h
 obtain⟨its',r',⟨o',e',_,n',d'⟩,_⟩:=I.tuple h'
 rw [e] at e';cases e'
 rw [d] at d'
 injection d' with d1 _
 have:its=its':=by simpa using congrArg Array.toList d1
 subst this
 exact r.inj r'
end
abbrev Cx.wish (X:Cx) (E:bu):Cx:={ X with xe:=E }
abbrev Cx.nox (X:Cx):Cx:=X.wish fun _ _=>False
theorem Cx.Ok.wish {X:Cx} (ok:X.Ok) (E:bu):(X.wish E).Ok:=
 ⟨ok.mod,ok.kind,ok.glob,ok.blt,ok.above,ok.inj,ok.has,ok.cab,ok.hd,ok.frames,ok.stk,ok.exf,ok.bs,ok.bsz,ok.noex,ok.exfs,ok.funs,ok.frf⟩
theorem Cx.Ok.unwish {X:Cx} {E:bu} (ok:(X.wish E).Ok):X.Ok:=
 ⟨ok.mod,ok.kind,ok.glob,ok.blt,ok.above,ok.inj,ok.has,ok.cab,ok.hd,ok.frames,ok.stk,ok.exf,ok.bs,ok.bsz,ok.noex,ok.exfs,ok.funs,ok.frf⟩
section
variable {X:Cx} {pins:bo} {σ:St} {H:Hp} {s:Shared} {E:bu}
theorem Inv.wish (I:Inv X pins σ H s) (E:bu):Inv (X.wish E) pins σ H s:=⟨I.ok.wish E,I.os,I.bare,I.base,I.loc,I.cell,I.free,I.freeC,I.pin,I.hok,I.len⟩
theorem Inv.unwish (I:Inv (X.wish E) pins σ H s):Inv X pins σ H s:=⟨I.ok.unwish,I.os,I.bare,I.base,I.loc,I.cell,I.free,I.freeC,I.pin,I.hok,I.len⟩
theorem SP.unwish {D:fN} {f:Flow} {s':Shared} (h:SP (X.wish E) pins D f s'):SP X pins D f s':=by
 cases f with
 | next=>obtain⟨σ',H',I,q⟩:=h;exact⟨σ',H',I.unwish,q⟩
 | brk=>obtain⟨σ',H',I,q⟩:=h;exact⟨σ',H',I.unwish,q⟩
 | cont=>obtain⟨σ',H',I,q⟩:=h;exact⟨σ',H',I.unwish,q⟩
 | ret u=>obtain⟨v,σ',H',I,r,q⟩:=h;exact⟨v,σ',H',I.unwish,r,q⟩
theorem lD.nox {st:List Stmt} {t:TS} (h:lD X.nox st t):lD X st t:=fun pins s σ H D I hw=>
 wpAny_mono (h pins s σ H D (I.wish _) hw) (fun _ _ q=>q.unwish) fun _ _ z=>False.elim z
end
section
variable {X:Cx} {st:Stmt} {bT:List Stmt} {t u:TS} {e:Expr} {te:TE} {pos:Pos}
def xS:TS:=fun D σ H=>D.nx σ H
def yO (t u:TS):TS:=fun D σ H=>t { D with nx:=u D } σ H
theorem v3:lD X [] xS:=fun _ _ σ H _ I h=>wpAny_execs_nil ⟨σ,H,I,h⟩
theorem tO (h1:PS X st t) (h2:lD X bT u):lD X (st :: bT) (yO t u):=by
 intro pins s σ H D I h
 refine wpAny_execs_cons (bF (h1 pins s σ H { D with nx:=u D } I h) fun f s1 q=>?_)
 cases f with
 | next=>
  obtain⟨σ',H',I',q⟩:=q
  exact h2 pins s1 σ' H' D I' q
 | ret v=>exact q
 | brk=>exact q
 | cont=>exact q
theorem v0 (h1:PS X st t):lD X [st] t:=by
 intro pins s σ H D I h
 refine wpAny_execs_cons (bF (h1 pins s σ H D I h) fun f s1 q=>?_)
 cases f with
 | next=>exact wpAny_execs_nil q
 | ret v=>exact q
 | brk=>exact q
 | cont=>exact q
def D8:TS:=fun D σ H=>D.bk σ H
def EY:TS:=fun D σ H=>D.ct σ H
theorem Inv.quiet {pins:bo} {σ:St} {H:Hp} {s:Shared} (I:Inv X pins σ H s):interactive X.env=false:=by simp [interactive,I.ok.kind]
def xU (te:TE):TS:=fun D σ H=>te σ H fun _ H1=>D.nx σ H1
theorem v6 (he:PE X e te) (hs:swapsWith e none pos.line X.env=pure false:=by rfl):PS X (.Expr e pos) (xU te):=by
 intro pins s σ H D I h
 exact wpAny_Expr_any (bF (he pins s σ H _ I h) fun v s1 ⟨x,H1,I1,r1,q1⟩=>⟨σ,H1,I1,q1⟩) I.quiet hs
def BC (te:TE):TS:=fun D σ H=>te σ H D.rt
theorem zN (he:PE X e te):PS X (.Return (some e) pos) (BC te):=by
 intro pins s σ H D I h
 exact wpAny_Return_some (bF (he pins s σ H _ I h) fun v s1 ⟨x,H1,I1,r1,q1⟩=>⟨x,σ,H1,I1,r1,q1⟩)
def ES:TS:=fun D _ H=>D.rt .non H
def BH (c:TT) (t u:TS):TS:=fun D σ H=>c σ H fun b H1=>if b=true then t D σ H1 else u D σ H1
theorem Cn {c:Expr} {a b:List Stmt} {tc:TT} (hc:PT X c tc) (ha:lD X a t) (hb:lD X b u):PS X (.If c a b pos) (BH tc t u):=by
 intro pins s σ H D I h
 refine wpAny_If (bF (hc pins s σ H _ I h) fun d s1 ⟨H1,I1,q1⟩=>?_)
 cases d with
 | true=>exact ha pins s1 σ H1 D I1 q1
 | false=>exact hb pins s1 σ H1 D I1 q1
def rS:TS:=fun _ _ _=>False
theorem tR:PS X st rS:=fun _ _ _ _ _ _ h=>h.elim
end
abbrev TG:=V->St->Hp->(St->Hp->Prop)->Prop
abbrev rl:=List V->St->Hp->(St->Hp->Prop)->Prop
def PG (X:Cx) (target:Expr) (t:TG):Prop:=
 ∀ (pins:bo) (s:Shared) (σ:St) (H:Hp) (v:V) (u:Value) (Q:St->Hp->Prop),Inv X pins σ H s->aU v u->t v σ H Q→
  wpAny (model X.prog X.w) X.A (assign target X.env u) (fun _ s'=>∃ σ' H',Inv X pins σ' H' s'/\Q σ' H') X.xe s
def Bo (X:Cx) (ts:List Expr) (t:rl):Prop:=
 ∀ (pins:bo) (s:Shared) (σ:St) (H:Hp) (vs:List V) (us:List Value) (Q:St->Hp->Prop),Inv X pins σ H s->aT vs us->t vs σ H Q→
  wpAny (model X.prog X.w) X.A (assignInOrder ((assignEach ts X.env).map (·.2)) us) (fun _ s'=>∃ σ' H',Inv X pins σ' H' s'/\Q σ' H') X.xe s
abbrev vh:=V->V->V->Hp->(Hp->Prop)->Prop
def Ba (X:Cx) (t:vh):Prop:=
 ∀ (pins:bo) (s:Shared) (σ:St) (H:Hp) (o i v:V) (ov iv u:Value) (Q:Hp->Prop),Inv X pins σ H s->aU o ov->aU i iv->aU v u->t o i v H Q→
  wpAny (model X.prog X.w) X.A (setItem ov iv u) (fun _ s'=>∃ H',Inv X pins σ H' s'/\Q H') X.xe s
abbrev DI:=V->V->Hp->VK->Prop
def GP (X:Cx) (op:Operator) (t:DI):Prop:=
 ∀ (pins:bo) (s:Shared) (σ:St) (H:Hp) (x y:V) (v u:Value) (Q:VK),Inv X pins σ H s->aU x v->aU y u->t x y H Q→
  wpAny (model X.prog X.w) X.A (inplaceOp op v u) (EP X pins σ Q) X.xe s
section
variable {X:Cx} {pos:Pos}
def i4 (i:Nat):TG:=fun v σ H Q=>Q (σ.set i (some v)) H
theorem wx {i:Nat} {x:Str} (hN:X.N.Nodup) (hi:X.N[i]?=some x) (hx:xM X.env.scope x) (hf:X.fn x=true∨X.env.scope.names.lookup x=some .local:=by first | exact .inl rfl | exact .inr rfl | assumption):PG X (.Name x pos) (i4 i):=by
 intro pins s σ H v u Q I r h
 exact wpAny_assign_Name (dQ I hN hi hx r (fun s' I'=>⟨_,H,I',h⟩) hf)
def CY:rl:=fun vs σ H Q=>vs=[]/\Q σ H
def yu (t:TG) (u:rl):rl:=fun vs σ H Q=>∃ v r,vs=v :: r/\t v σ H fun σ' H'=>u r σ' H' Q
theorem wo:Bo X [] CY:=by
 intro pins s σ H vs us Q I r h
 obtain⟨e,h⟩:=h
 subst e
 cases r
 exact assignInOrder_nil ⟨σ,H,I,h⟩
theorem ub {e:Expr} {es:List Expr} {t:TG} {u:rl} (h1:PG X e t) (h2:Bo X es u)
  (hs:(assignEach (e :: es) X.env).map (·.2)=assign e X.env :: (assignEach es X.env).map (·.2):=by rfl):Bo X (e :: es) (yu t u):=by
 intro pins s σ H vs us Q I r h
 obtain⟨v,vr,e1,h⟩:=h
 subst e1
 cases r with
 | cons r rr=>
  rw [hs]
  refine assignInOrder_cons (bF (h1 pins s σ H _ _ _ I r h) fun _ s1 ⟨σ1,H1,I1,q1⟩=>?_)
  exact h2 pins s1 σ1 H1 _ _ Q I1 rr q1
def xg (K:Fg) (n:Nat) (t:rl):TG:=fun v σ H Q=>∃ a xs,v=.ref a/\aV K H a xs/\xs.length=n/\t xs σ H Q
theorem uc {es:List Expr} {k:Nat} {t:rl} {n:Nat} (hc:X.calm=true) (h:Bo X es t)
  (hn:(assignEach es X.env).length=n:=by rfl) (hst:(assignEach es X.env).findIdx? (·.1)=none:=by rfl):PG X (.Tuple es k pos) (xg X.K n t):=by
 intro pins s σ H v u Q I r hw
 obtain⟨a,xs,e1,hq,hl,hw⟩:=hw
 subst e1
 cases r
 obtain⟨its,rv,ht,hz⟩:=I.tuple hq
 refine assign_Tuple_tuple (I.ok.hd hc) ht (by simp [hn,← hl,rv.length]) hst fun h' hx=>?_
 have I1:Inv X pins σ H { s with heap:=h' }:=I.kept (t':=s.toks) fun b o e=>hx b o (Nat.ne_of_lt (Heap.lt_size e)) e
 exact h pins _ σ H xs _ Q I1 (by simpa using rv) hw
def CW (to ti:TE) (t:vh):TG:=fun v σ H Q=>to σ H fun o H1=>ti σ H1 fun i H2=>t o i v H2 fun H3=>Q σ H3
theorem zW {o i:Expr} {to ti:TE} {t:vh} (ho:PE X o to) (hi:PE X i ti) (hs:Ba X t)
  (ha:∀ v,assign (.Subscript o i pos) X.env v=(do
   let ov ← holding [v] (eval o X.env)
   let iv ← holding [v,ov] (eval i X.env)
   standAt pos
   holding [v,ov,iv] (setItem ov iv v)
   release [v,ov,iv] []):=by intro _;rfl):PG X (.Subscript o i pos) (CW to ti t):=by
 intro pins s σ H v u Q I r h
 rw [ha]
 refine wpAny_bind (wpAny_holding (bF (ho pins s σ H _ I h) fun ov s1 ⟨x,H1,I1,r1,q1⟩=>?_))
 refine wpAny_bind (wpAny_holding (bF (hi pins s1 σ H1 _ I1 q1) fun iv s2 ⟨y,H2,I2,r2,q2⟩=>?_))
 refine wpAny_bind (wpAny_standAt (wpAny_bind (wpAny_holding (bF (hs pins s2 σ H2 x y v ov iv u _ I2 r1 r2 r q2) fun _ s3 ⟨H3,I3,q3⟩=>?_))))
 exact wpAny_release ⟨σ,H3,I3,q3⟩
def nw (te:TE) (g:TG):TS:=fun D σ H=>te σ H fun x H1=>g x σ H1 D.nx
theorem zQ {tg e:Expr} {te:TE} {g:TG} (he:PE X e te) (hg:PG X tg g) (hs:swapsWithSole [tg] e pos.line X.env=pure false:=by rfl) (hw:swappedStores [tg] e X.env=pure none:=by rfl)
  (h1:(assignEach [tg] X.env).map (·.2)=[assign tg X.env]:=by rfl):PS X (.Assign [tg] e pos) (nw te g):=by
 intro pins s σ H D I h
 refine wpAny_Assign_stores (bF (he pins s σ H _ I h) fun v s1 ⟨x,H1,I1,r1,q1⟩=>?_) hs hw
 rw [h1]
 exact bF (hg pins s1 σ H1 x v _ I1 r1 q1) fun _ s2 q=>q
theorem zM {i:Nat} {x:Str} {e:Expr} {te:TE} {pos':Pos} (hN:X.N.Nodup) (hi:X.N[i]?=some x) (hx:xM X.env.scope x) (he:PE X e te) (hs:swapsWith e (some (.Name x pos')) pos.line X.env=pure false:=by rfl) (hf:X.fn x=true∨X.env.scope.names.lookup x=some .local:=by first | exact .inl rfl | exact .inr rfl | assumption) :
  PS X (.Assign [.Name x pos'] e pos) (nw te (i4 i)):=by
 intro pins s σ H D I h
 refine wpAny_Assign_Name (bF (he pins s σ H _ I h) fun v s1 ⟨y,H1,I1,r1,q1⟩=>?_) hs
 exact dQ I1 hN hi hx r1 (fun s2 I2=>⟨_,H1,I2,q1⟩) hf
def BD (i j:Nat) (ta:TA):TS:=fun D σ H=>ta σ H fun vs H1=>∃ v w,vs=[v,w]/\D.nx ((σ.set i (some v)).set j (some w)) H1
theorem zO {i j:Nat} {x y:Str} {a b:Expr} {ta:TA} {px py pt:Pos} {kt k2 pt2} (hc:X.calm=true) (hN:X.N.Nodup) (hi:X.N[i]?=some x) (hj:X.N[j]?=some y) (hij:i≠j)
  (hx:X.env.scope.names.lookup x=some .local) (hy:X.env.scope.names.lookup y=some .local) (ha:PA X [a,b] ta)
  (hw:swappedStores [.Tuple [.Name x px,.Name y py] kt pt] (.Tuple [a,b] k2 pt2) X.env=pure (some [x,y]))
  (hs:swapsWithSole [.Tuple [.Name x px,.Name y py] kt pt] (.Tuple [a,b] k2 pt2) pos.line X.env=pure false:=by rfl) :
  PS X (.Assign [.Tuple [.Name x px,.Name y py] kt pt] (.Tuple [a,b] k2 pt2) pos) (BD i j ta):=by
 intro pins s σ H D I h
 rw [exec_Assign_arm]
 refine wpAny_bind (wpAny_standAt ?_)
 rw [hs]
 refine wpAny_bind (wpAny_pure ?_)
 rw [if_neg (by decide)]
 refine wpAny_bind (Tuple_ (bF (ha _ pins s σ H _ I h) fun us s1 ⟨vs,H1,I1,r1,q1⟩=>?_))
 obtain⟨v,w,e1,q1⟩:=q1
 subst e1
 obtain⟨u1,u2,rfl,rv,rw'⟩:∃ u1 u2,us=[u1,u2]/\aU v u1/\aU w u2:=by
  cases r1 with
  | cons p q=>
   cases q with
   | cons p' q'=>
    cases q'
    exact⟨_,_,rfl,p,p'⟩
 refine wpAny_newObj_type ?_ dJ
 have I2:Inv X pins σ H1 { s1 with heap:=s1.heap.push { cls:=.type "tuple", data:=.seq [u1,u2].toArray } }:=I1.kept (t':=s1.toks) fun b o e=>Heap.get?_push_of_some _ e
 rw [hw]
 refine wpAny_bind (wpAny_pure ?_)
 show wpAny (model X.prog X.w) X.A (do rule "assign.swapped-stores";let items ← unpackItems (.ref s1.heap.objs.size) 2 none;assignInOrder [fun v=>bindName X.env y v,fun v=>bindName X.env x v] items.reverse;pure Flow.next) _ _ _
 refine wpAny_bind (wpAny_rule (wpAny_bind (unpackItems_tuple (items:=#[u1,u2]) (I.ok.hd hc) (IsTup.new s1.heap _) fun h' hx'=>?_)))
 have I3:=I2.kept (h':=h') (t':=s1.toks) fun b o e=>hx' b o (Nat.ne_of_lt (Heap.lt_size e)) e
 show wpAny _ _ (assignInOrder [fun v=>bindName X.env y v,fun v=>bindName X.env x v] [u2,u1] >>= fun _=>pure Flow.next) _ _ _
 refine wpAny_bind (assignInOrder_cons (wpAny_bindName (dQ I3 hN hj (.inl hy) rw' (fun s2 I4=>?_) (.inr hy))))
 refine assignInOrder_cons (wpAny_bindName (dQ I4 hN hi (.inl hx) rv (fun s3 I5=>assignInOrder_nil (wpAny_pure ?_)) (.inr hx)))
 rw [List.set_comm _ _ (Ne.symm hij)] at I5
 exact⟨_,H1,I5,q1⟩
def FO (i:Nat) (te:TE) (ti:DI):TS:=fun D σ H=>∃ x,σ[i]?=some (some x)/\te σ H fun y H1=>ti x y H1 fun z H2=>D.nx (σ.set i (some z)) H2
def EZ (to ti te:TE) (tget:V->V->Hp->VK->Prop) (tip:DI) (tset:vh):TS:=fun D σ H=>to σ H fun o H1=>ti σ H1 fun i H2=>tget o i H2 fun x H3=>te σ H3 fun y H4=>tip x y H4 fun z H5=>tset o i z H5 fun H6=>D.nx σ H6
def Gf (X:Cx) (t:V->V->Hp->VK->Prop):Prop:=
 ∀ (pins:bo) (s:Shared) (σ:St) (H:Hp) (o i:V) (ov iv:Value) (Q:VK),Inv X pins σ H s->aU o ov->aU i iv->t o i H Q→
  wpAny (model X.prog X.w) X.A (getItem ov iv) (EP X pins σ Q) X.xe s
def GH (f:Int->Int->Int):DI:=fun x y H Q=>∃ i j,x=.int i/\y=.int j/\Q (.int (f i j)) H
end
section
variable {X:Cx} {pos:Pos}
def rQ (c:TT) (tb:TS):TS:=fun D σ H=>∃ W:Nat->St->Hp->Prop,(∃ m,W m σ H)/\∀ m σ H,W m σ H→
 c σ H fun b H1=>if b=true then ∃ N:St->Hp->Prop,(∀ σ' H',N σ' H'->∃ m',m' < m/\W m' σ' H')/\tb { D with nx:=N,ct:=N,bk:=D.nx } σ H1 else D.nx σ H1
theorem tP {c:Expr} {body:List Stmt} {tc:TT} {tb:TS} (hp:PassesOwn (model X.prog X.w) X.A X.env X.xe) (hc:PT X c tc) (hb:lD X body tb):PS X (.While c body [] pos) (rQ tc tb):=by
 intro pins s σ H D I h
 obtain⟨W,⟨m0,w0⟩,turn⟩:=h
 refine wpAny_While (codeAny_whileLoop (fun n s'=>∃ σ' H',Inv X pins σ' H' s'/\W n σ' H') ?_ m0 ⟨σ,H,I,w0⟩)
 rintro n s1 ⟨σ1,H1,I1,w1⟩
 refine wpAny_passesOwn hp (bF (hc pins s1 σ1 H1 _ I1 (turn n σ1 H1 w1)) fun b s2 ⟨H2,I2,q2⟩=>?_)
 cases b with
 | true=>
  obtain⟨N,hN,q2⟩:=q2
  rw [if_pos rfl]
  refine wpAny_passesOwn hp (bF (hb pins s2 σ1 H2 _ I2 q2) fun f s3 q3=>?_)
  cases f with
  | next=>
   obtain⟨σ3,H3,I3,n3⟩:=q3
   obtain⟨m',hm,w3⟩:=hN σ3 H3 n3
   exact⟨m',hm,σ3,H3,I3,w3⟩
  | cont=>
   obtain⟨σ3,H3,I3,n3⟩:=q3
   obtain⟨m',hm,w3⟩:=hN σ3 H3 n3
   exact⟨m',hm,σ3,H3,I3,w3⟩
  | brk=>exact q3
  | ret v=>exact q3
 | false=>
  rw [if_neg Bool.false_ne_true]
  exact wpAny_execs_nil ⟨σ1,H2,I2,q2⟩
end
structure It where
 go:Nat->Hp->Prop
 yld:Nat->Hp->V->Hp->Prop
 stop:Nat->Hp->Prop
def gg (X:Cx) (pins:bo) (H:Hp) (b:Addr):Prop:=
 H b=none/\b≠X.env.locals/\b∉X.fs/\(b∈X.ex∨X.s₀.heap.get? b=none)/\(∀ x c,X.env.cells.lookup x=some c->c≠b)/\∀ p∈X.pn++pins,p.1≠b
theorem Inv.fpOk {X:Cx} {pins:bo} {σ:St} {H H':Hp} {s:Shared} {b:Addr} (I:Inv X pins σ H s) (hb:s.heap.objs.size≤b) (hn:H' b=none):gg X pins H' b:=by
 refine⟨hn,Nat.ne_of_gt (Nat.lt_of_lt_of_le I.lt hb),I.nofs hb,.inr (Heap.get?_none_of_le (Nat.le_trans I.sz hb)),fun x c e z=>?_,fun p hp z=>?_⟩
 ·obtain⟨v,q⟩:=I.cell x c e
  exact absurd (Nat.lt_of_lt_of_le q.lt (by rw [z];exact hb)) (Nat.lt_irrefl _)
 ·exact absurd (Nat.lt_of_lt_of_le (Heap.lt_size (I.pin p hp).1) (by rw [z];exact hb)) (Nat.lt_irrefl _)
structure m5 (P:Program) (w:World) (K:Fg) (tg:Expr) (J:It) (fp:List Addr) (it:Addr) (tn:Nat->Heap->Prop):Prop where
 mem:it∈fp
 obj:∀ i h,tn i h->∀ b∈fp,∃ o,h.get? b=some o/\∀ v,o.data≠.cell v
 keep:∀ i h h',tn i h->(∀ b∈fp,∀ o,h.get? b=some o->h'.get? b=some o)->tn i h'
 item:∀ (X:Cx),X.prog=P->X.w=w->X.K=K->X.calm=true->∀ (i:Nat) (pins:bo) (s:Shared) (σ:St) (H:Hp) (E:bu),Inv X pins σ H s->(∀ b∈fp,gg X pins H b)->tn i s.heap->J.go i H→
  wpAny (model P w) X.A (pyNext (.ref it)) (fun r s1=>∃ u,r=some u∧
   wpAny (model P w) X.A (letOwnedTupleGo tg (.ref it) u) (fun _ s2=>∃ x H',Inv X pins σ H' s2/\aU x u/\J.yld i H x H'/\tn (i+1) s2.heap/\∀ b∈fp,H' b=none) E s1) E s
 done:∀ (X:Cx),X.prog=P->X.w=w->X.K=K->X.calm=true->∀ (i:Nat) (pins:bo) (s:Shared) (σ:St) (H:Hp) (E:bu),Inv X pins σ H s->(∀ b∈fp,gg X pins H b)->tn i s.heap->J.stop i H→
  wpAny (model P w) X.A (pyNext (.ref it)) (fun r s1=>r=none/\Inv X pins σ H s1) E s
 self:∀ (A:Around) (i:Nat) (s:Shared) (Q:bu) (E:bu),tn i s.heap->Q (.ref it) s->wpAny (model P w) A (pyIter (.ref it)) Q E s
abbrev TI:=St->Hp->(It->Hp->Prop)->Prop
def Fs (X:Cx) (pins:bo) (σ:St) (tg:Expr) (R:It->Hp->Prop) (itv:Value) (s2:Shared):Prop:=
 ∃ (it:Addr) (fp:List Addr) (tn:Nat->Heap->Prop) (J:It) (H':Hp),itv=.ref it/\Inv X pins σ H' s2/\m5 X.prog X.w X.K tg J fp it tn/\tn 0 s2.heap/\(∀ b∈fp,gg X pins H' b)/\R J H'
def PI (X:Cx) (tg iter:Expr) (wi:TI):Prop:=
 ∀ (pins:bo) (s:Shared) (σ:St) (H:Hp) (R:It->Hp->Prop),Inv X pins σ H s->wi σ H R→
  wpAny (model X.prog X.w) X.A (eval iter X.env) (fun v s1=>wpAny (model X.prog X.w) X.A (pyIter v) (Fs X pins σ tg R) X.xe s1) X.xe s
theorem uL {M:Model} {A:Around} {E:bu} {s:Shared} {tg:Expr} {it:Addr} {u:Value} {o:Obj} {n:String} {vs:Array Value} {Q:Unit->Shared->Prop} (ho:s.heap.get? it=some o) (hc:o.cls=.type n) (hd:o.data=.fields vs)
  (hn:["enumerate", "zip", "dict_itemiterator", "dict_reverseitemiterator", "odict_iterator", "itertools.zip_longest", "itertools.pairwise"].contains n=false) (hQ:Q () s):wpAny M A (letOwnedTupleGo tg (.ref it) u) Q E s:=by
 unfold letOwnedTupleGo
 cases tg <;> first
  | exact wpAny_pure hQ
  | (cases u <;> first
    | exact wpAny_pure hQ
    | (refine wpAny_bind (wpAny_load ho ?_)
       rw [hc,hd]
       show wpAny M A (if (["enumerate", "zip", "dict_itemiterator", "dict_reverseitemiterator", "odict_iterator", "itertools.zip_longest", "itertools.pairwise"].contains n && vs[0]? == some (rawInt _))=true then _ else _) Q E s
       rw [if_neg (by intro h;rw [hn,Bool.false_and] at h;cases h)]
       exact wpAny_pure hQ))
def pP (K:Fg) (a:Addr):It:=
 ⟨fun i H=>∃ xs x,aQ K H a xs/\xs[i]?=some x,fun i H x H'=>H'=H/\∀ xs,aQ K H a xs->xs[i]?=some x,fun i H=>∃ xs,aQ K H a xs/\xs.length≤i⟩
def vq (K:Fg) (a:Addr):It:=
 ⟨fun i H=>∃ xs x,aV K H a xs/\xs[i]?=some x,fun i H x H'=>H'=H/\∀ xs,aV K H a xs->xs[i]?=some x,fun i H=>∃ xs,aV K H a xs/\xs.length≤i⟩
def rp (lo:Int) (n:Nat):It:=⟨fun i _=>i < n,fun i H x H'=>H'=H/\x=.int (lo+i),fun i _=>n≤i⟩
theorem jE {P:Program} {w:World} {K:Fg} {tg:Expr} (a it:Addr):m5 P w K tg (pP K a) [it] it (fun i h=>h.IsListIter it a i) where
 mem:=by simp
 obj:=fun i h st b hb=>by
  have e:b=it:=by simpa using hb
  subst e
  obtain⟨o,e,c,d⟩:=st
  exact⟨o,e,fun v z=>by rw [d] at z;cases z⟩
 keep:=fun i h h' st k=>st.at fun o e=>k it (by simp) o e
 item:=by
  intro X hP hw hK hc i pins s σ H E I hf st hg
  subst hP hw hK
  obtain⟨xs,x,hq,hx⟩:=hg
  obtain⟨its,rv,p,hz⟩:=I.list hq
  obtain⟨u,hu,ru⟩:=rv.get hx
  obtain⟨f0,f1,f2,f3,f4,f5⟩:=hf it (by simp)
  refine wpAny_pyNext_list_item st p.isList (x:=u) (by simpa using hu) fun h' st' sb=>?_
  have I1:Inv X pins σ H { s with heap:=h' }:=I.turned (t':=s.toks) (fun b o hb e=>(sb.2 b hb).trans e) f0 f1 f3 f4 f5
  obtain⟨o,e,c,d⟩:=id st'
  exact⟨u,rfl,uL (s:={ s with heap:=h' }) e c d (by decide) ⟨x,H,I1,ru,⟨rfl,fun ys hy=>by rw [I.list_inj hy hq];exact hx⟩,st',fun b hb=>(hf b hb).1⟩⟩
 done:=by
  intro X hP hw hK hc i pins s σ H E I hf st hg
  subst hP hw hK
  obtain⟨xs,hq,hx⟩:=hg
  obtain⟨its,rv,p,hz⟩:=I.list hq
  obtain⟨f0,f1,f2,f3,f4,f5⟩:=hf it (by simp)
  have hl:=rv.length
  exact wpAny_pyNext_list_end (I.ok.hd hc) st p.isList (by simp;omega) fun h' eb=>⟨rfl,I.turned (t':=s.toks) (fun b o hb e=>eb b o hb e) f0 f1 f3 f4 f5⟩
 self:=fun _ _ _ _ _ st h=>wpAny_pyIter_listiter st h
theorem iC {P:Program} {w:World} {K:Fg} {tg:Expr} (a it:Addr):m5 P w K tg (vq K a) [it] it (fun i h=>h.IsTupleIter it a i) where
 mem:=by simp
 obj:=fun i h st b hb=>by
  have e:b=it:=by simpa using hb
  subst e
  obtain⟨o,e,c,d⟩:=st
  exact⟨o,e,fun v z=>by rw [d] at z;cases z⟩
 keep:=fun i h h' st k=>st.at fun o e=>k it (by simp) o e
 item:=by
  intro X hP hw hK hc i pins s σ H E I hf st hg
  subst hP hw hK
  obtain⟨xs,x,hq,hx⟩:=hg
  obtain⟨its,rv,p,hz⟩:=I.tuple hq
  obtain⟨u,hu,ru⟩:=rv.get hx
  obtain⟨f0,f1,f2,f3,f4,f5⟩:=hf it (by simp)
  refine wpAny_pyNext_tuple_item st (show s.heap.IsTuple a its.toArray from p) (x:=u) (by simpa using hu) fun h' st' sb=>?_
  have I1:Inv X pins σ H { s with heap:=h' }:=I.turned (t':=s.toks) (fun b o hb e=>(sb.2 b hb).trans e) f0 f1 f3 f4 f5
  obtain⟨o,e,c,d⟩:=id st'
  exact⟨u,rfl,uL (s:={ s with heap:=h' }) e c d (by decide) ⟨x,H,I1,ru,⟨rfl,fun ys hy=>by rw [I.tuple_inj hy hq];exact hx⟩,st',fun b hb=>(hf b hb).1⟩⟩
 done:=by
  intro X hP hw hK hc i pins s σ H E I hf st hg
  subst hP hw hK
  obtain⟨xs,hq,hx⟩:=hg
  obtain⟨its,rv,p,hz⟩:=I.tuple hq
  obtain⟨f0,f1,f2,f3,f4,f5⟩:=hf it (by simp)
  have hl:=rv.length
  exact wpAny_pyNext_tuple_end (I.ok.hd hc) st (show s.heap.IsTuple a its.toArray from p) (by simp;omega) fun h' eb=>⟨rfl,I.turned (t':=s.toks) (fun b o hb e=>eb b o hb e) f0 f1 f3 f4 f5⟩
 self:=fun _ _ _ _ _ st h=>wpAny_pyIter_tupleiter st h
theorem nq {P:Program} {w:World} {K:Fg} {tg:Expr} (it:Addr) (lo:Int) (n:Nat):m5 P w K tg (rp lo n) [it] it (fun i h=>IsRangeIter h it (lo+(i:Nat) * 1) ((n:Int) - (i:Nat)) 1) where
 mem:=by simp
 obj:=fun i h st b hb=>by
  have e:b=it:=by simpa using hb
  subst e
  exact⟨_,st,fun v z=>by
   have z':Data.fields _=Data.cell v:=z
   cases z'⟩
 keep:=fun i h h' st k=>k it (by simp) _ st
 item:=by
  intro X hP hw hK hc i pins s σ H E I hf st hg
  subst hP hw hK
  obtain⟨f0,f1,f2,f3,f4,f5⟩:=hf it (by simp)
  have W:=Walks.range (prog:=X.prog) (w:=X.w) (I.ok.hd hc) it lo 1 n
  refine W.item i s _ _ hg st fun v h' tk hv st' kk=>?_
  obtain⟨t,rfl⟩:=hv
  have I1:Inv X pins σ H { s with heap:=h',toks:=tk }:=I.turned (fun b o hb e=>kk b o (by simpa using hb) e) f0 f1 f3 f4 f5
  refine⟨_,rfl,uL (s:={ s with heap:=h',toks:=tk }) (n := "range_iterator") st' rfl rfl (by decide) ⟨.int (lo+i),H,I1,⟨t,?_⟩,⟨rfl,rfl⟩,st',fun b hb=>(hf b hb).1⟩⟩
  rw [Int.mul_one]
 done:=by
  intro X hP hw hK hc i pins s σ H E I hf st hg
  subst hP hw hK
  obtain⟨f0,f1,f2,f3,f4,f5⟩:=hf it (by simp)
  exact wpAny_pyNext_range_end (I.ok.hd hc) st (by have:n≤i:=hg;omega) fun h' eb=>⟨rfl,I.turned (t':=s.toks) (fun b o hb e=>eb b o hb e) f0 f1 f3 f4 f5⟩
 self:=fun _ _ _ _ _ st h=>wpAny_pyIter_rangeiter st h
end L2
namespace L2
open PySem PySem.Spec PyProof.Rows
section
variable {X:Cx} {tg:Expr}
def yr (K:Fg) (tl:TE):TI:=fun σ H R=>tl σ H fun x H1=>∃ a,x=.ref a/\(∃ xs,aQ K H1 a xs)/\R (pP K a) H1
def wZ (K:Fg) (tl:TE):TI:=fun σ H R=>tl σ H fun x H1=>∃ a,x=.ref a/\(∃ xs,aV K H1 a xs)/\R (vq K a) H1
theorem wj {l:Expr} {tl:TE} (hl:PE X l tl):PI X tg l (yr X.K tl):=by
 intro pins s σ H R I h
 refine bF (hl pins s σ H _ I h) fun v s1 ⟨x,H1,I1,r1,q1⟩=>?_
 obtain⟨a,e,⟨xs,hq⟩,q⟩:=q1
 subst e
 cases r1
 obtain⟨its,rv,p,hz⟩:=I1.list hq
 refine wpAny_pyIter_list p.isList ?_
 refine⟨s1.heap.objs.size,[s1.heap.objs.size],_,_,H1,rfl,I1.kept (t':=s1.toks) fun b o e=>Heap.get?_push_of_some _ e,jE a _,⟨_,Heap.get?_push_size _ rfl,rfl,rfl⟩,fun b hb=>?_,q⟩
 have e:b=s1.heap.objs.size:=by simpa using hb
 subst e
 exact I1.fpOk (Nat.le_refl _) (I1.hok.fresh (Nat.le_refl _))
theorem t0 {l:Expr} {tl:TE} (hl:PE X l tl):PI X tg l (wZ X.K tl):=by
 intro pins s σ H R I h
 refine bF (hl pins s σ H _ I h) fun v s1 ⟨x,H1,I1,r1,q1⟩=>?_
 obtain⟨a,e,⟨xs,hq⟩,q⟩:=q1
 subst e
 cases r1
 obtain⟨its,rv,p,hz⟩:=I1.tuple hq
 refine wpAny_pyIter_tuple (show s1.heap.IsTuple a its.toArray from p) ?_
 refine⟨s1.heap.objs.size,[s1.heap.objs.size],_,_,H1,rfl,I1.kept (t':=s1.toks) fun b o e=>Heap.get?_push_of_some _ e,iC a _,⟨_,Heap.get?_push_size _ rfl,rfl,rfl⟩,fun b hb=>?_,q⟩
 have e:b=s1.heap.objs.size:=by simpa using hb
 subst e
 exact I1.fpOk (Nat.le_refl _) (I1.hok.fresh (Nat.le_refl _))
theorem lZ {pins:bo} {σ:St} {H:Hp} {s:Shared} {R:It->Hp->Prop} {E:bu} {lo hi:Int} {t u v:Tok} {tk:Nat} (I:Inv X pins σ H s) (h1:-(2 ^ 62)≤lo) (h2:lo < 2 ^ 62) (h3:-(2 ^ 62)≤hi) (h4:hi < 2 ^ 62)
  (q:R (rp lo (hi - lo).toNat) H):wpAny (model X.prog X.w) X.A (pyIter (.ref s.heap.objs.size)) (Fs X pins σ tg R) E { s with heap:=s.heap.push { cls:=.type "range", data:=.fields #[.int lo t,.int hi u,.int 1 v] },toks:=tk }:=by
 refine wpAny_pyIter_range (IsRange.new ..) (small_one h1 h2 h3 h4) ?_
 have I1:Inv X pins σ H { s with heap:=s.heap.push { cls:=.type "range", data:=.fields #[.int lo t,.int hi u,.int 1 v] },toks:=tk }:=I.kept fun b o e=>Heap.get?_push_of_some _ e
 refine⟨(s.heap.push { cls:=.type "range", data:=.fields #[.int lo t,.int hi u,.int 1 v] }).objs.size,[(s.heap.push { cls:=.type "range", data:=.fields #[.int lo t,.int hi u,.int 1 v] }).objs.size],_,_,H,rfl,
  I1.kept (t':=tk) fun b o e=>Heap.get?_push_of_some _ e,nq _ lo (hi - lo).toNat,?_,fun b hb=>?_,q⟩
 ·have e1:lo+((0:Nat):Int) * 1=lo:=by simp
  have e2:(((hi - lo).toNat:Nat):Int) - ((0:Nat):Int)=Builtin.Range.rangeSize lo hi 1:=by rw [rangeSize_one];split <;> omega
  show IsRangeIter _ _ (lo+((0:Nat):Int) * 1) ((((hi - lo).toNat:Nat):Int) - ((0:Nat):Int)) 1
  rw [e1,e2]
  exact Heap.get?_push_size _ rfl
 ·have e:b=(s.heap.push { cls:=.type "range", data:=.fields #[.int lo t,.int hi u,.int 1 v] }).objs.size:=by simpa using hb
  subst e
  exact I1.fpOk (Nat.le_refl _) (I1.hok.fresh (Nat.le_refl _))
def yq (ta:TA):TI:=fun σ H R=>ta σ H fun vs H1=>∃ j:Int,vs=[.int j]/\-(2 ^ 62)≤j/\j < 2 ^ 62/\R (rp 0 j.toNat) H1
def yo (ta:TA):TI:=fun σ H R=>ta σ H fun vs H1=>∃ i j:Int,vs=[.int i,.int j]/\(-(2 ^ 62)≤i/\i < 2 ^ 62/\-(2 ^ 62)≤j/\j < 2 ^ 62)/\R (rp i (j - i).toNat) H1
theorem ql {a:Expr} {ta:TA} {p pos:Pos} (hg:Gl X "range") (hm:X.mg "range" = none) (ha:PA X [a] ta) (hs:starEach [a] X.env=[(false,eval a X.env)]:=by rfl):PI X tg (.Call (.Name "range" p) [a] [] pos) (yq ta):=by
 intro pins s σ H R I h
 refine Call_ (eU I hg hm boot_range (PyProof.Rows.callWith_type1 (bF (ha pos pins s σ H _ I h) fun us s1 ⟨vs,H1,I1,r1,q1⟩=>?_) hs rfl))
 obtain⟨j,e,q1,q2,q⟩:=q1
 subst e
 cases r1 with
 | cons r rr=>
  cases rr
  obtain⟨t,rfl⟩:=r
  exact call_range_1 (lZ I1 (by omega) (by omega) q1 q2 (by simpa using q))
theorem qk {a b:Expr} {ta:TA} {p pos:Pos} (hg:Gl X "range") (hm:X.mg "range" = none) (ha:PA X [a,b] ta) (hs:starEach [a,b] X.env=[(false,eval a X.env),(false,eval b X.env)]:=by rfl) (hs2:starEach [b] X.env=[(false,eval b X.env)]:=by rfl) :
  PI X tg (.Call (.Name "range" p) [a,b] [] pos) (yo ta):=by
 intro pins s σ H R I h
 refine Call_ (eU I hg hm boot_range (PyProof.Rows.callWith_type1 (bF (ha pos pins s σ H _ I h) fun us s1 ⟨vs,H1,I1,r1,q1⟩=>?_) (by rw [hs,hs2]) (by rw [hs2];rfl)))
 obtain⟨i,j,e,⟨q1,q2,q3,q4⟩,q⟩:=q1
 subst e
 cases r1 with
 | cons r rr=>
  cases rr with
  | cons r' rr=>
   cases rr
   obtain⟨t,rfl⟩:=r
   obtain⟨t',rfl⟩:=r'
   exact call_range_2 (lZ I1 q1 q2 q3 q4 q)
def BI (wi:TI) (g:TG) (tb:TS):TS:=fun D σ H=>wi σ H fun J H1=>∃ W:Nat->Nat->St->Hp->Prop,(∃ m,W 0 m σ H1)/\∀ i m σ H,W i m σ H→
 (J.stop i H/\D.nx σ H)∨(J.go i H/\∃ N:St->Hp->Prop,(∀ σ' H',N σ' H'->∃ m',m' < m/\W (i+1) m' σ' H')/\∀ x H',J.yld i H x H'->g x σ H' fun σ2 H2=>tb { D with nx:=N,ct:=N,bk:=D.nx } σ2 H2)
def iO (fp:List Addr) (h:Heap):bo:=fp.filterMap fun b=>(h.get? b).map fun o=>(b,o)
theorem ej {fp:List Addr} {h:Heap} {b:Addr} {o:Obj} (hb:b∈fp) (e:h.get? b=some o):(b,o)∈iO fp h:=List.mem_filterMap.mpr ⟨b,hb,by rw [e];rfl⟩
theorem qq {fp:List Addr} {h:Heap} {p:Addr×Obj} (hp:p∈iO fp h):p.1∈fp/\h.get? p.1=some p.2:=by
 obtain⟨b,hb,e⟩:=List.mem_filterMap.mp hp
 cases q:h.get? b with
 | none=>rw [q] at e;cases e
 | some o=>
  rw [q] at e
  have e':(b,o)=p:=Option.some.inj e
  subst e'
  exact⟨hb,q⟩
theorem Inv.pinned {pins:bo} {σ:St} {H:Hp} {s:Shared} {fp:List Addr} (I:Inv X pins σ H s) (hf:∀ b∈fp,gg X pins H b) (ho:∀ b∈fp,∃ o,s.heap.get? b=some o/\∀ v,o.data≠.cell v):Inv X (pins++iO fp s.heap) σ H s:=
 I.pins_of fun p hp=>(List.mem_append.mp hp).elim (fun z=>I.pin p (List.mem_append_right _ z)) fun z=>by
  obtain⟨hb,e⟩:=qq z
  obtain⟨f0,f1,f2,_⟩:=hf p.1 hb
  obtain⟨o,e',d⟩:=ho p.1 hb
  rw [e] at e';cases e'
  exact⟨e,f0,f1,f2,d⟩
theorem Inv.unpinned {pins pl:bo} {σ:St} {H:Hp} {s:Shared} (I:Inv X (pins++pl) σ H s):Inv X pins σ H s:=I.pins_of fun p hp=>I.pin p (List.mem_append_right _ (List.mem_append_left _ hp))
theorem zP {iter:Expr} {body:List Stmt} {wi:TI} {g:TG} {tb:TS} {pos:Pos} (hp:PassesOwn (model X.prog X.w) X.A X.env X.xe) (hc:X.calm=true) (hi:PI X tg iter wi) (hg:PG X tg g) (hb:lD X body tb)
  (hs:∀ x,foldedSetIterable iter X.env x=pure x:=by intro _;rfl):PS X (.For tg iter body [] pos) (BI wi g tb):=by
 intro pins s σ H D I h
 refine wpAny_For (bF (hi pins s σ H _ I h) fun v s1 h1=>bF h1 fun itv s2 h2=>?_) hs
 obtain⟨it,fp,tn,J,H2,e,I2,T,st2,f2,W,⟨m0,w0⟩,turn⟩:=h2
 subst e
 have stat:∀ {H':Hp},(∀ b∈fp,H' b=none)->∀ b∈fp,gg X pins H' b:=fun hn b hb=>⟨hn b hb,(f2 b hb).2⟩
 refine codeAny_forLoop_any (fun n s'=>∃ i σ' H',Inv X pins σ' H' s'/\tn i s'.heap/\(∀ b∈fp,H' b=none)/\W i n σ' H') ?_ m0 ⟨0,σ,H2,I2,st2,fun b hb=>(f2 b hb).1,w0⟩
 rintro n s3 ⟨i,σ3,H3,I3,st3,fr3,w3⟩
 rcases turn i n σ3 H3 w3 with ⟨stop,qn⟩ | ⟨go,N,hN,step⟩
 ·refine wpAny_passesOwn hp (bF (T.done X rfl rfl rfl hc i pins s3 σ3 H3 X.xe I3 (stat fr3) st3 stop) fun r s4 ⟨hr,I4⟩=>?_)
  subst hr
  exact wpAny_execs_nil ⟨σ3,H3,I4,qn⟩
 ·refine wpAny_passesOwn hp (bF (T.item X rfl rfl rfl hc i pins s3 σ3 H3 X.xe I3 (stat fr3) st3 go) fun r s4 ⟨u,hr,h4⟩=>?_)
  subst hr
  refine wpAny_passesOwn hp (bF h4 fun _ s5 ⟨x,H5,I5,r5,y5,st5,fr5⟩=>?_)
  have I5':=I5.pinned (stat fr5) (T.obj _ _ st5)
  refine wpAny_passesOwn hp (bF (hg _ s5 σ3 H5 x u _ I5' r5 (step x H5 y5)) fun _ s6 ⟨σ6,H6,I6,q6⟩=>?_)
  refine wpAny_passesOwn hp (bF (hb _ s6 σ6 H6 _ I6 q6) fun f s7 q7=>?_)
  have again:∀ {σ7:St} {H7:Hp},Inv X (pins++iO fp s5.heap) σ7 H7 s7->N σ7 H7->∃ m,m < n/\∃ i σ' H',Inv X pins σ' H' s7/\tn i s7.heap/\(∀ b∈fp,H' b=none)/\W i m σ' H':=fun {σ7 H7} I7 n7=>by
   obtain⟨m',hm,w7⟩:=hN σ7 H7 n7
   refine⟨m',hm,i+1,σ7,H7,I7.unpinned,T.keep _ _ _ st5 fun b hb o e=>(I7.pin (b,o) (List.mem_append_right _ (List.mem_append_right _ (ej hb e)))).1,fun b hb=>?_,w7⟩
   obtain⟨o,e,d⟩:=T.obj _ _ st5 b hb
   exact (I7.pin (b,o) (List.mem_append_right _ (List.mem_append_right _ (ej hb e)))).2.1
  cases f with
  | next=>obtain⟨σ7,H7,I7,n7⟩:=q7;exact again I7 n7
  | cont=>obtain⟨σ7,H7,I7,n7⟩:=q7;exact again I7 n7
  | brk=>obtain⟨σ7,H7,I7,q7⟩:=q7;exact⟨σ7,H7,I7.unpinned,q7⟩
  | ret v=>obtain⟨x7,σ7,H7,I7,r7,q7⟩:=q7;exact⟨x7,σ7,H7,I7.unpinned,r7,q7⟩
end
theorem i5 {K:Fg} {a:Addr} {xs:List V} {g:TG} {tb:TS} {D:fN} {σ:St} {H:Hp} (Pv:Nat->St->Hp->Prop) (h0:Pv 0 σ H) (hl:∀ i σ H,i≤xs.length->Pv i σ H->aQ K H a xs)
  (hs:∀ i x σ H,xs[i]?=some x->Pv i σ H->g x σ H fun σ2 H2=>tb { D with nx:=Pv (i+1),ct:=Pv (i+1),bk:=D.nx } σ2 H2) (hd:∀ σ H,Pv xs.length σ H->D.nx σ H) :
  ∃ W:Nat->Nat->St->Hp->Prop,(∃ m,W 0 m σ H)/\∀ i m σ H,W i m σ H→
   ((pP K a).stop i H/\D.nx σ H)∨((pP K a).go i H/\∃ N:St->Hp->Prop,(∀ σ' H',N σ' H'->∃ m',m' < m/\W (i+1) m' σ' H')/\∀ x H',(pP K a).yld i H x H'->g x σ H' fun σ2 H2=>tb { D with nx:=N,ct:=N,bk:=D.nx } σ2 H2):=by
 refine⟨fun i m σ H=>m=xs.length - i/\i≤xs.length/\Pv i σ H,⟨xs.length,by simp,Nat.zero_le _,h0⟩,?_⟩
 rintro i m σ H ⟨rfl,hi,p⟩
 have q:=hl i σ H hi p
 by_cases hlt:i < xs.length
 ·refine .inr ⟨⟨xs,xs[i],q,by simp [hlt]⟩,Pv (i+1),fun σ' H' p'=>⟨xs.length - (i+1),by omega,rfl,hlt,p'⟩,fun x H' y=>?_⟩
  obtain⟨e,y⟩:=y
  subst e
  exact hs i x σ _ (y xs q) p
 ·have e:i=xs.length:=by omega
  subst e
  exact .inl ⟨⟨xs,q,Nat.le_refl _⟩,hd σ H p⟩
theorem k4 {K:Fg} {a:Addr} {xs:List V} {g:TG} {tb:TS} {D:fN} {σ:St} {H:Hp} (Pv:Nat->St->Hp->Prop) (h0:Pv 0 σ H) (hl:∀ i σ H,i≤xs.length->Pv i σ H->aV K H a xs)
  (hs:∀ i x σ H,xs[i]?=some x->Pv i σ H->g x σ H fun σ2 H2=>tb { D with nx:=Pv (i+1),ct:=Pv (i+1),bk:=D.nx } σ2 H2) (hd:∀ σ H,Pv xs.length σ H->D.nx σ H) :
  ∃ W:Nat->Nat->St->Hp->Prop,(∃ m,W 0 m σ H)/\∀ i m σ H,W i m σ H→
   ((vq K a).stop i H/\D.nx σ H)∨((vq K a).go i H/\∃ N:St->Hp->Prop,(∀ σ' H',N σ' H'->∃ m',m' < m/\W (i+1) m' σ' H')/\∀ x H',(vq K a).yld i H x H'->g x σ H' fun σ2 H2=>tb { D with nx:=N,ct:=N,bk:=D.nx } σ2 H2):=by
 refine⟨fun i m σ H=>m=xs.length - i/\i≤xs.length/\Pv i σ H,⟨xs.length,by simp,Nat.zero_le _,h0⟩,?_⟩
 rintro i m σ H ⟨rfl,hi,p⟩
 have q:=hl i σ H hi p
 by_cases hlt:i < xs.length
 ·refine .inr ⟨⟨xs,xs[i],q,by simp [hlt]⟩,Pv (i+1),fun σ' H' p'=>⟨xs.length - (i+1),by omega,rfl,hlt,p'⟩,fun x H' y=>?_⟩
  obtain⟨e,y⟩:=y
  subst e
  exact hs i x σ _ (y xs q) p
 ·have e:i=xs.length:=by omega
  subst e
  exact .inl ⟨⟨xs,q,Nat.le_refl _⟩,hd σ H p⟩
theorem cL {lo:Int} {n:Nat} {g:TG} {tb:TS} {D:fN} {σ:St} {H:Hp} (Pv:Nat->St->Hp->Prop) (h0:Pv 0 σ H)
  (hs:∀ i σ H,i < n->Pv i σ H->g (.int (lo+i)) σ H fun σ2 H2=>tb { D with nx:=Pv (i+1),ct:=Pv (i+1),bk:=D.nx } σ2 H2) (hd:∀ σ H,Pv n σ H->D.nx σ H) :
  ∃ W:Nat->Nat->St->Hp->Prop,(∃ m,W 0 m σ H)/\∀ i m σ H,W i m σ H→
   ((rp lo n).stop i H/\D.nx σ H)∨((rp lo n).go i H/\∃ N:St->Hp->Prop,(∀ σ' H',N σ' H'->∃ m',m' < m/\W (i+1) m' σ' H')/\∀ x H',(rp lo n).yld i H x H'->g x σ H' fun σ2 H2=>tb { D with nx:=N,ct:=N,bk:=D.nx } σ2 H2):=by
 refine⟨fun i m σ H=>m=n - i/\i≤n/\Pv i σ H,⟨n,by simp,Nat.zero_le _,h0⟩,?_⟩
 rintro i m σ H ⟨rfl,hi,p⟩
 by_cases hlt:i < n
 ·refine .inr ⟨hlt,Pv (i+1),fun σ' H' p'=>⟨n - (i+1),by omega,rfl,hlt,p'⟩,fun x H' y=>?_⟩
  obtain⟨e,y⟩:=y
  subst e y
  exact hs i σ _ hlt p
 ·have e:i=n:=by omega
  subst e
  exact .inl ⟨Nat.le_refl _,hd σ H p⟩
end L2
namespace L2
open PySem PySem.Spec PyProof.Rows
abbrev R2:=V->V->Hp->VK->Prop
def dN (X:Cx) (f:Value->Value->Sem Value) (r:R2):Prop:=
 ∀ (pins:bo) (s:Shared) (σ:St) (H:Hp) (x y:V) (v u:Value) (Q:VK),Inv X pins σ H s->aU x v->aU y u->r x y H Q→
  wpAny (model X.prog X.w) X.A (f v u) (EP X pins σ Q) X.xe s
def DH (X:Cx) (f:Value->Sem Value) (r:V->Hp->VK->Prop):Prop:=
 ∀ (pins:bo) (s:Shared) (σ:St) (H:Hp) (x:V) (v:Value) (Q:VK),Inv X pins σ H s->aU x v->r x H Q→
  wpAny (model X.prog X.w) X.A (f v) (EP X pins σ Q) X.xe s
def b8 (X:Cx) (f:Value) (r:List V->Hp->VK->Prop):Prop:=
 ∀ (pins:bo) (s:Shared) (σ:St) (H:Hp) (xs:List V) (us:List Value) (Q:VK),Inv X pins σ H s->aT xs us->r xs H Q→
  wpAny (model X.prog X.w) X.A (call f us) (EP X pins σ Q) X.xe s
def F9 (X:Cx) (r:V->Hp->(Bool->Hp->Prop)->Prop):Prop:=
 ∀ (pins:bo) (s:Shared) (σ:St) (H:Hp) (x:V) (v:Value) (Q:Bool->Hp->Prop),Inv X pins σ H s->aU x v->r x H Q→
  wpAny (model X.prog X.w) X.A (truthy v) (TP X pins σ Q) X.xe s
def vC (r:R2) (ta tb:TE):TE:=fun σ H Q=>ta σ H fun x H1=>tb σ H1 fun y H2=>r x y H2 Q
def EM (r:V->Hp->VK->Prop) (ta:TE):TE:=fun σ H Q=>ta σ H fun x H1=>r x H1 Q
def rI (C:Int->Int->Prop) (g:Int->Int->V):R2:=fun x y H Q=>∃ i j,x=.int i/\y=.int j/\C i j/\Q (g i j) H
def yj (g:Int->Int->V):R2:=fun x y H Q=>∃ i j,x=.int i/\y=.int j/\Q (g i j) H
def rU (g:Int->V):V->Hp->VK->Prop:=fun x H Q=>∃ i,x=.int i/\Q (g i) H
section
variable {X:Cx} {a b c:Expr} {ta tb tc:TE} {pos:Pos}
theorem A0 (ha:PE X a ta) (hb:PE X b tb) {pins:bo} {s:Shared} {σ:St} {H:Hp} {R:V->V->Hp->Prop} (I:Inv X pins σ H s)
  (h:ta σ H fun x H1=>tb σ H1 fun y H2=>R x y H2) {Q:bu} {f:Value->Value->Sem Value}
  (hf:∀ v u s2 x y H2,Inv X pins σ H2 s2->aU x v->aU y u->R x y H2->wpAny (model X.prog X.w) X.A (f v u) Q X.xe s2) :
  wpAny (model X.prog X.w) X.A (eval a X.env) (fun v s₁=>wpAny (model X.prog X.w) X.A (eval b X.env) (fun u s₂=>wpAny (model X.prog X.w) X.A (f v u) Q X.xe s₂) X.xe s₁) X.xe s:=by
 refine bF (ha pins s σ H _ I h) fun v s1 ⟨x,H1,I1,r1,q1⟩=>?_
 refine bF (hb pins s1 σ H1 _ I1 q1) fun u s2 ⟨y,H2,I2,r2,q2⟩=>?_
 exact hf v u s2 x y H2 I2 r1 r2 q2
theorem Cq {op:Operator} {r:R2} (ho:dN X (binaryOp op) r) (ha:PE X a ta) (hb:PE X b tb):PE X (.BinOp a op b pos) (vC r ta tb):=by
 intro pins s σ H Q I h
 exact wpAny_BinOp (A0 ha hb I h fun v u s2 x y H2 I2 rx ry q=>ho pins s2 σ H2 x y v u Q I2 rx ry q)
theorem yl {op:UnaryOp} {r:V->Hp->VK->Prop} (ho:DH X (unaryOp op) r) (ha:PE X a ta):PE X (.UnaryOp op a pos) (EM r ta):=by
 intro pins s σ H Q I h
 exact UnaryOp_ (bF (ha pins s σ H _ I h) fun v s1 ⟨x,H1,I1,r1,q1⟩=>ho pins s1 σ H1 x v Q I1 r1 q1)
theorem An {f:Value->Value->Sem Value} {C:Int->Int->Prop} {g:Int->Int->Int}
  (rule:∀ (i j:Int) (t u:Tok) (s:Shared) (Q:bu) (E:bu),C i j->Q (.int (g i j) s.toks) { s with toks:=s.toks+1 }->wpAny (model X.prog X.w) X.A (f (.int i t) (.int j u)) Q E s) :
  dN X f (rI C fun i j=>.int (g i j)):=by
 intro pins s σ H x y v u Q I rx ry h
 obtain⟨i,j,rfl,rfl,hc,q⟩:=h
 obtain⟨t,rfl⟩:=rx
 obtain⟨t',rfl⟩:=ry
 exact rule i j t t' s _ _ hc ⟨.int (g i j),H,I.tok _,⟨_,rfl⟩,q⟩
theorem Cw {f:Value->Value->Sem Value} {g:Int->Int->Int}
  (rule:∀ (i j:Int) (t u:Tok) (s:Shared) (Q:bu) (E:bu),Q (.int (g i j) s.toks) { s with toks:=s.toks+1 }->wpAny (model X.prog X.w) X.A (f (.int i t) (.int j u)) Q E s) :
  dN X f (yj fun i j=>.int (g i j)):=by
 intro pins s σ H x y v u Q I rx ry h
 obtain⟨i,j,rfl,rfl,q⟩:=h
 obtain⟨t,rfl⟩:=rx
 obtain⟨t',rfl⟩:=ry
 exact rule i j t t' s _ _ ⟨.int (g i j),H,I.tok _,⟨_,rfl⟩,q⟩
theorem wM {f:Value->Value->Sem Value} {g:Int->Int->Bool}
  (rule:∀ (i j:Int) (t u:Tok) (s:Shared) (Q:bu) (E:bu),Q (.bool (g i j)) s->wpAny (model X.prog X.w) X.A (f (.int i t) (.int j u)) Q E s) :
  dN X f (yj fun i j=>.bl (g i j)):=by
 intro pins s σ H x y v u Q I rx ry h
 obtain⟨i,j,rfl,rfl,q⟩:=h
 obtain⟨t,rfl⟩:=rx
 obtain⟨t',rfl⟩:=ry
 exact rule i j t t' s _ _ ⟨.bl (g i j),H,I,rfl,q⟩
def EI (i j:Int):Prop:=0 < j/\j < 1073741824
def Fu (i j:Int):Prop:=j≠0/\j.natAbs < 1073741824
def EH (i j:Int):Prop:=0≤j/\j≤1000000/\i.natAbs < 2 ^ 64
def Bg (i j:Int):Prop:=(-(2 ^ 64) < i/\i < 2 ^ 64)∨(-(2 ^ 64) < j/\j < 2 ^ 64)
theorem Bg.ok {i j:Int} (h:Bg i j):IntMulOk i j:=by
 rcases h with ⟨h1,h2⟩ | ⟨h1,h2⟩
 ·exact .of_left (intBits_le_64 h1 h2)
 ·exact .of_right (intBits_le_64 h1 h2)
theorem bg:dN X (binaryOp .Add) (yj fun i j=>.int (i+j)):=Cw fun _ _ _ _ _ _ _ q=>add_int q
theorem kI:dN X (binaryOp .Sub) (yj fun i j=>.int (i - j)):=Cw fun _ _ _ _ _ _ _ q=>sub_int q
theorem eP:dN X (binaryOp .Mult) (rI Bg fun i j=>.int (i * j)):=An fun _ _ _ _ _ _ _ hc q=>mul_int q hc.ok
theorem wK:dN X (binaryOp .FloorDiv) (rI EI fun i j=>.int (i / j)):=An fun i j _ _ _ _ _ hc q=>by
 have h1:(0:Int) < j:=hc.1
 have h2:j < 1073741824:=hc.2
 exact floordiv_int (by omega) (by rw [Int.fdiv_eq_ediv_of_nonneg i (by omega)];exact q) (.inl (PyProof.noPylong_small (by omega)))
theorem dk:dN X (binaryOp .Mod) (rI (fun _ j=>0 < j) fun i j=>.int (i % j)):=An fun i j _ _ _ _ _ hc q=>by
 have h1:(0:Int) < j:=hc
 exact mod_int' (by omega) (by rw [Int.fmod_eq_emod_of_nonneg i (by omega)];exact q)
theorem kJ:dN X (binaryOp .Pow) (rI EH fun i j=>.int (i ^ j.toNat)):=An fun _ _ _ _ _ _ _ hc q=>pow_int_small hc.1 hc.2.1 hc.2.2 q
theorem FA {f:Value->Sem Value} {g:Int->Int}
  (rule:∀ (i:Int) (t:Tok) (s:Shared) (Q:bu) (E:bu),Q (.int (g i) s.toks) { s with toks:=s.toks+1 }->wpAny (model X.prog X.w) X.A (f (.int i t)) Q E s) :
  DH X f (rU fun i=>.int (g i)):=by
 intro pins s σ H x v Q I rx h
 obtain⟨i,rfl,q⟩:=h
 obtain⟨t,rfl⟩:=rx
 exact rule i t s _ _ ⟨.int (g i),H,I.tok _,⟨_,rfl⟩,q⟩
theorem d6:DH X (unaryOp .USub) (rU fun i=>.int (-i)):=FA fun _ _ _ _ _ q=>neg_int q
end
def BR:V->V->Bool
 | .non,.non=>true | .non,.int _=>true | .int _,.non=>true | .non,.bl _=>true | .bl _,.non=>true | .non,.str _=>true | .str _,.non=>true
 | .int _,.int _=>true | .bl _,.bl _=>true | .str _,.str _=>true | .byt _,.byt _=>true
 | .int _,.str _=>true | .str _,.int _=>true | .bl _,.str _=>true | .str _,.bl _=>true
 | _,_=>false
def F1:R2:=fun x y H Q=>BR x y=true/\Q (.bl (decide (x=y))) H
def FX:R2:=fun x y H Q=>BR x y=true/\Q (.bl (!decide (x=y))) H
theorem pC {i j:Int}:decide (V.int i=V.int j)=(i == j):=by
 rw [Bool.eq_iff_iff]
 simp
theorem u5 {i j:Bool}:decide (V.bl i=V.bl j)=(i == j):=by
 rw [Bool.eq_iff_iff]
 simp
theorem pA {i j:Str}:decide (V.str i=V.str j)=(i == j):=by
 rw [Bool.eq_iff_iff]
 simp
theorem pD {i j:Array UInt8}:decide (V.byt i=V.byt j)=(i.toList == j.toList):=by
 rw [Bool.eq_iff_iff]
 cases i
 cases j
 simp
section
variable {X:Cx} {a b c:Expr} {ta tb tc:TE} {pos:Pos}
theorem bc {pins:bo} {σ:St} {H:Hp} {s:Shared} {Q:VK} {k k':Bool} (I:Inv X pins σ H s) (q:Q (.bl k) H) (e:k=k'):EP X pins σ Q (.bool k') s:=by
 subst e
 exact⟨.bl k,H,I,rfl,q⟩
theorem cS:dN X (compareOp .Eq) F1:=by
 intro pins s σ H x y v u Q I rx ry h
 obtain⟨hs,q⟩:=h
 cases x with
 | non=>
  cases rx
  cases y with
  | non=>cases ry;exact PySem.EqNone.eq_none_none (bc I q (by simp))
  | bl j=>cases ry;exact PySem.EqNone.eq_none_bool (bc I q (by simp))
  | int j=>obtain⟨t',rfl⟩:=ry;exact PySem.EqNone.eq_none_int (bc I q (by simp))
  | str j=>obtain⟨t',rfl⟩:=ry;exact PySem.EqNone.eq_none_str (bc I q (by simp))
  | _=>exact absurd (show false=true from hs) Bool.false_ne_true
 | bl i=>
  cases rx
  cases y with
  | non=>cases ry;exact PySem.EqNone.eq_bool_none (bc I q (by simp))
  | bl j=>cases ry;exact eq_bool (bc I q u5)
  | str j=>obtain⟨t',rfl⟩:=ry;exact PySem.EqMixed.eq_bool_str (bc I q (by simp))
  | _=>exact absurd (show false=true from hs) Bool.false_ne_true
 | int i=>
  obtain⟨t,rfl⟩:=rx
  cases y with
  | non=>cases ry;exact PySem.EqNone.eq_int_none (bc I q (by simp))
  | int j=>obtain⟨t',rfl⟩:=ry;exact eq_int (bc I q pC)
  | str j=>obtain⟨t',rfl⟩:=ry;exact PySem.EqMixed.eq_int_str (bc I q (by simp))
  | _=>exact absurd (show false=true from hs) Bool.false_ne_true
 | str i=>
  obtain⟨t,rfl⟩:=rx
  cases y with
  | non=>cases ry;exact PySem.EqNone.eq_str_none (bc I q (by simp))
  | bl j=>cases ry;exact PySem.EqMixed.eq_str_bool (bc I q (by simp))
  | int j=>obtain⟨t',rfl⟩:=ry;exact PySem.EqMixed.eq_str_int (bc I q (by simp))
  | str j=>obtain⟨t',rfl⟩:=ry;exact eq_str (bc I q pA)
  | _=>exact absurd (show false=true from hs) Bool.false_ne_true
 | byt i=>
  obtain⟨t,rfl⟩:=rx
  cases y with
  | byt j=>obtain⟨t',rfl⟩:=ry;exact PySem.W.eq_bytes (bc I q pD)
  | _=>exact absurd (show false=true from hs) Bool.false_ne_true
 | _=>cases y <;> exact absurd (show false=true from hs) Bool.false_ne_true
theorem gU:dN X (compareOp .NotEq) FX:=by
 intro pins s σ H x y v u Q I rx ry h
 obtain⟨hs,q⟩:=h
 cases x with
 | non=>
  cases rx
  cases y with
  | non=>cases ry;exact PySem.EqNone.ne_none_none (bc I q (by simp))
  | bl j=>cases ry;exact PySem.EqNone.ne_none_bool (bc I q (by simp))
  | int j=>obtain⟨t',rfl⟩:=ry;exact PySem.EqNone.ne_none_int (bc I q (by simp))
  | str j=>obtain⟨t',rfl⟩:=ry;exact PySem.EqNone.ne_none_str (bc I q (by simp))
  | _=>exact absurd (show false=true from hs) Bool.false_ne_true
 | bl i=>
  cases rx
  cases y with
  | non=>cases ry;exact PySem.EqNone.ne_bool_none (bc I q (by simp))
  | bl j=>cases ry;exact ne_bool (bc I q (congrArg not u5))
  | str j=>obtain⟨t',rfl⟩:=ry;exact PySem.EqMixed.ne_bool_str (bc I q (by simp))
  | _=>exact absurd (show false=true from hs) Bool.false_ne_true
 | int i=>
  obtain⟨t,rfl⟩:=rx
  cases y with
  | non=>cases ry;exact PySem.EqNone.ne_int_none (bc I q (by simp))
  | int j=>obtain⟨t',rfl⟩:=ry;exact ne_int (bc I q (congrArg not pC))
  | str j=>obtain⟨t',rfl⟩:=ry;exact PySem.EqMixed.ne_int_str (bc I q (by simp))
  | _=>exact absurd (show false=true from hs) Bool.false_ne_true
 | str i=>
  obtain⟨t,rfl⟩:=rx
  cases y with
  | non=>cases ry;exact PySem.EqNone.ne_str_none (bc I q (by simp))
  | bl j=>cases ry;exact PySem.EqMixed.ne_str_bool (bc I q (by simp))
  | int j=>obtain⟨t',rfl⟩:=ry;exact PySem.EqMixed.ne_str_int (bc I q (by simp))
  | str j=>obtain⟨t',rfl⟩:=ry;exact ne_str (bc I q (congrArg not pA))
  | _=>exact absurd (show false=true from hs) Bool.false_ne_true
 | byt i=>
  obtain⟨t,rfl⟩:=rx
  cases y with
  | byt j=>obtain⟨t',rfl⟩:=ry;exact PySem.W.ne_bytes (bc I q (congrArg not pD))
  | _=>exact absurd (show false=true from hs) Bool.false_ne_true
 | _=>cases y <;> exact absurd (show false=true from hs) Bool.false_ne_true
theorem eQ:dN X (compareOp .Lt) (yj fun i j=>.bl (decide (i < j))):=wM fun _ _ _ _ _ _ _ q=>lt_int q
theorem oV:dN X (compareOp .LtE) (yj fun i j=>.bl (decide (i≤j))):=wM fun _ _ _ _ _ _ _ q=>le_int q
theorem gX:dN X (compareOp .Gt) (yj fun i j=>.bl (decide (j < i))):=wM fun _ _ _ _ _ _ _ q=>gt_int q
theorem Cv:dN X (compareOp .GtE) (yj fun i j=>.bl (decide (j≤i))):=wM fun _ _ _ _ _ _ _ q=>ge_int q
def Ff:HO->Bool
 | .lst _=>true
 | .ins _ _ _=>true
 | _=>false
theorem aK (b:Expr) {op:CmpOp} (h:op≠.In:=by decide) (h2:op≠.NotIn:=by decide):behindInMarks op b=false:=by
 have e1:(op == CmpOp.In)=false:=by cases op <;> first | rfl | exact absurd rfl h
 have e2:(op == CmpOp.NotIn)=false:=by cases op <;> first | rfl | exact absurd rfl h2
 cases b <;> simp [behindInMarks,e1,e2]
theorem wB {op:CmpOp} {r:R2} (ho:dN X (compareOp op) r) (ha:PE X a ta) (hb:PE X b tb) (hm:behindInMarks op b=false):PE X (.Compare a [op] [b] pos) (vC r ta tb):=by
 intro pins s σ H Q I h
 exact wpAny_Compare1 (A0 ha hb I h fun v u s2 x y H2 I2 rx ry q=>ho pins s2 σ H2 x y v u Q I2 rx ry q) hm
def oG (t:TE):TT:=fun σ H Q=>t σ H fun x H'=>∃ k,x=.bl k/\Q k H'
theorem vZ {op:CmpOp} {r:R2} (ho:dN X (compareOp op) r) (ha:PE X a ta) (hb:PE X b tb) (hm:behindInMarks op b=false):PT X (.Compare a [op] [b] pos) (oG (vC r ta tb)):=by
 intro pins s σ H Q I h
 refine wpAny_isTrue_Compare1 (bF (ha pins s σ H _ I h) fun v s1 ⟨x,H1,I1,r1,q1⟩=>bF (hb pins s1 σ H1 _ I1 q1) fun u s2 ⟨y,H2,I2,r2,q2⟩=>
  bF (ho pins s2 σ H2 x y v u _ I2 r1 r2 q2) fun c s3 ⟨z,H3,I3,r3,k,e,q3⟩=>?_) hm
 subst e
 cases r3
 exact wpAny_truthy_bool ⟨H3,I3,q3⟩
def kg (r r':R2) (ta tb tc:TE):TE:=fun σ H Q=>ta σ H fun x H1=>tb σ H1 fun y H2=>r x y H2 fun z H3=>∃ k,z=.bl k∧
 (if k=true then tc σ H3 fun w' H4=>r' y w' H4 Q else Q (.bl false) H3)
theorem ui {op op':CmpOp} {r r':R2} (ho:dN X (compareOp op) r) (ho':dN X (compareOp op') r') (ha:PE X a ta) (hb:PE X b tb) (hc:PE X c tc)
  (hm:lastMarks [op,op'] [b,c]=false:=by with_unfolding_all rfl):PE X (.Compare a [op,op'] [b,c] pos) (kg r r' ta tb tc):=by
 intro pins s σ H Q I h
 refine Compare_chain (bF (ha pins s σ H _ I h) fun v s1 ⟨x,H1,I1,r1,q1⟩=>chain_link (bF (hb pins s1 σ H1 _ I1 q1) fun u s2 ⟨y,H2,I2,r2,q2⟩=>
  bF (ho pins s2 σ H2 x y v u _ I2 r1 r2 q2) fun d s3 ⟨z,H3,I3,r3,k,e,q3⟩=>?_)) hm
 subst e
 cases r3
 refine wpAny_truthy_bool ?_
 cases k with
 | false=>exact ite_ff ⟨.bl false,H3,I3,rfl,q3⟩
 | true=>exact ite_tt (chain_last (bF (hc pins s3 σ H3 _ I3 q3) fun w' s4 ⟨z',H4,I4,r4,q4⟩=>ho' pins s4 σ H4 y z' u w' Q I4 r2 r4 q4))
theorem tN {op op':CmpOp} {r r':R2} (ho:dN X (compareOp op) r) (ho':dN X (compareOp op') r') (ha:PE X a ta) (hb:PE X b tb) (hc:PE X c tc)
  (hm:lastMarks [op,op'] [b,c]=false:=by with_unfolding_all rfl):PT X (.Compare a [op,op'] [b,c] pos) (oG (kg r r' ta tb tc)):=by
 intro pins s σ H Q I h
 refine isTrue_chain (bF (ha pins s σ H _ I h) fun v s1 ⟨x,H1,I1,r1,q1⟩=>test_link (bF (hb pins s1 σ H1 _ I1 q1) fun u s2 ⟨y,H2,I2,r2,q2⟩=>
  bF (ho pins s2 σ H2 x y v u _ I2 r1 r2 q2) fun d s3 ⟨z,H3,I3,r3,k,e,q3⟩=>?_)) hm
 subst e
 cases r3
 refine wpAny_truthy_bool ?_
 cases k with
 | false=>
  obtain⟨k',e',q'⟩:=q3
  cases e'
  exact ite_ff ⟨H3,I3,q'⟩
 | true=>
  refine ite_tt (test_last (bF (hc pins s3 σ H3 _ I3 q3) fun w' s4 ⟨z',H4,I4,r4,q4⟩=>bF (ho' pins s4 σ H4 y z' u w' _ I4 r2 r4 q4) fun d' s5 ⟨z2,H5,I5,r5,k2,e2,q5⟩=>?_))
  subst e2
  cases r5
  exact wpAny_truthy_bool ⟨H5,I5,q5⟩
def F8 (K:Fg) (x:V) (H:Hp) (k:Bool):Prop:=
 match x with
 | .non=>k=false
 | .bl b=>k=b
 | .int i=>k=(i != 0)
 | .str y=>y.length≤sizeLine/\k=((y.length:Int) != 0)
 | .byt y=>y.size≤sizeLine/\k=((y.size:Int) != 0)
 | .ref p=>(∃ xs,aQ K H p xs/\k=!xs.isEmpty)∨(∃ xs,aV K H p xs/\k=!xs.isEmpty)∨∃ kvs,H p=some (.dK kvs)/\k=!kvs.isEmpty
 | _=>False
theorem kT:(sizeLine:Nat) < 2 ^ 63:=by rw [sizeLine_eq];decide
def Dd (b:Expr):Prop:=∀ o i,subscripted b false o i=operate [o,i] (getItem o i)
theorem dP {x:V} {us:List Value} (r:aT [x] us):∃ u,us=[u]/\aU x u:=by
 cases r with
 | cons r1 r2=>cases r2;exact⟨_,rfl,r1⟩
theorem jD {x y:V} {us:List Value} (r:aT [x,y] us):∃ u w',us=[u,w']/\aU x u/\aU y w':=by
 cases r with
 | cons r1 r2=>
  cases r2 with
  | cons r3 r4=>cases r4;exact⟨_,_,rfl,r1,r3⟩
theorem dY:b8 X (.builtin "abs") (fun xs H Q=>∃ i,xs=[.int i]/\Q (.int (if i < 0 then -i else i)) H):=by
 intro pins s σ H xs us Q I r h
 obtain⟨i,rfl,q⟩:=h
 obtain⟨u,rfl,t,rfl⟩:=dP r
 exact call_abs_int fun u tk=>⟨.int (if i < 0 then -i else i),H,I.tok _,⟨_,rfl⟩,q⟩
theorem rc:b8 X (.type "int") (fun xs H Q=>(∃ i,xs=[.int i]/\Q (.int i) H)∨∃ k,xs=[.bl k]/\Q (.int (if k then 1 else 0)) H):=by
 intro pins s σ H xs us Q I r h
 rcases h with ⟨i,rfl,q⟩ | ⟨k,rfl,q⟩
 ·obtain⟨u,rfl,t,rfl⟩:=dP r
  exact call_int_int ⟨.int i,H,I,⟨_,rfl⟩,q⟩
 ·obtain⟨u,rfl,r1⟩:=dP r
  cases r1
  exact call_int_bool ⟨.int (if k then 1 else 0),H,I.tok _,⟨_,rfl⟩,q⟩
def Gj (K:Fg) (x:V) (H:Hp) (n:Nat):Prop:=
 match x with
 | .str y=>y.length≤sizeLine/\n=y.length
 | .byt y=>y.size≤sizeLine/\n=y.size
 | .ref p=>(∃ xs,aQ K H p xs/\n=xs.length)∨∃ xs,aV K H p xs/\n=xs.length
 | _=>False
end
end L2
namespace L2
open PySem PySem.Spec PyProof.Rows
structure Bc (h:Heap) (x dx C:Addr) (mA:Str->Option Value):Prop where
 obj:h.get? x=some (PySem.W.instObj C dx)
 ns:h.Ns1 dx mA
 ne:dx≠x
theorem jN {h:Heap} {dx:Addr} {mA:Str->Option Value} (n:h.Ns1 dx mA):∃ od,h.get? dx=some od/\∀ name,PySem.W.lookIn name od=some (mA name):=by
 obtain⟨o,es,ep,ho,hd,hk,_,hm⟩:=n
 refine⟨o,ho,fun name=>?_⟩
 have e:=hm name
 unfold nsFind findBy at e
 rw [← Array.find?_toList] at e
 unfold PySem.W.lookIn
 rw [hd]
 dsimp only
 split
 ·rename_i y q
  rw [q] at e
  exact congrArg some e
 ·rename_i q
  rw [q] at e
  have a:es.toList.any (·.refKey)=false:=by
   rw [List.any_eq_false]
   intro y hy
   obtain⟨z,t,hkey⟩:=hk y (Array.mem_toList_iff.mp hy)
   simp [DictEntry.refKey,hkey]
  have a':¬ es.toList.any (·.refKey)=true:=by rw [a];exact Bool.false_ne_true
  rw [if_neg a']
  exact congrArg some e
theorem Bc.look {h:Heap} {x dx C:Addr} {mA:Str->Option Value} (I:Bc h x dx C mA):∃ od,PySem.W.InstAt h x (PySem.W.instObj C dx) C (some od)/\∀ name,PySem.W.lookIn name od=some (mA name):=
 let ⟨od,ho,hl⟩:=jN I.ns
 ⟨od,⟨I.obj,rfl,rfl,ho⟩,hl⟩
section
variable {prog:Program} {w:World} {A:Around} {E:bu} {s:Shared} {K:Fg} {x dx C f:Addr} {mA:Str->Option Value} {name:Str} {v:Value}
end
def zJ (f:Str) (v:V):List (Str×V)->List (Str×V)
 | []=>[(f,v)]
 | (g,x) :: r=>if g=f then (g,v) :: r else (g,x) :: zJ f v r
theorem eF.some_of {v:V} {o:Option Value} (r:eF (some v) o):∃ u,o=some u/\aU v u:=by
 cases o with
 | none=>exact (show False from r).elim
 | some u=>exact⟨u,rfl,r⟩
theorem qJ {v:V} {u:Value} (r:aU v u):PySem.W.handedIn u=true:=by
 cases v with
 | non=>cases (show u=Value.none from r);rfl
 | bl b=>cases (show u=Value.bool b from r);rfl
 | int i=>obtain⟨t,e⟩:=(show ∃ t,u=Value.int i t from r);cases e;rfl
 | str x=>obtain⟨t,e⟩:=(show ∃ t,u=Value.str x t from r);cases e;rfl
 | byt b=>obtain⟨t,e⟩:=(show ∃ t,u=Value.bytes b t from r);cases e;rfl
 | flt b=>obtain⟨t,e⟩:=(show ∃ t,u=Value.float b t from r);cases e;rfl
 | ref a=>cases (show u=Value.ref a from r);rfl
 | ty n=>cases (show u=Value.type n from r);rfl
section
variable {P:Program} {w:World} {H H':Hp} {h h':Heap} {a C dx:Addr} {fs fs':List (Str×V)}
theorem wX (hok:fA P w H h) (e:H a=some (.ins C dx fs)):∃ mA,Bc h a dx C mA/\(∀ f,eF (fs.lookup f) (mA f))/\PySem.Within mA (fs.map (·.1))/\fs.length≤1000/\H dx=some (.own a):=by
 obtain⟨d,z,ne,ob,mA,n,r,q⟩:=(show ObjOk P w H h a (.ins C dx fs) from hok a _ e)
 exact⟨mA,⟨ob,n,ne⟩,r,q,z,d⟩
end
structure Bf (K:Fg) (C:Addr):Prop where
 pg:PySem.W.plainGet K C Str.empty=true
 hd:PySem.W.hasDictIn K C=true
 po:PySem.W.plainOver K C=true
 sa:PySem.W.findIn K (.ref C) "__setattr__" = some (some (.builtin "object.__setattr__"))
theorem Bf.get {K:Fg} {C:Addr} (c:Bf K C) (f:Str):PySem.W.plainGet K C f=true:=c.pg
def dn (K:Fg) (C:Addr) (f:Str):Prop:=PySem.W.findIn K (.ref C) f=some none
structure Gs (K:Fg) (C:Addr) (f:Str) (v:V) (u:Value):Prop where
 at_:PySem.W.findIn K (.ref C) f=some (some u)
 rel:aU v u
 get:PySem.W.specialIn K u "__get__" = some none
 cp:PySem.W.copiedNames.contains f=false
structure Gi (K:Fg) (C:Addr) (m:Str) (f:Addr):Prop where
 at_:PySem.W.findIn K (.ref C) m=some (some (.ref f))
 fn:PySem.W.isFn K (.ref f)=true
 kp:PySem.W.keepIn K (.ref f)=true
section
variable {X:Cx} {pins:bo} {σ:St} {H:Hp} {s:Shared} {a C dx:Addr} {fs:List (Str×V)} {f:Str} {v:V} {A:Around} {E:bu}
theorem xB {prog:Program} {w:World} {env:Env} {e:Expr} {f:Str} {pos:Pos} {s:Shared} {Q:bu} (hb:attributeBase e f env (eval e env)=eval e env)
  (h:wpAny (model prog w) A (eval e env) (fun o s₁=>wpAny (model prog w) A (getAttr o f true) Q E s₁) E s):wpAny (model prog w) A (eval (.Attribute e f pos) env) Q E s:=
 Attribute_any_ h (by rw [arm_eval_Attribute,hb])
end
def FJ (K:Fg) (ta:TE) (f:Str):TE:=fun σ H Q=>ta σ H fun x H1=>∃ a C dx fs v,x=.ref a/\H1 a=some (.ins C dx fs)/\Bf K C/\dn K C f/\fs.lookup f=some v/\Q v H1
def FM (K:Fg) (ta:TE) (f:Str):TE:=fun σ H Q=>ta σ H fun x H1=>∃ a C dx fs v u,x=.ref a/\H1 a=some (.ins C dx fs)/\Bf K C/\Gs K C f v u/\fs.lookup f=none/\Q v H1
def FR (K:Fg) (ta tv:TE) (f:Str):TS:=fun D σ H=>tv σ H fun y H1=>ta σ H1 fun x H2=>∃ a C dx fs,x=.ref a/\H2 a=some (.ins C dx fs)/\Bf K C/\dn K C f/\fs.length < 1000∧
 D.nx σ (upd H2 a (.ins C dx (zJ f y fs)))
def Go (X:Cx) (op:Operator) (rd:V->V->Hp->VK->Prop):Prop:=
 ∀ (pins:bo) (s:Shared) (σ:St) (H:Hp) (x y:V) (u v:Value) (Q:VK),Inv X pins σ H s->aU x u->aU y v->rd x y H Q->wpAny (model X.prog X.w) X.A (inplaceOp op u v) (EP X pins σ Q) X.xe s
def Dx (K:Fg) (ta tv:TE) (rd:V->V->Hp->VK->Prop) (f:Str):TS:=fun D σ H=>ta σ H fun x H1=>∃ a C dx fs v,x=.ref a/\H1 a=some (.ins C dx fs)/\Bf K C/\dn K C f/\fs.lookup f=some v∧
 tv σ H1 fun y H2=>rd v y H2 fun z H3=>∃ dx' fs',H3 a=some (.ins C dx' fs')/\fs'.length < 1000/\D.nx σ (upd H3 a (.ins C dx' (zJ f z fs')))
section
variable {X:Cx} {o e value:Expr} {f:Str} {pos pos' tpos:Pos} {ta tv:TE}
def F2:V->V->Hp->VK->Prop:=fun x y H Q=>∃ i j,x=.int i/\y=.int j/\Q (.int (i+j)) H
def FU:V->V->Hp->VK->Prop:=fun x y H Q=>∃ i j,x=.int i/\y=.int j/\Q (.int (i - j)) H
end
section
variable {X:Cx} {pins:bo} {σ:St} {H:Hp} {s:Shared} {A:Around} {E:bu} {Q:bu} {c:Value} {b:Bool}
inductive gL (K:Fg) (H:Hp):V->Value->Prop where
 | non:gL K H .non (.type "NoneType")
 | bl (x:Bool):gL K H (.bl x) (.type "bool")
 | int (i:Int):gL K H (.int i) (.type "int")
 | str (x:Str):gL K H (.str x) (.type "str")
 | flt (x:UInt64):gL K H (.flt x) (.type "float")
 | lst {a:Addr} {xs:List V} (e:H a=some (.lst xs)):gL K H (.ref a) (.type "list")
 | frz {a:Addr} {o:Obj} {xs:List V} (e:H a=some (.frz o (.lst xs))):gL K H (.ref a) (.type "list")
 | tup {a:Addr} {xs:List V} (e:H a=some (.tup xs)):gL K H (.ref a) (.type "tuple")
 | dK {a:Addr} {kvs:List (bS×V)} (e:H a=some (.dK kvs)):gL K H (.ref a) (.type "dict")
 | dT {a:Addr} {kvs:List (List bS×V)} (e:H a=some (.dT kvs)):gL K H (.ref a) (.type "dict")
 | ins {a C dx:Addr} {fs:List (Str×V)} (e:H a=some (.ins C dx fs)) (cl:Bf K C) (ha:PySem.W.findIn K (.ref C) "__class__" = some (some (.builtin "object.__class__")))
   (hn:PySem.W.specialIn K (.builtin "object.__class__") "__get__" = some (some (.builtin "getset_descriptor.__get__"))) (htk:PySem.W.takesIn K (.builtin "object.__class__")=some true)
   (hm:PySem.W.mroIn K C (.type "object")=some true):gL K H (.ref a) (.ref C)
theorem qF {x:V} {u t:Value} (I:Inv X pins σ H s) (rx:aU x u) (ty:gL X.K H x t) (e:PySem.W.kitOne X.K t c=some b) (h:∀ tk,Q (.bool b) { s with toks:=tk }) :
  wpAny (model X.prog X.w) A (call (.builtin "isinstance") [u,c]) Q E s:=by
 cases ty with
 | non=>cases (show u=Value.none from rx);exact PySem.W.kia_one PySem.W.kitx_none I.kIn True.intro e (fun z=>nomatch z) h
 | bl y=>cases (show u=Value.bool y from rx);exact PySem.W.kia_one PySem.W.kitx_bool I.kIn True.intro e (fun z=>nomatch z) h
 | int i=>obtain⟨t,q⟩:=(show ∃ t,u=Value.int i t from rx);cases q;exact PySem.W.kia_one PySem.W.kitx_int I.kIn True.intro e (fun z=>nomatch z) h
 | str y=>obtain⟨t,q⟩:=(show ∃ t,u=Value.str y t from rx);cases q;exact PySem.W.kia_one PySem.W.kitx_str I.kIn True.intro e (fun z=>nomatch z) h
 | flt y=>obtain⟨t,q⟩:=(show ∃ t,u=Value.float y t from rx);cases q;exact PySem.W.kia_one PySem.W.kitx_float I.kIn True.intro e (fun z=>nomatch z) h
 | @lst a xs ea=>
  cases (show u=Value.ref a from rx)
  obtain⟨_,_,n,_,h1⟩:=(show ObjOk X.prog X.w H s.heap a (.lst xs) from I.hok a _ ea)
  exact PySem.W.kia_one PySem.W.kitx_list I.kIn ⟨_,h1,rfl⟩ e (fun z=>nomatch z) h
 | @frz a ob xs ea=>
  cases (show u=Value.ref a from rx)
  obtain⟨_,_,_,n,_,h1⟩:=(show ObjOk X.prog X.w H s.heap a (.frz ob (.lst xs)) from I.hok a _ ea)
  exact PySem.W.kia_one PySem.W.kitx_list I.kIn ⟨_,h1,rfl⟩ e (fun z=>nomatch z) h
 | @tup a xs ea=>
  cases (show u=Value.ref a from rx)
  obtain⟨_,_,_,p⟩:=(show ObjOk X.prog X.w H s.heap a (.tup xs) from I.hok a _ ea)
  obtain⟨o,h1,h2,_⟩:=p
  exact PySem.W.kia_one PySem.W.kitx_tuple I.kIn ⟨o,h1,h2⟩ e (fun z=>nomatch z) h
 | @dK a kvs ea=>
  cases (show u=Value.ref a from rx)
  obtain⟨_,_,vs,_,p⟩:=(show ObjOk X.prog X.w H s.heap a (.dK kvs) from I.hok a _ ea)
  obtain⟨o,es,ep,h1,h2,_⟩:=p
  exact PySem.W.kia_one PySem.W.kitx_dict I.kIn ⟨o,h1,h2.1⟩ e (fun z=>nomatch z) h
 | @dT a kvs ea=>
  cases (show u=Value.ref a from rx)
  obtain⟨_,_,xs,_,o,es,ep,h1,h2,_⟩:=(show ObjOk X.prog X.w H s.heap a (.dT kvs) from I.hok a _ ea)
  exact PySem.W.kia_one PySem.W.kitx_dict I.kIn ⟨o,h1,h2.1⟩ e (fun z=>nomatch z) h
 | @ins a C dx fs ea cl ha hn htk hm=>
  cases (show u=Value.ref a from rx)
  obtain⟨mA,O,_⟩:=wX I.hok ea
  obtain⟨od,J,_⟩:=O.look
  exact PySem.W.kia_one (PySem.W.kitx_own (cl.get _) cl.hd ha hn htk hm) I.kIn J e (fun z=>nomatch z) h
end
end L2
namespace L2
open PySem PySem.Spec PyProof.Rows
structure cc (k:Nat) (A:Around):Prop where
 hd:A.handled=none
 dp:A.depth+3 * k+5 < recursionLimit
 un:A.units+16 * k+200 < cLine
 gd:A.guards=some []
theorem cc.mono {j k:Nat} {A:Around} (r:cc k A) (h:j≤k):cc j A:=⟨r.hd,by have:=r.dp;omega,by have:=r.un;omega,r.gd⟩
theorem cc.deeper {k:Nat} {A:Around} (r:cc (k+1) A) (env:Env):cc k (A.deeper env):=
 ⟨r.hd,by have:=r.dp;show A.depth+1+3 * k+5 < _;omega,by have:=r.un;show A.units+3+16 * k+200 < _;omega,r.gd⟩
theorem og {A:Around} {C:Addr} {us:List Value} {kw:List (Str×Value)}:(A.under (.builtin "type.__call__" ⟨.ref C :: us,kw⟩)).depth=A.depth+1:=by
 first | rfl | simp [Around.under,Code.weight,Code.isCreation,Code.isGuard,Code.isCaller,Code.frames,Code.isFrame,guardIds]
theorem n9 {A:Around} {C:Addr} {us:List Value} {kw:List (Str×Value)}:(A.under (.builtin "type.__call__" ⟨.ref C :: us,kw⟩)).units=A.units+1:=by
 first | rfl | simp [Around.under,Code.cUnits,Code.frames,Code.isFrame]
theorem mz {A:Around} {C:Addr} {us:List Value} {kw:List (Str×Value)}:(A.under (.builtin "type.__call__" ⟨.ref C :: us,kw⟩)).guards=A.guards:=by
 first | rfl | simp [Around.under,Code.guards,Code.isGuard,guardIds,pushGuards]
theorem cc.make {k:Nat} {A:Around} (r:cc (k+1) A) (C:Addr) (us:List Value) (kw:List (Str×Value)):cc k (A.under (.builtin "type.__call__" ⟨.ref C :: us,kw⟩)):=
 ⟨r.hd,by have:=r.dp;rw [og];omega,by have:=r.un;rw [n9];omega,by rw [mz];exact r.gd⟩
theorem cc.depth {k:Nat} {A:Around} (r:cc k A):A.depth < recursionLimit:=by have:=r.dp;omega
theorem cc.units {k:Nat} {A:Around} (r:cc k A):A.units+64 < cLine:=by have:=r.un;omega
def BF:TA:=fun _ H Q=>Q [] H
def xW (ta:TE) (tr:TA):TA:=fun σ H Q=>ta σ H fun x H1=>tr σ H1 fun xs H2=>Q (x :: xs) H2
section
variable {X:Cx} {e:Expr} {es:List Expr} {te:TE} {t:TA} {pos:Pos}
theorem Aj:PA X [] BF:=fun _ _ _ _ H Q I h=>Calls.spliced_nil ⟨[],H,I,.nil,h⟩
theorem wH (ha:PE X e te) (hr:PA X es t) (hs:starEach (e :: es) X.env=(false,eval e X.env) :: starEach es X.env:=by rfl):PA X (e :: es) (xW te t):=by
 intro pos pins s σ H Q I h
 rw [hs]
 show wpAny _ _ (spliced ((false,eval e X.env) :: backTo pos (starEach es X.env))) _ _ s
 refine Calls.spliced_cons (bF (ha pins s σ H _ I h) fun u s1 ⟨x,H1,I1,r1,q1⟩=>?_)
 exact bF (hr pos pins s1 σ H1 _ I1 q1) fun us s2 ⟨xs,H2,I2,r2,q2⟩=>⟨x :: xs,H2,I2,.cons r1 r2,q2⟩
def Bz (t:TA):TE:=fun σ H Q=>t σ H fun xs H1=>xs.length≤sizeLine/\∀ p,H1 p=none->Q (.ref p) (upd H1 p (.tup xs))
def BG (t:TA):TE:=fun σ H Q=>t σ H fun xs H1=>xs.length≤sizeLine/\∀ p,H1 p=none->Q (.ref p) (upd H1 p (.lst xs))
theorem zY {x1} (h:PA X es t):PE X (.Tuple es x1 pos) (Bz t):=by
 intro pins s σ H Q I hq
 refine wpAny_Tuple_spliced (bF (h pos pins s σ H _ I hq) fun us s1 ⟨xs,H1,I1,r,z,q⟩=>⟨by rw [← r.length];exact z,?_⟩)
 have hf:H1 s1.heap.objs.size=none:=I1.hok.fresh (Nat.le_refl _)
 refine⟨.ref s1.heap.objs.size,upd H1 s1.heap.objs.size (.tup xs),I1.laid (t':=s1.toks) (fun b u e=>Heap.get?_push_of_some _ e) (Nat.le_refl _) ?_,rfl,q _ hf⟩
 exact⟨z,us,r,⟨_,Heap.get?_push_size _ rfl,rfl,_,rfl⟩⟩
theorem Ae (h:PA X es t):PE X (.List es pos) (BG t):=by
 intro pins s σ H Q I hq
 refine wpAny_List_spliced (bF (h pos pins s σ H _ I hq) fun us s1 ⟨xs,H1,I1,r,z,q⟩=>⟨by rw [← r.length];exact z,?_⟩)
 have hf:H1 s1.heap.objs.size=none:=I1.hok.fresh (Nat.le_refl _)
 refine⟨.ref s1.heap.objs.size,upd H1 s1.heap.objs.size (.lst xs),I1.laid (t':=s1.toks) (fun b u e=>Heap.get?_push_of_some _ e) (Nat.le_refl _) ?_,rfl,q _ hf⟩
 exact⟨z,us,0,r,Heap.get?_push_size _ rfl⟩
end
abbrev Sp:=List V->Hp->VK->XK->Prop
abbrev nk:=List Env->Hp->Shared->XK->Value->Shared->Prop
structure nc (P:Program) (w:World) (K:Fg) (mg:Str->Option Value) (base:Heap) (A:Around) (outer:List Env) (s:Shared) (H:Hp):Prop where
 frames:A.frames=some outer
 mod:Mod K mg base
 bs:∀ b o,base.get? b=some o->s.heap.get? b=some o/\H b=none
 bsz:base.objs.size≤s.heap.objs.size
 funs:s.heap.FunFrames base outer
 frf:∀ b∈jx outer,H b=none
 hok:fA P w H s.heap
 bare:AllBare s.gens
def CE (outer:List Env) (P:Program) (w:World) (H:Hp) (s:Shared) (Q:VK) (u:Value) (s':Shared):Prop:=
 ∃ v H',s'.os=s.os/\AllBare s'.gens/\Un (jx outer) [] H H' s.heap s'.heap/\fA P w H' s'.heap/\aU v u/\Q v H'
def CR (CX:nk) (outer:List Env) (P:Program) (w:World) (H:Hp) (s:Shared) (Q:VK) (E:XK) (r:Result) (s':Shared):Prop:=
 match r with
 | .ok (.ret u)=>CE outer P w H s Q u s'
 | .ok _=>False
 | .error e=>CX outer H s E e s'
structure bh (P:Program) (w:World) (K:Fg) (mg:Str->Option Value) (base:Heap) (CX:nk) (k:Nat) (f:Addr) (fd:FuncData) (ps:List Str) (sp:Sp):Prop where
 len:∀ vs H Q E,sp vs H Q E->vs.length=ps.length
 run:∀ (A:Around) (outer:List Env) (s:Shared) (H:Hp) (args:Args) (us:List Value) (vs:List V) (Q:VK) (E:XK),cc k A->nc P w K mg base A outer s H->BindsTo s fd args (ps.zip us)->aT vs us->sp vs H Q E→
  codeAny (model P w) A (.call (.ref f) args) (CR CX outer P w H s Q E) s
theorem nc.make {P:Program} {w:World} {K:Fg} {mg:Str->Option Value} {base:Heap} {A:Around} {outer:List Env} {s:Shared} {H:Hp} (e:nc P w K mg base A outer s H) (C:Addr) (us:List Value) (kw:List (Str×Value)) :
  nc P w K mg base (A.under (.builtin "type.__call__" ⟨.ref C :: us,kw⟩)) outer s H:=⟨by first | exact e.frames | (simpa [Around.under,Code.envs,Code.isFrame,pushEnvs] using e.frames),e.mod,e.bs,e.bsz,e.funs,e.frf,e.hok,e.bare⟩
section
variable {X:Cx} {pins:bo} {σ:St} {H:Hp} {s s':Shared}
theorem Inv.env0 (I:Inv X pins σ H s):nc X.prog X.w X.K X.mg X.base X.A X.stack s H:=
 ⟨I.ok.frames,I.ok.mod,I.bs,Nat.le_trans I.ok.bsz I.sz,I.stack,I.stkFree,I.hok,I.bare⟩
theorem Inv.after {Q:VK} {u:Value} (I:Inv X pins σ H s) (h:CE X.stack X.prog X.w H s Q u s'):EP X pins σ Q u s':=by
 obtain⟨v,H',os,bare,un,hok,r,q⟩:=h
 obtain⟨hh,g,d,t,os'⟩:=s'
 obtain rfl:os'=s.os:=os
 exact⟨v,H',I.call (h':=hh) (g':=g) (d':=d) (t':=t) (ch:=[]) un hok bare (fun b z=>absurd z (by simp)),r,q⟩
end
def rW (sp:Sp) (dvs:List V) (E:XK) (t:TA):TE:=fun σ H Q=>t σ H fun vs H1=>sp (vs++dvs) H1 Q E
def EV (C:Addr) (m:Str) (sp:Sp) (dvs:List V) (E:XK) (ta:TE) (t:TA):TE:=fun σ H Q=>ta σ H fun x H1=>∃ a dx fs,x=.ref a/\H1 a=some (.ins C dx fs)/\fs.lookup m=none∧
 t σ H1 fun vs H2=>sp (x :: (vs++dvs)) H2 Q E
def EW (C:Addr) (sp:Sp) (dvs:List V) (E:XK) (t:TA):TE:=fun σ H Q=>t σ H fun vs H1=>∀ x dx,H1 x=none->H1 dx=none->dx≠x→
 sp (.ref x :: (vs++dvs)) (upd (upd H1 dx (.own x)) x (.ins C dx [])) (fun v H2=>v=.non/\Q (.ref x) H2) E
def aS (K:Fg) (fd:FuncData) (ps:List Str) (ds:List Value):Prop:=
 ∀ (s:Shared) (us:List Value),K.In s.heap->(us++ds).length=ps.length->BindsTo s fd ⟨us,[]⟩ (ps.zip (us++ds))
theorem aS.all {K:Fg} {fd:FuncData} {ps:List Str} (h:∀ us:List Value,us.length=ps.length->bindArgs fd ⟨us,[]⟩=pure (ps.zip us)):aS K fd ps []:=fun s us _ hl=>by
 rw [List.append_nil] at hl ⊢
 exact .of_eq (h us hl)
def jo (CX:nk) (X:Cx) (E:XK):Prop:=∀ (pins:bo) (σ:St) (H:Hp) (s:Shared) (e:Value) (s':Shared),Inv X pins σ H s->CX X.stack H s E e s'->X.xe e s'
section
variable {X:Cx} {CX:nk} {k:Nat} {f C:Addr} {fd:FuncData} {ps:List Str} {sp:Sp} {dvs:List V} {ds:List Value} {E:XK} {x m:Str} {p pos apos:Pos} {e o:Expr} {es:List Expr} {ta:TE} {t:TA}
theorem zt {pins:bo} {σ:St} {H:Hp} {s:Shared} {Q:VK} {us:List Value} {vs:List V} (F:bh X.prog X.w X.K X.mg X.base CX k f fd ps sp) (hr:cc k X.A) (hb:aS X.K fd ps ds) (hd:aT dvs ds) (hx:jo CX X E)
  (I:Inv X pins σ H s) (r:aT vs us) (h:sp (vs++dvs) H Q E):wpAny (model X.prog X.w) X.A (call (.ref f) us) (EP X pins σ Q) X.xe s:=by
 have r2:aT (vs++dvs) (us++ds):=r.append hd
 have hl:(us++ds).length=ps.length:=by rw [← r2.length];exact F.len _ _ _ _ h
 refine wpAny_call (codeAny_mono (F.run X.A X.stack s H ⟨us,[]⟩ (us++ds) (vs++dvs) Q E hr I.env0 (hb s us I.kIn hl) r2 h) fun r s' hq=>?_)
 cases r with
 | error e=>exact hx pins σ H s e s' I hq
 | ok fl=>
  cases fl with
  | ret u=>exact I.after hq
  | next=>exact False.elim hq
  | brk=>exact False.elim hq
  | cont=>exact False.elim hq
theorem wC (F:bh X.prog X.w X.K X.mg X.base CX k f fd ps sp) (hr:cc k X.A) (hg:Gl X x) (hm:X.mg x=some (.ref f)) (hk:PySem.W.keepIn X.K (.ref f)=true) (hb:aS X.K fd ps ds) (hd:aT dvs ds) (hx:jo CX X E)
  (ha:PA X (e :: es) t) (hdb:(x == ("__debug__" : Str))=false:=by decide) (he:starEach (e :: es) X.env=(false,eval e X.env) :: starEach es X.env:=by rfl) (hpl:(backTo pos (starEach es X.env)).any (·.1)=false:=by rfl) :
  PE X (.Call (.Name x p) (e :: es) [] pos) (rW sp dvs E t):=by
 intro pins s σ H Q I h
 refine wpAny_Call_Name_kw (ir I hg hm ?_ hdb)
 refine PySem.W.callWith_K (h₀:=X.base) I.ok.mod.kin hk (bF (ha pos pins s σ H _ I h) fun us s1 ⟨vs,H1,I1,r,q⟩=>⟨I1.kIn,?_⟩) he hpl
 exact zt F hr hb hd hx I1 r q
structure Mk (K:Fg) (C f:Addr):Prop where
 makes:PySem.W.makesIn K C=true
 init:PySem.W.findIn K (.ref C) "__init__" = some (some (.ref f))
 fn:PySem.W.isFn K (.ref f)=true
 kp:PySem.W.keepIn K (.ref C)=true
end
def PK (X:Cx) (kws:List Keyword) (t:TA):Prop:=
 ∀ (pos:Pos) (pins:bo) (s:Shared) (σ:St) (H:Hp) (Q:List V->Hp->Prop),Inv X pins σ H s->t σ H Q->wpAny (model X.prog X.w) X.A (evalAll ((backToKw pos (keywordEach kws X.env)).map (·.2))) (AP X pins σ Q) X.xe s
section
variable {X:Cx} {CX:nk} {k:Nat} {f C:Addr} {fd:FuncData} {ps ks:List Str} {sp:Sp} {E:XK} {x m:Str} {p pos apos kpos:Pos} {e o:Expr} {es:List Expr} {kws:List Keyword} {te ta:TE} {t tk:TA} {nm:Option Str}
structure EA (K:Fg) (fd:FuncData) (ps ks:List Str) (g:List Value->List Value->List Value) (gV:List V->List V->List V):Prop where
 to:∀ (s:Shared) (us ws:List Value),K.In s.heap->(g us ws).length=ps.length->BindsTo s fd ⟨us,ks.zip ws⟩ (ps.zip (g us ws))
 rel:∀ {vs:List V} {us:List Value} {zs:List V} {ws:List Value},aT vs us->aT zs ws->aT (gV vs zs) (g us ws)
def D7 (sp:Sp) (gV:List V->List V->List V) (E:XK) (t tk:TA):TE:=fun σ H Q=>t σ H fun vs H1=>tk σ H1 fun zs H2=>sp (gV vs zs) H2 Q E
variable {g:List Value->List Value->List Value} {gV:List V->List V->List V}
end
structure aF (N P:List Str) (sc:Scope):Prop where
 kind:sc.kind=.function
 co:sc.isCoroutine=false
 gen:sc.isGenerator=false
 nd:N.Nodup
 pre:N.take P.length=P
 par:∀ x∈P,sc.names.lookup x=some .local∨sc.names.lookup x=some .cell
 nofree:∀ y∈sc.names,y.2≠.free
theorem jW {kindOf:Str->Option NameKind} {x:Str}:∀ {binds:List (Str×Value)} {m:Str->Option Value},(∀ v,(x,v)∉binds)->bindL kindOf binds m x=m x
 | [],_,_=>rfl
 | (n,v) :: r,m,h=>by
  unfold bindL
  rw [jW fun w hw=>h w (List.mem_cons_of_mem _ hw)]
  split
  ·have:x≠n:=by rintro rfl;exact h v List.mem_cons_self
   simp [this]
  ·rfl
theorem jY {kindOf:Str->Option NameKind} {x:Str}:∀ {binds:List (Str×Value)} {m:Str->Option Value},(∀ v,(x,v)∉binds)->bindC kindOf binds m x=m x
 | [],_,_=>rfl
 | (n,v) :: r,m,h=>by
  unfold bindC
  rw [jY fun w hw=>h w (List.mem_cons_of_mem _ hw)]
  split
  ·rfl
  ·have:x≠n:=by rintro rfl;exact h v List.mem_cons_self
   simp [this]
theorem jX {kindOf:Str->Option NameKind} {x:Str} {v:Value}:∀ {P:List Str} {vs:List Value} {i:Nat} {m:Str->Option Value},P.Nodup->P[i]?=some x->vs[i]?=some v->kindOf x=some .local→
  bindL kindOf (P.zip vs) m x=some v
 | [],_,_,_,_,h,_,_=>by simp at h
 | _ :: _,[],_,_,_,_,h,_=>by simp at h
 | p :: P,w :: vs,0,m,nd,h1,h2,hk=>by
  simp at h1 h2;subst h1;subst h2
  show bindL kindOf ((p,w) :: P.zip vs) m p=_
  unfold bindL
  rw [jW fun v hv=>(List.nodup_cons.mp nd).1 (List.of_mem_zip hv).1,if_pos hk]
  simp
 | p :: P,w :: vs,i+1,m,nd,h1,h2,hk=>by
  show bindL kindOf ((p,w) :: P.zip vs) m x=_
  unfold bindL
  exact jX (i:=i) (List.nodup_cons.mp nd).2 (by simpa using h1) (by simpa using h2) hk
theorem jZ {kindOf:Str->Option NameKind} {x:Str} {v:Value}:∀ {P:List Str} {vs:List Value} {i:Nat} {m:Str->Option Value},P.Nodup->P[i]?=some x->vs[i]?=some v->kindOf x≠some .local→
  bindC kindOf (P.zip vs) m x=some v
 | [],_,_,_,_,h,_,_=>by simp at h
 | _ :: _,[],_,_,_,_,h,_=>by simp at h
 | p :: P,w :: vs,0,m,nd,h1,h2,hk=>by
  simp at h1 h2;subst h1;subst h2
  show bindC kindOf ((p,w) :: P.zip vs) m p=_
  unfold bindC
  rw [jY fun v hv=>(List.nodup_cons.mp nd).1 (List.of_mem_zip hv).1,if_neg hk]
  simp
 | p :: P,w :: vs,i+1,m,nd,h1,h2,hk=>by
  show bindC kindOf ((p,w) :: P.zip vs) m x=_
  unfold bindC
  exact jZ (i:=i) (List.nodup_cons.mp nd).2 (by simpa using h1) (by simpa using h2) hk
def fU (N:List Str) (vs:List V):St:=vs.map some++List.replicate (N.length - vs.length) none
def bx (CX:nk) (P:Program) (w:World) (K:Fg) (mg:Str->Option Value) (base:Heap) (N:List Str) (qual:Str) (scope:Scope) (f:Addr) (cd:Value) (A:Around) (outer:List Env) (s:Shared) (H:Hp) (E:XK):Cx where
 prog:=P
 w:=w
 K:=K
 mg:=mg
 base:=base
 A:=A.deeper (envOfC qual scope s.heap.objs.size f cd)
 N:=N
 s₀:=s
 H₀:=H
 env:=envOfC qual scope s.heap.objs.size f cd
 outer:=outer
 stack:=envOfC qual scope s.heap.objs.size f cd :: outer
 ex:=[]
 calm:=true
 fn:=fun _=>true
 pn:=[]
 xe:=fun e s'=>wpAny (model P w) (A.deeper (envOfC qual scope s.heap.objs.size f cd)) (leaving (envOfC qual scope s.heap.objs.size f cd) e) (fun _ s''=>CX outer H s E e s'') (fun e' s''=>CX outer H s E e' s'') s'
theorem mZ {sc:Scope} {n:Nat} {x:Str} (h:sc.names.lookup x=some .cell):∃ c,(cellsFrom n sc.names []).lookup x=some c:=by
 have q:=PySem.W.cellsFrom_some sc.names n [] (.inl h)
 exact Option.isSome_iff_exists.mp q
theorem qG {CX:nk} {P:Program} {w:World} {K:Fg} {mg:Str->Option Value} {base:Heap} {N ps:List Str} {qual:Str} {scope:Scope} {f:Addr} {cd:Value} {A:Around} {outer:List Env} {s s1:Shared} {H:Hp} {E:XK} {us:List Value} {vs:List V}
  (S:aF N ps scope) (hd:A.handled=none) (e0:nc P w K mg base A outer s H) (hl:vs.length=ps.length) (r:aT vs us)
  (x:InCallC s s.heap.objs.size (bindL (envOfC qual scope s.heap.objs.size f cd).kindOf (ps.zip us) fun _=>none) (cellsFrom (s.heap.objs.size+1) scope.names []) (bindC (envOfC qual scope s.heap.objs.size f cd).kindOf (ps.zip us) fun _=>none) s1) :
  Inv (bx CX P w K mg base N qual scope f cd A outer s H E) [] (fU N vs) H s1:=by
 have hpl:ps.length≤N.length:=by have:=congrArg List.length S.pre;rw [List.length_take] at this;omega
 obtain⟨h1,tk,rfl,hk⟩:=x.done
 have noA:∀ b:Addr,b∉(bx CX P w K mg base N qual scope f cd A outer s H E).ex:=fun b z=>absurd (show b∈([]:List Addr) from z) (by simp)
 refine⟨⟨e0.mod,S.kind,rfl,rfl,Nat.le_refl _,fun y z c h1 h2=>?_,fun y hy=>?_,fun y c _ h=>?_,fun _=>hd,Around.frames_deeper e0.frames,.inr ⟨rfl,rfl⟩,fun b z=>absurd z (noA b),e0.bs,e0.bsz,fun b _ _=>noA b,fun b z=>absurd z (noA b),e0.funs,e0.frf⟩,
  rfl,e0.bare,Un.kept hk,⟨_,x.toInCall.ns,fun i y v h1 h2 h3=>?_⟩,fun y c h=>⟨_,x.cell y c h⟩,e0.hok.fresh (Nat.le_refl _),fun y c h=>?_,fun p hp=>absurd (show p∈([]:bo) from hp) (by simp),e0.hok.kept hk,?_⟩
 ·exact name_of_addr x.apart (PySem.mem_of_lookup h1) (PySem.mem_of_lookup h2)
 ·have hy:scope.names.lookup y=some .cell∨scope.names.lookup y=some .free:=hy
  rcases hy with hy | hy
  ·exact mZ hy
  ·exact absurd rfl (S.nofree _ (PySem.mem_of_lookup hy))
 ·exact Nat.le_of_lt (x.above y c (PySem.mem_of_lookup h))
 ·have hi:i < vs.length:=by
   unfold fU at h2
   by_cases hi:i < vs.length
   ·exact hi
   ·rw [List.getElem?_append_right (by simpa using hi)] at h2
    rw [List.getElem?_replicate] at h2
    split at h2 <;> cases h2
  have ha:vs[i]?=some v:=by
   unfold fU at h2
   rw [List.getElem?_append_left (by simpa using hi),List.getElem?_map] at h2
   cases e:vs[i]? with
   | none=>rw [e] at h2;cases h2
   | some a=>rw [e] at h2;cases h2;rfl
  obtain⟨u,hu,rv⟩:=r.get ha
  have hp:ps[i]?=some y:=by
   rw [← S.pre,List.getElem?_take_of_lt (by omega)];exact h1
  have ndP:ps.Nodup:=by rw [← S.pre];exact S.nd.sublist (List.take_sublist _ _)
  refine⟨u,rv,?_⟩
  rcases S.par y (List.mem_of_getElem? hp) with k | k
  ·exact .inl ⟨k,jX ndP hp hu k⟩
  ·obtain⟨c,e⟩:=mZ (n:=s.heap.objs.size+1) k
   refine .inr ⟨.inl k,c,e,?_⟩
   have q:=x.cell y c e
   rw [jZ ndP hp hu (by show scope.names.lookup y≠_;rw [k];decide)] at q
   exact q
 ·exact e0.hok.fresh (Nat.le_of_lt (x.above y c (PySem.mem_of_lookup h)))
 ·unfold fU
  show _=N.length
  rw [List.length_append,List.length_map,List.length_replicate]
  omega
theorem yw {CX:nk} {P:Program} {w:World} {K:Fg} {mg:Str->Option Value} {base:Heap} {k:Nat} {f:Addr} {name qual:Str} {params:Arguments} {body:List Stmt} {scope:Scope} {dV kV doc pm cdv ct oc:Value} {an od:Option Addr}
  {osl:Array (Option Value)} {N ps:List Str} {sp:Sp} (lk:K.lookup f=some ⟨oc,od,.func (PySem.W.fnOf name qual params body scope dV kV doc pm an cdv ct),osl⟩) (hcd:PySem.W.codeIn K cdv qual=true) (S:aF N ps scope)
  (len:∀ vs H Q E,sp vs H Q E->vs.length=ps.length)
  (hbody:∀ (A:Around) (outer:List Env) (s:Shared) (H:Hp) (vs:List V) (Q:VK) (E:XK),cc k (A.deeper (envOfC qual scope s.heap.objs.size f cdv))->sp vs H Q E→
   ∃ t,lD (bx CX P w K mg base N qual scope f cdv A outer s H E) body t/\t { nx:=fun _ H'=>Q .non H',rt:=Q } (fU N vs) H) :
  bh P w K mg base CX (k+1) f (PySem.W.fnOf name qual params body scope dV kV doc pm an cdv ct) ps sp:=by
 refine⟨len,fun A outer s H args us vs Q E hr e0 hb r hsp=>?_⟩
 have hl:=len _ _ _ _ hsp
 have KX:K.In s.heap:=e0.mod.kin.keeps fun b o e=>(e0.bs b o e).1
 have lim:s.heap.NoLimit:=e0.mod.nolimit.keeps fun b o e=>(e0.bs b o e).1
 have hkind:∀ y∈ps.zip us,scope.names.lookup y.1=some .local∨(scope.names.lookup y.1=some .cell/\((cellsFrom (s.heap.objs.size+1) scope.names []).lookup y.1).isSome=true):=fun⟨n,v⟩ hy=>by
  rcases S.par n (List.of_mem_zip hy).1 with q | q
  ·exact .inl q
  ·exact .inr ⟨q,PySem.W.cellsFrom_some _ _ _ (.inl q)⟩
 refine codeAny_call_function hr.depth (KX _ _ lk) rfl S.co S.gen rfl (PySem.W.codeRec_of KX hcd) (hb _ _ _ _ ?_)
 refine wpAny_newFunctionEnv_cells S.kind hkind fun env he s1 x=>?_
 subst he
 refine⟨lim.keeps x.toInCall.keep,codeAny_func ?_⟩
 obtain⟨t,ht,hq⟩:=hbody A outer s H vs Q E (hr.deeper _) hsp
 have I:Inv (bx CX P w K mg base N qual scope f cdv A outer s H E) [] (fU N vs) H s1:=qG S hr.hd e0 hl r x
 refine wpAny_mono (ht [] s1 (fU N vs) H _ I hq) (fun fl s' hs=>?_) fun e s' hs=>hs
 have fin:∀ {σ':St} {H':Hp} {v:V} {u:Value},Inv (bx CX P w K mg base N qual scope f cdv A outer s H E) [] σ' H' s'->aU v u->Q v H'->CE outer P w H s Q u s':=
  fun {σ' H' v u} J rv q=>⟨v,H',J.os,J.bare,J.base,J.hok,rv,q⟩
 cases fl with
 | ret u=>
  obtain⟨v,σ',H',J,rv,q⟩:=hs
  exact fin J rv q
 | next=>
  obtain⟨σ',H',J,q⟩:=hs
  exact fin (v:=V.non) (u:=Value.none) J rfl q
 | brk=>
  obtain⟨_,_,_,q⟩:=hs
  exact False.elim q
 | cont=>
  obtain⟨_,_,_,q⟩:=hs
  exact False.elim q
end L2
namespace L2
open PySem PySem.Spec PyProof.Rows
section
variable {X:Cx} {x:Str} {p pos:Pos} {e:Expr} {es:List Expr} {t:TA} {id T:String} {r:List V->Hp->VK->Prop}
def Dr (r:List V->Hp->VK->Prop) (t:TA):TE:=fun σ H Q=>t σ H fun vs H1=>r vs H1 Q
theorem uj (hc:b8 X (.builtin id) r) (hg:Gl X x) (hm:X.mg x=none) (hv:bootBuiltins x=some (.builtin id)) (ha:PA X (e :: es) t) (hn:x ≠ "__name__" := by decide) (hdb:(x == ("__debug__" : Str))=false:=by decide)
  (he:starEach (e :: es) X.env=(false,eval e X.env) :: starEach es X.env:=by rfl) (hpl:(backTo pos (starEach es X.env)).any (·.1)=false:=by rfl):PE X (.Call (.Name x p) (e :: es) [] pos) (Dr r t):=by
 intro pins s σ H Q I h
 refine wpAny_Call_Name_kw (eU I hg hm hv ?_ hn hdb)
 exact PyProof.Rows.callWith_builtin1 (bF (ha pos pins s σ H _ I h) fun us s1 ⟨vs,H1,I1,r1,q1⟩=>hc pins s1 σ H1 vs us Q I1 r1 q1) he hpl
theorem qm (hc:b8 X (.type T) r) (hg:Gl X x) (hm:X.mg x=none) (hv:bootBuiltins x=some (.type T)) (ha:PA X (e :: es) t) (hn:x ≠ "__name__" := by decide) (hdb:(x == ("__debug__" : Str))=false:=by decide)
  (he:starEach (e :: es) X.env=(false,eval e X.env) :: starEach es X.env:=by rfl) (hpl:(backTo pos (starEach es X.env)).any (·.1)=false:=by rfl):PE X (.Call (.Name x p) (e :: es) [] pos) (Dr r t):=by
 intro pins s σ H Q I h
 refine wpAny_Call_Name_kw (eU I hg hm hv ?_ hn hdb)
 exact PyProof.Rows.callWith_type1 (bF (ha pos pins s σ H _ I h) fun us s1 ⟨vs,H1,I1,r1,q1⟩=>hc pins s1 σ H1 vs us Q I1 r1 q1) he hpl
end
end L2
namespace HT
open PySem PyProof.Rows
def lexLt:List Int->List Int->Bool
 | [],[]=>false
 | [],_ :: _=>true
 | _ :: _,[]=>false
 | x :: xs,y :: ys=>if x=y then lexLt xs ys else decide (x < y)
section
open PySem.SeqAt
open PySem.AutoSeq1 (wpAny_loadPart')
open PySem.MeetsSeq PySem.MeetsSeq2 PySem.MeetsSeq3
end
section
variable {prog:Program} {w:World} {A:Around} {E:bu} {s:Shared}
theorem cat_tup {t b:Addr} {vs ws:List Value} {Q:bu} (ht:IsTup s.heap t vs.toArray) (hb:IsTup s.heap b ws.toArray) (hv:vs≠[])
  (h1:ws=[]->Q (.ref t) s) (h2:ws≠[]->Q (.ref s.heap.objs.size) { s with heap:=s.heap.push { cls:=.type "tuple", data:=.seq (vs++ws).toArray } })
  (hsz:vs.length+ws.length≤sizeLine):wpAny (model prog w) A (binaryOp .Add (.ref t) (.ref b)) Q E s:=by
 obtain⟨⟨cls,dd,data,sl⟩,ho,hc,n,hd⟩:=id ht
 obtain⟨⟨cls2,dd2,data2,sl2⟩,ho2,hc2,n2,hd2⟩:=id hb
 simp only at hc hd hc2 hd2
 subst hc hd hc2 hd2
 have e:vs.toArray++ws.toArray=(vs++ws).toArray:=by simp
 by_cases hw:ws=[]
 ·exact concat_meets ⟨_,ho,rfl⟩ ⟨_,ho2,rfl⟩ noFill_tuple_add seq_tuple_add PySem.F.slot_tuple_add PySem.F.entry_tuple_add (PySem.F.args_tuple_add_2 _ _)
   (tuple_addW1 t b vs.toArray ws.toArray n n2 dd dd2 sl sl2 (by simpa using hv) (by simp [hw])) ⟨ho,ho2,h1 hw⟩
 ·refine concat_meets ⟨_,ho,rfl⟩ ⟨_,ho2,rfl⟩ noFill_tuple_add seq_tuple_add PySem.F.slot_tuple_add PySem.F.entry_tuple_add (PySem.F.args_tuple_add_2 _ _)
   (tuple_addW2 t b vs.toArray ws.toArray n n2 dd dd2 sl sl2 (by simpa using hv) (by simpa using hw) (by rw [List.size_toArray,List.size_toArray];exact hsz)) ⟨ho,ho2,?_⟩
  rw [e]
  exact h2 hw
def sIx (n d:Nat):Option Int->Nat
 | none=>d
 | some v=>if v < 0 then (v+(n:Int)).toNat else min v.toNat n
theorem sIx_none (n d:Nat):sIx n d none=d:=rfl
theorem sIx_nat (n d k:Nat):sIx n d (some (k:Int))=min k n:=by
 show (if (k:Int) < 0 then ((k:Int)+(n:Int)).toNat else min (k:Int).toNat n)=min k n
 rw [if_neg (by omega),Int.toNat_natCast]
theorem zq (n d:Nat) (hd:d≤n) (o:Option Int):sIx n d o≤n:=by
 cases o with
 | none=>exact hd
 | some v=>
  show (if v < 0 then (v+(n:Int)).toNat else min v.toNat n)≤n
  by_cases hv:v < 0
  ·rw [if_pos hv];omega
  ·rw [if_neg hv];exact Nat.min_le_right _ _
theorem pG (v:Int) (n d:Nat):(if v < 0 then max (v+(n:Int)) 0 else min v (n:Int))=((sIx n d (some v):Nat):Int):=by
 show (if v < 0 then max (v+(n:Int)) 0 else min v (n:Int))=(((if v < 0 then (v+(n:Int)).toNat else min v.toNat n):Nat):Int)
 by_cases hv:v < 0
 ·simp only [if_pos hv];omega
 ·simp only [if_neg hv];omega
theorem ou (lo hi:Option Int) (n:Nat):Builtin.Slice.sliceAdjust lo hi 1 (n:Int)=(((sIx n 0 lo:Nat):Int),((sIx n n hi:Nat):Int)):=by
 have h1:¬ ((1:Int) < 0):=by omega
 unfold Builtin.Slice.sliceAdjust
 simp only [h1,if_false]
 refine Prod.ext ?_ ?_
 ·cases lo with
  | none=>rfl
  | some v=>exact pG v n 0
 ·cases hi with
  | none=>rfl
  | some v=>exact pG v n n
theorem nR (i j:Nat):Builtin.Slice.slicePlaces (i:Int) (j:Int) 1=j - i:=by
 unfold Builtin.Slice.slicePlaces
 have h1:(1:Int) > 0:=by omega
 simp only [h1,if_true,Int.ediv_one]
 split <;> omega
theorem fF {v:Value} {o:Option Int} {Q:Option Int->Shared->Prop} (p:IsPart v o) (h:Q o s):wpAny (model prog w) A (Builtin.Slice.slicePartIndex v) Q E s:=by
 cases p with
 | none=>exact slicePart_none h
 | int i t=>exact slicePart_int h
theorem dS {sl:Addr} {vl vu:Value} {lo hi:Option Int} {n:Nat} {Q:Int×Int×Nat->Shared->Prop} (hs:s.heap.IsSliceOf sl vl vu .none) (pl:IsPart vl lo) (pu:IsPart vu hi)
  (h:Q (((sIx n 0 lo:Nat):Int),1,sIx n n hi - sIx n 0 lo) s):wpAny (model prog w) A (Builtin.Slice.sliceApplied (.ref sl) (pure (n:Int))) Q E s:=by
 obtain⟨os,hos,hcs,hds⟩:=id hs
 unfold Builtin.Slice.sliceApplied Builtin.Slice.sliceFields
 refine wpAny_bind (wpAny_bind (wpAny_field hos hds (x:=vl) rfl (wpAny_bind (wpAny_field hos hds (x:=vu) rfl (wpAny_bind (wpAny_field hos hds (x:=.none) rfl (wpAny_pure ?_)))))))
 refine wpAny_bind (slicePart_none ?_)
 show wpAny _ _ (if ((1:Int) == 0)=true then _ else _) _ _ s
 rw [if_neg (by decide)]
 refine wpAny_bind (fF pl (wpAny_bind (fF pu (wpAny_bind (wpAny_pure ?_)))))
 show wpAny _ _ (match Builtin.Slice.sliceAdjust lo hi 1 (n:Int) with | (lo,hi)=>pure (lo,(1:Int),Builtin.Slice.slicePlaces lo hi 1)) _ _ s
 rw [ou lo hi n]
 show wpAny _ _ (pure (((sIx n 0 lo:Nat):Int),(1:Int),Builtin.Slice.slicePlaces ((sIx n 0 lo:Nat):Int) ((sIx n n hi:Nat):Int) 1)) _ _ s
 rw [nR]
 exact wpAny_pure h
theorem tX (xs:Array Value) (i k:Nat):((List.range k).filterMap fun (m:Nat)=>xs[((i:Int)+(m:Int) * 1).toNat]?).toArray=((xs.toList.drop i).take k).toArray:=by
 have e:(fun (m:Nat)=>xs[((i:Int)+(m:Int) * 1).toNat]?)=fun m=>xs[i+m]?:=by
  funext m
  have:((i:Int)+(m:Int) * 1).toNat=i+m:=by omega
  rw [this]
 rw [e]
 have:=pick_run xs i k
 rw [List.filterMap_map] at this
 have e2:((fun x=>xs[x]?) ∘ fun x=>i+x)=fun m=>xs[i+m]?:=rfl
 rw [e2] at this
 rw [this]
theorem getItem_tuple_cut {t sl:Addr} {items:Array Value} {vl vu:Value} {lo hi:Option Int} {Q:bu} (ht:IsTup s.heap t items) (hs:s.heap.IsSliceOf sl vl vu .none) (pl:IsPart vl lo) (pu:IsPart vu hi)
  (hw:¬ (sIx items.size 0 lo=0/\sIx items.size items.size hi=items.size))
  (h:Q (.ref s.heap.objs.size) { s with heap:=s.heap.push { cls:=.type "tuple", data:=.seq ((items.toList.drop (sIx items.size 0 lo)).take (sIx items.size items.size hi - sIx items.size 0 lo)).toArray } })
  (hsz:items.size≤sizeLine):wpAny (model prog w) A (getItem (.ref t) (.ref sl)) Q E s:=by
 have htake:sizeOk (.seq ((items.toList.drop (sIx items.size 0 lo)).take (sIx items.size items.size hi - sIx items.size 0 lo)).toArray):=by
  show ((items.toList.drop (sIx items.size 0 lo)).take (sIx items.size items.size hi - sIx items.size 0 lo)).toArray.size≤sizeLine
  rw [List.size_toArray,List.length_take,List.length_drop,Array.length_toList]
  omega
 have hj:sIx items.size items.size hi≤items.size:=zq _ _ (Nat.le_refl _) hi
 obtain⟨os,hos,hcs,hds⟩:=id hs
 have hTs:s.TypeIs (.ref sl) "slice" := ⟨os,hos,hcs⟩
 unfold getItem
 try with_reducible refine wpAny_holding ?_
 first | refine wpAny_bind (wpAny_pure ?_) | skip
 refine wpAny_bind (wpAny_sequenceKey ht.typeIs (by decide) ?_)
 refine wpAny_bind (wpAny_callSpecial?_slot (name:=Str.ofString "__getitem__") ht.typeIs PyProof.Rows.slot_tuple_getitem
  (wpAny_call_entry PyProof.Rows.slot_tuple_getitem ht.typeIs entry_tuple_getitem ?_ (args_tuple_getitem _ _)))
 show wpAny _ _ (Builtin.Tuple.tupleItemsOf (.ref t) >>= _) _ _ s
 refine wpAny_bind (tupleItemsOf_ ht ?_)
 refine wpAny_bind (wpAny_typeOf hTs ?_)
 rw [if_pos (by decide)]
 refine wpAny_bind (dS hs pl pu ?_)
 have hno:¬ ((((sIx items.size 0 lo:Nat):Int) == 0 && (1:Int) == 1 && (sIx items.size items.size hi - sIx items.size 0 lo) == items.size)=true):=by
  intro q
  rw [Bool.and_eq_true,Bool.and_eq_true] at q
  have q1:((sIx items.size 0 lo:Nat):Int)=0:=eq_of_beq q.1.1
  have q2:sIx items.size items.size hi - sIx items.size 0 lo=items.size:=eq_of_beq q.2
  exact hw ⟨by omega,by omega⟩
 show wpAny _ _ (if (((sIx items.size 0 lo:Nat):Int) == 0 && (1:Int) == 1 && (sIx items.size items.size hi - sIx items.size 0 lo) == items.size)=true then _ else _) _ _ s
 rw [if_neg hno,tX]
 first
  | exact wpAny_bind (m:=Builtin.Tuple.tupleExact _) (wpAny_newObj_type (wpAny_pure ⟨_,rfl,wpAny_pure h⟩) htake)
  | exact wpAny_bind (m:=Builtin.Tuple.tupleExact _) (wpAny_newObj_type (wpAny_bind (wpAny_pure (wpAny_pure ⟨_,rfl,wpAny_pure h⟩))) htake)
  | exact wpAny_bind (wpAny_bind (m:=Builtin.Tuple.tupleExact _) (wpAny_newObj_type (wpAny_pure (wpAny_pure ⟨_,rfl,wpAny_pure h⟩)) htake))
  | exact wpAny_bind (wpAny_bind (m:=Builtin.Tuple.tupleExact _) (wpAny_newObj_type (wpAny_pure ⟨_,rfl,wpAny_pure h⟩) htake))
end
end HT
namespace L2
open PySem PySem.Spec PyProof.Rows
abbrev TO:=St->Hp->(Option Int->Hp->Prop)->Prop
def PO (X:Cx) (e:Option Expr) (t:TO):Prop:=
 ∀ (pins:bo) (s:Shared) (σ:St) (H:Hp) (Q:Option Int->Hp->Prop),Inv X pins σ H s->t σ H Q→
  wpAny (model X.prog X.w) X.A (evalPart e X.env) (fun u s'=>∃ o H',Inv X pins σ H' s'/\IsPart u o/\Q o H') X.xe s
def oI:TO:=fun _ H Q=>Q none H
def xQ (t:TE):TO:=fun σ H Q=>t σ H fun x H1=>∃ i,x=.int i/\Q (some i) H1
theorem ol {ns:List Int}:∀ {us:List Value},aT (ns.map V.int) us->IntsAre us ns:=by
 induction ns with
 | nil=>intro us r;rw [List.map_nil] at r;cases r;exact .nil
 | cons n ns ih=>
  intro us r
  rw [List.map_cons] at r
  cases r with
  | cons r1 r2=>
   obtain⟨t,e⟩:=r1
   subst e
   exact .cons n t (ih r2)
section
variable {X:Cx} {e:Expr} {te:TE} {lo hi:Option Expr} {tl th:TO} {pos p2:Pos}
theorem wc:PO X none oI:=by
 intro pins s σ H Q I h
 rw [evalPart_none]
 exact wpAny_pure ⟨none,H,I,.none,h⟩
theorem v9 (h:PE X e te):PO X (some e) (xQ te):=by
 intro pins s σ H Q I hw
 rw [evalPart_some]
 refine bF (h pins s σ H _ I hw) fun u s1 ⟨x,H1,I1,r1,q1⟩=>?_
 obtain⟨i,rfl,q⟩:=q1
 obtain⟨t,rfl⟩:=r1
 exact⟨some i,H1,I1,.int i t,q⟩
def rD (X:Cx) (r:V->Option Int->Option Int->Hp->VK->Prop):Prop:=
 ∀ (pins:bo) (s:Shared) (σ:St) (H:Hp) (x:V) (v vl vu:Value) (lo hi:Option Int) (sl:Addr) (Q:VK),Inv X pins σ H s->aU x v->s.heap.IsSliceOf sl vl vu .none->IsPart vl lo->IsPart vu hi->r x lo hi H Q→
  ∃ T id,typeLookup (.type T) "__getitem__" = pure (some (.builtin id))/\s.TypeIs v T/\wpAny (model X.prog X.w) X.A (getItem v (.ref sl)) (EP X pins σ Q) X.xe s
theorem rD.or {r r':V->Option Int->Option Int->Hp->VK->Prop} (h:rD X r) (h':rD X r'):rD X (fun x lo hi H Q=>r x lo hi H Q∨r' x lo hi H Q):=by
 intro pins s σ H x v vl vu lo hi sl Q I rx hs pl pu q
 rcases q with q | q
 ·exact h pins s σ H x v vl vu lo hi sl Q I rx hs pl pu q
 ·exact h' pins s σ H x v vl vu lo hi sl Q I rx hs pl pu q
def EO (r:V->Option Int->Option Int->Hp->VK->Prop) (te:TE) (tl th:TO):TE:=fun σ H Q=>te σ H fun x H1=>tl σ H1 fun l H2=>th σ H2 fun u H3=>r x l u H3 Q
theorem ud {r:V->Option Int->Option Int->Hp->VK->Prop} (hr:rD X r) (he:PE X e te) (hl:PO X lo tl) (hu:PO X hi th):PE X (.Subscript e (.Slice lo hi none p2) pos) (EO r te tl th):=by
 intro pins s σ H Q I h
 refine Subscript_ (bF (he pins s σ H _ I h) fun v s1 ⟨x,H1,I1,r1,q1⟩=>?_)
 refine wpAny_Slice (bF (hl pins s1 σ H1 _ I1 q1) fun vl s2 ⟨l,H2,I2,pl,q2⟩=>bF (hu pins s2 σ H2 _ I2 q2) fun vu s3 ⟨u,H3,I3,pu,q3⟩=>?_)
 rw [evalPart_none]
 refine wpAny_pure ?_
 have I4:Inv X pins σ H3 { s3 with heap:=s3.heap.push { cls:=.type "slice", data:=.fields #[vl,vu,.none] } }:=I3.kept (t':=s3.toks) fun b ob q=>Heap.get?_push_of_some _ q
 obtain⟨T,id,hT,ht,hg⟩:=hr pins { s3 with heap:=s3.heap.push { cls:=.type "slice", data:=.fields #[vl,vu,.none] } } σ H3 x v vl vu l u s3.heap.objs.size Q I4 r1 (Heap.IsSliceOf.new ..) pl pu q3
 show wpAny (model X.prog X.w) X.A (subscriptTail e (.Slice lo hi none p2) v (.ref s3.heap.objs.size)) (EP X pins σ Q) X.xe { s3 with heap:=s3.heap.push { cls:=.type "slice", data:=.fields #[vl,vu,.none] } }
 exact tail_any (ops:=[.ref s3.heap.objs.size,v]) ht hT hg (by with_unfolding_all rfl)
def dw (xs:List V) (lo hi:Option Int):List V:=(xs.drop (HT.sIx xs.length 0 lo)).take (HT.sIx xs.length xs.length hi - HT.sIx xs.length 0 lo)
theorem hG (xs:List V) (lo hi:Option Int):(dw xs lo hi).length≤xs.length:=by
 unfold dw
 rw [List.length_take,List.length_drop]
 omega
def BX (K:Fg):V->Option Int->Option Int->Hp->VK->Prop:=fun x lo hi H Q=>∃ a xs,x=.ref a/\aV K H a xs∧
 ¬ (HT.sIx xs.length 0 lo=0/\HT.sIx xs.length xs.length hi=xs.length)/\∀ p,H p=none->Q (.ref p) (upd H p (.tup (dw xs lo hi)))
theorem yU:rD X (BX X.K):=by
 intro pins s σ H x v vl vu lo hi sl Q I rx hs pl pu h
 obtain⟨a,xs,rfl,hx,hw,q⟩:=h
 cases rx
 obtain⟨its,r,ht,hz⟩:=I.tuple hx
 have hlen:its.toArray.size=xs.length:=by rw [List.size_toArray];exact r.length.symm
 refine⟨"tuple", _,PyProof.Rows.slot_tuple_getitem.lookup,ht.typeIs,?_⟩
 refine HT.getItem_tuple_cut ht hs pl pu (by rw [hlen];exact hw) ?_ (by rw [hlen];exact hz)
 rw [hlen]
 refine⟨.ref s.heap.objs.size,_,I.laid (t':=s.toks) (o:=.tup (dw xs lo hi)) (fun b ob q=>Heap.get?_push_of_some _ q) (Nat.le_refl _) ?_,rfl,q _ (I.hok.fresh (Nat.le_refl _))⟩
 exact⟨Nat.le_trans (hG xs lo hi) hz,_,(r.drop (HT.sIx xs.length 0 lo)).take (HT.sIx xs.length xs.length hi - HT.sIx xs.length 0 lo),IsTup.new _ _⟩
def FY (K:Fg):R2:=fun x y H Q=>∃ a b ns ms,x=.ref a/\y=.ref b/\aV K H a (ns.map V.int)/\aV K H b (ms.map V.int)/\Q (.bl (HT.lexLt ns ms)) H
def Ck (K:Fg):R2:=fun x y H Q=>∃ a b xs ys,x=.ref a/\y=.ref b/\aV K H a xs/\aV K H b ys/\xs≠[]/\xs.length+ys.length≤sizeLine∧
 (ys=[]->Q (.ref a) H)/\(ys≠[]->∀ p,H p=none->Q (.ref p) (upd H p (.tup (xs++ys))))
theorem aT.nil_iff {xs:List V} {us:List Value} (r:aT xs us):us=[]↔xs=[]:=by
 cases r with
 | nil=>simp
 | cons _ _=>simp
theorem wL:dN X (binaryOp .Add) (Ck X.K):=by
 intro pins s σ H x y v u Q I rx ry h
 obtain⟨a,b,xs,ys,rfl,rfl,ha,hb,hx,hz,q1,q2⟩:=h
 cases rx
 cases ry
 obtain⟨its,r1,p1,_⟩:=I.tuple ha
 obtain⟨its2,r2,p2,_⟩:=I.tuple hb
 refine HT.cat_tup p1 p2 (fun z=>hx (r1.nil_iff.mp z)) (fun z=>⟨.ref a,H,I,rfl,q1 (r2.nil_iff.mp z)⟩) (fun z=>?_) (by rw [← r1.length,← r2.length];exact hz)
 refine⟨.ref s.heap.objs.size,_,I.laid (t':=s.toks) (o:=.tup (xs++ys)) (fun b ob q=>Heap.get?_push_of_some _ q) (Nat.le_refl _) ?_,rfl,q2 (fun w=>z (r2.nil_iff.mpr w)) _ (I.hok.fresh (Nat.le_refl _))⟩
 exact⟨by rw [List.length_append];exact hz,_,r1.append r2,IsTup.new _ _⟩
end
end L2
namespace L2
open PySem PySem.Spec PyProof.Rows
def wU (n:Nat) (i:Int):Option Nat:=if 0≤i then (if i < n then some i.toNat else none) else if -(n:Int)≤i then some (i+n).toNat else none
def pJ {α:Type} (xs:List α) (i:Int):Option α:=(wU xs.length i).bind fun j=>xs[j]?
theorem o7 {n:Nat} {i:Int} {j:Nat} (h:wU n i=some j):seqIndex? i n=some j/\j < n/\-(n:Int)≤i/\i < n:=by
 unfold wU at h
 by_cases h0:0≤i
 ·rw [if_pos h0] at h
  by_cases h1:i < n
  ·rw [if_pos h1] at h
   have e:i.toNat=j:=Option.some.inj h
   exact⟨by rw [seqIndex_of h0 h1,e],by omega,by omega,h1⟩
  ·rw [if_neg h1] at h;cases h
 ·rw [if_neg h0] at h
  by_cases h1:-(n:Int)≤i
  ·rw [if_pos h1] at h
   have e:(i+n).toNat=j:=Option.some.inj h
   exact⟨by rw [seqIndex_neg (by omega) h1,e],by omega,h1,by omega⟩
  ·rw [if_neg h1] at h;cases h
theorem pI {α:Type} {xs:List α} {i:Int} {v:α} (h:pJ xs i=some v):∃ j,seqIndex? i xs.length=some j/\xs[j]?=some v/\j < xs.length/\-(xs.length:Int)≤i/\i < xs.length:=by
 unfold pJ at h
 cases e:wU xs.length i with
 | none=>rw [e] at h;cases h
 | some j=>
  rw [e] at h
  obtain⟨h1,h2,h3,h4⟩:=o7 e
  exact⟨j,h1,h,h2,h3,h4⟩
theorem aN {α:Type} {xs:List α} {j:Nat} {v:α} (h:xs[j]?=some v):pJ xs (j:Int)=some v:=by
 have hj:j < xs.length:=(List.getElem?_eq_some_iff.mp h).1
 have e:wU xs.length (j:Int)=some j:=by
  unfold wU
  rw [if_pos (by omega),if_pos (by omega)];simp
 unfold pJ;rw [e];exact h
def lA (b:Expr):Prop:=∀ o i,subscripted b false o i=operate [o,i] (getItem o i)
def Br (X:Cx) (r:R2):Prop:=
 ∀ (value slice:Expr) (pins:bo) (s:Shared) (σ:St) (H:Hp) (x y:V) (v u:Value) (Q:VK),Inv X pins σ H s->aU x v->aU y u->r x y H Q→
  subscripted slice false v u=operate [v,u] (getItem v u)->wpAny (model X.prog X.w) X.A (subscriptTail value slice v u) (EP X pins σ Q) X.xe s
def Dg (X:Cx) (id:String) (r:V->List V->Hp->VK->Prop):Prop:=
 ∀ (pins:bo) (s:Shared) (σ:St) (H:Hp) (x:V) (xs:List V) (v:Value) (us:List Value) (Q:VK),Inv X pins σ H s->aU x v->aT xs us->r x xs H Q→
  wpAny (model X.prog X.w) X.A (call (.builtin id) (v :: us)) (EP X pins σ Q) X.xe s
section
variable {X:Cx} {a b:Expr} {ta tb:TE} {pos:Pos}
theorem Cr {r:R2} (hr:Br X r) (ha:PE X a ta) (hb:PE X b tb) (hs:lA b):PE X (.Subscript a b pos) (vC r ta tb):=by
 intro pins s σ H Q I h
 exact Subscript_ (A0 ha hb I h fun v u s2 x y H2 I2 rx ry q=>hr a b pins s2 σ H2 x y v u Q I2 rx ry q (hs _ _))
def Ce (K:Fg):R2:=fun x y H Q=>∃ p xs i v,x=.ref p/\y=.int i/\aQ K H p xs/\pJ xs i=some v/\Q v H
def zw (K:Fg):R2:=fun x y H Q=>∃ p xs i v,x=.ref p/\y=.int i/\aV K H p xs/\pJ xs i=some v/\Q v H
def Ef:R2:=fun x y H Q=>∃ z i c,x=.str z/\y=.int i/\z.length≤sizeLine/\pJ z.cps.toList i=some c/\Q (.str ⟨#[c]⟩) H
theorem aX:Br X (Ce X.K):=by
 intro value slice pins s σ H x y v u Q I rx ry h hs
 obtain⟨p,xs,i,z,rfl,rfl,hq,he,q⟩:=h
 cases rx
 obtain⟨t,rfl⟩:=ry
 obtain⟨its,r,pl,hz⟩:=I.list hq
 obtain⟨j,h1,h2,h3,h4,h5⟩:=pI he
 obtain⟨w,ew,rw'⟩:=r.get h2
 have hl:=r.length
 have hn:=kT
 have fin:EP X pins σ Q w s:=⟨z,H,I,rw',q⟩
 by_cases h0:0≤i
 ·have hj:i.toNat=j:=by
   rw [seqIndex_of h0 h5] at h1
   exact Option.some.inj h1
  exact item_listR pl.isList h0 (by omega) (by rw [hj];simpa using ew) fin hs
 ·have hj:(i+(its.toArray.size:Int)).toNat=j:=by
   rw [seqIndex_neg (by omega) h4] at h1
   rw [List.size_toArray,← hl]
   exact Option.some.inj h1
  exact subscriptTail_builtinR (x:=w) pl.isList.typeIs slot_list_getitem.lookup
   (wpAny_getItem_list_neg (Q:=fun r s'=>r=w/\EP X pins σ Q r s') pl.isList (by omega) (by rw [List.size_toArray] <;> omega) (by omega) (by rw [hj];simpa using ew) ⟨rfl,fin⟩) hs
theorem av:Br X (zw X.K):=by
 intro value slice pins s σ H x y v u Q I rx ry h hs
 obtain⟨p,xs,i,z,rfl,rfl,hq,he,q⟩:=h
 cases rx
 obtain⟨t,rfl⟩:=ry
 obtain⟨its,r,pl,hz⟩:=I.tuple hq
 obtain⟨j,h1,h2,h3,h4,h5⟩:=pI he
 obtain⟨w,ew,rw'⟩:=r.get h2
 have hl:=r.length
 have hn:=kT
 have fin:EP X pins σ Q w s:=⟨z,H,I,rw',q⟩
 exact subscriptTail_builtinR (x:=w) pl.typeIs slot_tuple_getitem.lookup
  (getItem_tuple (j:=j) (Q:=fun r s'=>r=w/\EP X pins σ Q r s') pl (by omega) (by omega) (by rw [List.size_toArray,← hl];exact h1) (by simpa using ew) ⟨rfl,fin⟩) hs
def GC (K:Fg):R2:=fun x y H Q=>Ce K x y H Q∨zw K x y H Q∨Ef x y H Q
theorem n8 (its:List Value) (n j:Nat) (u:Value):Obj.mapSeq (·.setIfInBounds j u) { cls:=.type "list", data:=.seq its.toArray n }={ cls:=.type "list", data:=.seq (its.set j u).toArray n }:=by
 simp [Obj.mapSeq]
theorem Inv.lst {pins:bo} {σ:St} {H:Hp} {s:Shared} {p:Addr} {xs:List V} (I:Inv X pins σ H s) (h:H p=some (.lst xs)) :
  ∃ (its:List Value) (n:Nat),aT xs its/\s.heap.get? p=some { cls:=.type "list", data:=.seq its.toArray n }/\xs.length≤sizeLine:=by
 obtain⟨z,its,n,r,e⟩:=I.hok p _ h
 exact⟨its,n,r,e,z⟩
theorem Inv.lstUpd {pins:bo} {σ:St} {H:Hp} {s:Shared} {p:Addr} {xs ys:List V} {its its':List Value} {n n':Nat} {f:Obj->Obj} (I:Inv X pins σ H s) (h:H p=some (.lst xs))
  (ho:s.heap.get? p=some { cls:=.type "list", data:=.seq its.toArray n }) (hf:f { cls:=.type "list", data:=.seq its.toArray n }={ cls:=.type "list", data:=.seq its'.toArray n' }) (r:aT ys its') (hz:ys.length≤sizeLine) (t:Nat) :
  Inv X pins σ (upd H p (.lst ys)) { s with heap:=s.heap.update p f,toks:=t }:=by
 have e:(s.heap.update p f).get? p=some { cls:=.type "list", data:=.seq its'.toArray n' }:=by
  rw [Heap.get?_update_self f ho (by rw [hf] <;> rfl),hf]
 refine I.write (x:=p) (e:=p) (by rw [h];trivial) (.inl rfl) (fun b u hb q=>(Heap.get?_update_other _ _ (Ne.symm hb)).trans q) ⟨_,e⟩ ?_
 exact⟨hz,its',n',r,e⟩
def BY:V->V->V->Hp->(Hp->Prop)->Prop:=fun o i v H Q=>∃ p xs k j,o=.ref p/\i=.int k/\H p=some (.lst xs)/\wU xs.length k=some j/\Q (upd H p (.lst (xs.set j v)))
theorem fX:Ba X BY:=by
 intro pins s σ H o i v ov iv u Q I ro ri rv h
 obtain⟨p,xs,k,j,rfl,rfl,hp,hj,q⟩:=h
 cases ro
 obtain⟨t,rfl⟩:=ri
 obtain⟨its,n,r,ho,hz⟩:=I.lst hp
 obtain⟨h1,h2,h3,h4⟩:=o7 hj
 have hl:=r.length
 have hn:=kT
 have I':Inv X pins σ (upd H p (.lst (xs.set j v))) { s with heap:=s.heap.update p (Obj.mapSeq (·.setIfInBounds j u)) }:=
  I.lstUpd hp ho (n8 its n j u) (r.set rv j) (by rw [List.length_set];exact hz) s.toks
 by_cases h0:0≤k
 ·have hk:k.toNat=j:=by
   rw [seqIndex_of h0 h4] at h1
   exact Option.some.inj h1
  exact PySem.W.ki_setAt ho h0 (by omega) (by rw [List.size_toArray,← hl];exact h4) (by rw [hk];exact⟨_,I',q⟩)
 ·have hk:(k+(its.toArray.size:Int)).toNat=j:=by
   rw [seqIndex_neg (by omega) h3] at h1
   rw [List.size_toArray,← hl]
   exact Option.some.inj h1
  exact PySem.W.ki_setBack ho (by omega) (by rw [List.size_toArray,← hl];exact h3) (by omega) (by rw [hk];exact⟨_,I',q⟩)
theorem ku (lo hi:Option Int) (n:Nat):(sliceBounds lo hi none n).1=((HT.sIx n 0 lo:Nat):Int)/\(sliceBounds lo hi none n).2.1=((HT.sIx n n hi:Nat):Int)/\(sliceBounds lo hi none n).2.2=1:=by
 refine⟨?_,?_,rfl⟩
 ·cases lo with
  | none=>simp [sliceBounds,HT.sIx]
  | some i=>
   simp only [sliceBounds,HT.sIx,Option.getD_none,show (1:Int) > 0 by decide,if_true]
   by_cases h:i < 0
   ·simp only [h,if_true] <;> omega
   ·simp only [h,if_false] <;> omega
 ·cases hi with
  | none=>simp [sliceBounds,HT.sIx]
  | some i=>
   simp only [sliceBounds,HT.sIx,Option.getD_none,show (1:Int) > 0 by decide,if_true]
   by_cases h:i < 0
   ·simp only [h,if_true] <;> omega
   ·simp only [h,if_false] <;> omega
theorem jv (its:List Value) (lo hi:Option Int):slicePick its.toArray lo hi none=((its.drop (HT.sIx its.length 0 lo)).take (HT.sIx its.length its.length hi - HT.sIx its.length 0 lo)).toArray:=by
 obtain⟨h1,h2,h3⟩:=ku lo hi its.toArray.size
 unfold slicePick
 rw [h1,h2,h3]
 simp only [sliceRange_one,pick_run,List.size_toArray] <;> rfl
def Ec (K:Fg):V->Option Int->Option Int->Hp->VK->Prop:=fun x lo hi H Q=>∃ a xs,x=.ref a/\aQ K H a xs/\∀ p,H p=none->Q (.ref p) (upd H p (.lst (dw xs lo hi)))
theorem vL:rD X (Ec X.K):=by
 intro pins s σ H x v vl vu lo hi sl Q I rx hs pl pu h
 obtain⟨a,xs,rfl,hx,q⟩:=h
 cases rx
 obtain⟨its,r,ht,hz⟩:=I.list hx
 have hlen:=r.length
 refine⟨"list", _,slot_list_getitem.lookup,ht.isList.typeIs,?_⟩
 refine wpAny_getItem_list_slice ht.isList hs pl pu .none (by simp) ?_ (by rw [List.size_toArray] <;> omega)
 rw [jv,← hlen]
 refine⟨.ref s.heap.objs.size,_,I.laid (t':=s.toks) (o:=.lst (dw xs lo hi)) (fun b ob q=>Heap.get?_push_of_some _ q) (Nat.le_refl _) ?_,rfl,q _ (I.hok.fresh (Nat.le_refl _))⟩
 exact⟨Nat.le_trans (hG xs lo hi) hz,_,0,(r.drop (HT.sIx xs.length 0 lo)).take (HT.sIx xs.length xs.length hi - HT.sIx xs.length 0 lo),Heap.get?_push_size _ rfl⟩
def yx:V->Bool
 | .non=>true
 | .bl _=>true
 | .int _=>true
 | .str _=>true
 | _=>false
def C1:V->V->Bool
 | .non,.non=>true
 | .bl a,.bl b=>a == b
 | .bl a,.int b=>(if a then 1 else 0) == b
 | .int a,.bl b=>a == (if b then 1 else 0)
 | .int a,.int b=>a == b
 | .str a,.str b=>a == b
 | _,_=>false
def GI (x:V) (u:Value):Bool:=match u with
 | .none=>C1 .non x
 | .bool b=>C1 (.bl b) x
 | .int i _=>C1 (.int i) x
 | .str z _=>C1 (.str z) x
 | _=>false
def Fh (x:V) (xs:List V):Bool:=xs.any fun y=>C1 y x
def GD (K:Fg) (neg:Bool):R2:=fun x y H Q=>∃ p xs,y=.ref p/\(aQ K H p xs∨aV K H p xs)/\yx x=true/\xs.all yx=true/\Q (.bl (if neg then !Fh x xs else Fh x xs)) H
theorem aC:b8 X (.builtin "len") (fun xs H Q=>∃ p ys,xs=[.ref p]/\(aQ X.K H p ys∨aV X.K H p ys)/\Q (.int ys.length) H):=by
 intro pins s σ H xs us Q I r h
 obtain⟨p,ys,rfl,hq,q⟩:=h
 obtain⟨u,rfl,rx⟩:=dP r
 cases rx
 have hn:=kT
 rcases hq with hq | hq
 ·obtain⟨its,r',pl,hz⟩:=I.list hq
  have hlen:=r'.length
  exact Calls.call_len_list pl.isList (by simp only [List.size_toArray] <;> omega) ⟨.int ys.length,H,I.tok _,⟨s.toks+1,by rw [List.size_toArray,hlen]⟩,q⟩
 ·obtain⟨its,r',pl,hz⟩:=I.tuple hq
  have hlen:=r'.length
  exact len_tuple pl (by simp only [List.size_toArray] <;> omega) ⟨.int ys.length,H,I.tok _,⟨s.toks+1,by rw [List.size_toArray,hlen]⟩,q⟩
theorem eD:b8 X (.type "list") (fun xs H Q=>∃ p ys,xs=[.ref p]/\(aQ X.K H p ys∨aV X.K H p ys)/\∀ l,H l=none->Q (.ref l) (upd H l (.lst ys))):=by
 intro pins s σ H xs us Q I r h
 obtain⟨p,ys,rfl,hq,q⟩:=h
 obtain⟨u,rfl,rx⟩:=dP r
 cases rx
 have fin:∀ (its:List Value),aT ys its->ys.length≤sizeLine->∀ (h':Heap) (c':Nat),(∀ b o',s.heap.get? b=some o'->h'.get? b=some o')→
   h'.get? s.heap.objs.size=some { cls:=.type "list", dict:=none,data:=.seq its.toArray c',slots:=#[] }->EP X pins σ Q (.ref s.heap.objs.size) { s with heap:=h' }:=fun its r' hz h' c' kp e=>
  ⟨.ref s.heap.objs.size,_,I.laid (t':=s.toks) kp (Nat.le_refl _) (show ObjOk X.prog X.w _ h' _ (.lst ys) from ⟨hz,its,c',r',e⟩),rfl,q _ (I.hok.fresh (Nat.le_refl _))⟩
 rcases hq with hq | hq
 ·obtain⟨its,r',pl,hz⟩:=I.list hq
  have hlen:=r'.length
  obtain⟨o,ho,hc,n,hd⟩:=pl.isList
  exact call_list_seq p (.inl rfl) ho hc hd (fun h' c' kp e=>fin its r' hz h' c' kp e) (by simp only [List.size_toArray] <;> omega)
 ·obtain⟨its,r',pl,hz⟩:=I.tuple hq
  have hlen:=r'.length
  obtain⟨o,ho,hc,n,hd⟩:=pl
  exact call_list_seq p (.inr rfl) ho hc hd (fun h' c' kp e=>fin its r' hz h' c' kp e) (by simp only [List.size_toArray] <;> omega)
theorem bV:b8 X (.type "tuple") (fun xs H Q=>∃ p ys,xs=[.ref p]/\((aQ X.K H p ys/\∀ l,H l=none->Q (.ref l) (upd H l (.tup ys)))∨(aV X.K H p ys/\Q (.ref p) H))):=by
 intro pins s σ H xs us Q I r h
 obtain⟨p,ys,rfl,h⟩:=h
 obtain⟨u,rfl,rx⟩:=dP r
 cases rx
 rcases h with ⟨hq,q⟩ | ⟨hq,q⟩
 ·obtain⟨its,r',pl,hz⟩:=I.list hq
  have hlen:=r'.length
  refine call_tuple_list pl.isList (fun h' kp=>?_) (by simp only [List.size_toArray] <;> omega)
  have I1:Inv X pins σ H { s with heap:=h' }:=I.kept (t':=s.toks) kp
  have I2:Inv X pins σ (upd H h'.objs.size (.tup ys)) { s with heap:=h'.push { cls:=.type "tuple", data:=.seq its.toArray } }:=
   I1.laid (t':=s.toks) (fun b o e=>Heap.get?_push_of_some _ e) (Nat.le_refl _) (show ObjOk X.prog X.w _ _ _ (.tup ys) from ⟨hz,its,r',IsTup.new _ _⟩)
  exact⟨.ref h'.objs.size,_,I2,rfl,q _ (I1.hok.fresh (Nat.le_refl _))⟩
 ·obtain⟨its,r',pl,hz⟩:=I.tuple hq
  exact call_tuple_same pl ⟨.ref p,H,I,rfl,q⟩
def DV (K:Fg) (T:String) (x:V) (H:Hp):Prop:=match x with
 | .str _=>T = "str"
 | .int _=>T = "int"
 | .ref p=>(T = "list" /\ ∃ xs,aQ K H p xs)∨(T = "tuple" /\ ∃ o,K.lookup p=some o/\o.cls=.type "tuple" /\ o.dict=none)∨
   (T = "dict" /\ ((∃ kvs,H p=some (.dK kvs))∨∃ kvs,H p=some (.dT kvs)))∨(T = "set" /\ ∃ S n,H p=some (.set S n))
 | _=>False
theorem yI {pins:bo} {σ:St} {H:Hp} {s:Shared} {T:String} {x:V} {v:Value} (I:Inv X pins σ H s) (r:aU x v) (ty:DV X.K T x H) :
  s.TypeIs v T/\∀ a,v=.ref a->∃ ob,s.heap.get? a=some ob/\ob.dict=none:=by
 cases x with
 | str z=>
  obtain⟨t,rfl⟩:=r
  cases (show T = "str" from ty)
  exact⟨typeIs_str s z t,fun _ e=>nomatch e⟩
 | int i=>
  obtain⟨t,rfl⟩:=r
  cases (show T = "int" from ty)
  exact⟨typeIs_int s i t,fun _ e=>nomatch e⟩
 | ref p=>
  cases r
  rcases ty with ⟨rfl,xs,hq⟩ | ⟨rfl,o,hk,hc,hd⟩ | ⟨rfl,hk⟩ | ⟨rfl,S,n,hk⟩
  ·obtain⟨its,_,pl,_⟩:=I.list hq
   refine⟨pl.isList.typeIs,fun a e=>?_⟩
   cases e
   obtain⟨o,n,e,c,hd,_⟩:=pl
   exact⟨o,e,hd⟩
  ·refine⟨⟨o,I.kIn p o hk,hc⟩,fun a e=>?_⟩
   cases e
   exact⟨o,I.kIn _ o hk,hd⟩
  ·have z:∃ o,s.heap.get? p=some o/\o.ExactDict:=by
    rcases hk with ⟨kvs,hk⟩ | ⟨kvs,hk⟩
    ·obtain⟨_,_,_,_,o,_,_,e,ex,_⟩:=I.hok p _ hk
     exact⟨o,e,ex⟩
    ·obtain⟨_,_,_,_,o,_,_,e,ex,_⟩:=I.hok p _ hk
     exact⟨o,e,ex⟩
   obtain⟨o,e,ex⟩:=z
   refine⟨⟨o,e,ex.1⟩,fun a e2=>?_⟩
   cases e2
   exact⟨o,e,ex.2.1⟩
  ·obtain⟨o,_,_,_,e,ex,_⟩:=I.hok p _ hk
   refine⟨⟨o,e,ex.1⟩,fun a e2=>?_⟩
   cases e2
   exact⟨o,e,ex.2.1⟩
 | _=>exact False.elim ty
def FN (K:Fg) (T:String) (r:V->List V->Hp->VK->Prop) (to:TE):TE:=fun σ H Q=>to σ H fun x H1=>DV K T x H1/\r x [] H1 Q
def D9 (K:Fg) (T:String) (r:V->List V->Hp->VK->Prop) (to:TE) (t:TA):TE:=fun σ H Q=>to σ H fun x H1=>DV K T x H1/\t σ H1 fun xs H2=>r x xs H2 Q
variable {o e:Expr} {es:List Expr} {to:TE} {t:TA} {name:Str} {apos cpos:Pos} {T id:String} {r:V->List V->Hp->VK->Prop}
theorem ym (pa:PlainAttrs T) (slot:Slot T name id) (hty:typeOf (.builtin id)=pure (.type "method_descriptor")) (hm:Dg X id r) (ho:PE X o to) (ha:PA X (e :: es) t)
  (hbase:attributeBase o name X.env (eval o X.env)=eval o X.env:=by rfl)
  (hfew:((backTo cpos (starEach (e :: es) X.env)).all (fun x=>!x.1) && (backToKw cpos (keywordEach [] X.env)).all (fun x=>x.1.isSome)
   && decide ((e :: es).length+([]:List Keyword).length+(if ([]:List Keyword).isEmpty then 0 else 1) < 30))=true:=by rfl)
  (hline:(apos.endLine == cpos.line)=true:=by rfl) (hs:starEach (e :: es) X.env=(false,eval e X.env) :: starEach es X.env:=by rfl) (hplain:(backTo cpos (starEach es X.env)).any (·.1)=false:=by rfl) :
  PE X (.Call (.Attribute o name apos) (e :: es) [] cpos) (D9 X.K T r to t):=by
 intro pins s σ H Q I h
 refine wpAny_Call_method_late hbase hfew hline rfl (bF (ho pins s σ H _ I h) fun v s1 ⟨x,H1,I1,r1,ty,q1⟩=>?_)
 obtain⟨h1,h2⟩:=yI I1 r1 ty
 refine⟨T,id,pa,slot,hty,h1,h2,?_⟩
 have hA:=ha cpos pins s1 σ H1 _ I1 q1
 rw [hs] at hA ⊢
 refine Calls.callWith_builtin (by show (false || (backTo cpos (starEach es X.env)).any (·.1))=false;rw [hplain] <;> rfl) (Calls.evalArgs_plain ?_)
 exact bF hA fun us s2 ⟨vs,H2,I2,r2,q2⟩=>hm pins s2 σ H2 x vs v us Q I2 r1 r2 q2
end
end L2
namespace L2
open PySem PySem.Spec PyProof.Rows
def DN (X:Cx) (id:String) (r:V->List V->Hp->VK->Prop):Prop:=
 ∀ (pins:bo) (s:Shared) (σ:St) (H:Hp) (x:V) (xs:List V) (v:Value) (us:List Value) (Q:VK),Inv X pins σ H s->aU x v->aT xs us->r x xs H Q→
  wpAny (model X.prog X.w) X.A (call (.builtin id) (v :: us)) (EP X pins σ Q) X.xe s
theorem aT.one:∀ {x:V} {us:List Value},aT [x] us->∃ u,us=[u]/\aU x u
 | _,_,.cons r .nil=>⟨_,rfl,r⟩
section
variable {X:Cx} {pins:bo} {σ:St} {H:Hp} {s:Shared} {l b:Addr} {xs ys zs:List V}
theorem Inv.lset {its its':List Value} {n:Nat} {f:Array Value->Array Value} {t':Nat} (I:Inv X pins σ H s) (hH:H l=some (.lst xs))
  (e:s.heap.get? l=some { cls:=.type "list", data:=.seq its.toArray n }) (hf:f its.toArray=its'.toArray) (hv:aT ys its') (hz:ys.length≤sizeLine) :
  Inv X pins σ (upd H l (.lst ys)) { s with heap:=s.heap.update l (Obj.mapSeq f),toks:=t' }:=by
 have q:=PySem.IsL.update e f
 rw [hf] at q
 refine I.write (x:=l) (e:=l) (by rw [hH];exact trivial) (.inl rfl) (fun b' u hb hu=>(Heap.get?_update_other s.heap (Obj.mapSeq f) (Ne.symm hb)).trans hu) ⟨_,q⟩ ?_
 exact⟨hz,its',_,hv,q⟩
theorem Inv.lnew {its:List Value} {t':Nat} (I:Inv X pins σ H s) (hv:aT ys its) (hz:ys.length≤sizeLine) :
  Inv X pins σ (upd H s.heap.objs.size (.lst ys)) { s with heap:=s.heap.push { cls:=.type "list", data:=.seq its.toArray },toks:=t' }:=
 I.laid (fun _ _ q=>Heap.get?_push_of_some _ q) (Nat.le_refl _) ⟨hz,its,0,hv,Heap.get?_push_size _ rfl⟩
theorem Inv.fresh (I:Inv X pins σ H s):H s.heap.objs.size=none:=I.hok.fresh (Nat.le_refl _)
theorem Inv.lstM (I:Inv X pins σ H s) (hH:H l=some (.lst xs)):xs.length≤sizeLine/\∃ (its:List Value) (n:Nat),aT xs its/\xs.length=its.length/\s.heap.get? l=some { cls:=.type "list", data:=.seq its.toArray n }:=by
 obtain⟨z,its,n,r,e⟩:=I.hok l _ hH
 exact⟨z,its,n,r,r.length,e⟩
theorem ml {n:Nat} (h:n≤sizeLine):Builtin.List.listTooLong n=false:=by
 unfold Builtin.List.listTooLong
 exact decide_eq_false (by omega)
end
section
variable {X:Cx}
def vT:V->List V->Hp->VK->Prop:=fun x vs H Q=>∃ l xs y,x=.ref l/\vs=[y]/\H l=some (.lst xs)/\xs.length < sizeLine/\Q .non (upd H l (.lst (xs++[y])))
theorem gz:DN X "list.append" vT:=by
 intro pins s σ H x vs v us Q I rx rv h
 obtain⟨l,xs,y,rfl,rfl,hH,hz,q⟩:=h
 cases rx
 obtain⟨u,rfl,ru⟩:=rv.one
 obtain⟨z,its,n,r,hl,e⟩:=I.lstM hH
 refine call_meets F.slot_list_append ⟨_,e,rfl⟩ F.entry_list_append (F.args_list_append_2 _ _) (PySem.list_append l its.toArray n u (by rw [List.size_toArray];omega)) ⟨e,?_⟩
 refine⟨.non,_,I.lset (its':=its++[u]) hH e (by simp) (r.append (.cons ru .nil)) ?_,rfl,q⟩
 rw [List.length_append,List.length_singleton]
 omega
def vS:V->List V->Hp->VK->Prop:=fun x vs H Q=>∃ l b xs zs,x=.ref l/\vs=[.ref b]/\H l=some (.lst xs)/\H b=some (.lst zs)/\xs.length+zs.length≤sizeLine/\Q .non (upd H l (.lst (xs++zs)))
theorem qw:DN X "list.extend" vS:=by
 intro pins s σ H x vs v us Q I rx rv h
 obtain⟨l,b,xs,zs,rfl,rfl,hH,hB,hz,q⟩:=h
 cases rx
 obtain⟨u,rfl,ru⟩:=rv.one
 cases ru
 obtain⟨z,its,n,r,hl,e⟩:=I.lstM hH
 obtain⟨z2,its2,n2,r2,hl2,e2⟩:=I.lstM hB
 have hsz:its.toArray.size+its2.toArray.size≤sizeLine:=by rw [List.size_toArray,List.size_toArray];omega
 have hlong:¬ (!its.toArray.isEmpty && Builtin.List.listTooLong (its.toArray.size+its2.toArray.size))=true:=by
  rw [ml hsz,Bool.and_false]
  exact Bool.false_ne_true
 refine call_meets F.slot_list_extend ⟨_,e,rfl⟩ F.entry_list_extend (F.args_list_extend_2 _ _)
  (AutoSeq1.list_extend_list_list_0 l its.toArray n b its2.toArray n2 hlong (by rw [List.size_toArray];omega) (by omega)) ⟨e,e2,?_⟩
 refine⟨.non,_,I.lset (its':=its++its2) hH e (by simp) (r.append r2) ?_,rfl,q⟩
 rw [List.length_append]
 omega
def FW:V->List V->Hp->VK->Prop:=fun x vs H Q=>∃ l xs y,x=.ref l/\vs=[]/\H l=some (.lst xs)/\xs[xs.length - 1]?=some y/\Q y (upd H l (.lst xs.dropLast))
def Ed:V->List V->Hp->VK->Prop:=fun x vs H Q=>∃ l xs i k y,x=.ref l/\vs=[.int i]/\H l=some (.lst xs)/\-(2 ^ 63)≤i/\i < 2 ^ 63/\seqIndex? i xs.length=some k/\xs[k]?=some y/\Q y (upd H l (.lst (xs.eraseIdx k)))
def Ca:V->List V->Hp->VK->Prop:=fun x vs H Q=>∃ l xs,x=.ref l/\vs=[]/\H l=some (.lst xs)/\Q .non (upd H l (.lst xs.reverse))
def Ek:V->List V->Hp->VK->Prop:=fun x vs H Q=>∃ l xs,x=.ref l/\vs=[]/\H l=some (.lst xs)/\Q .non (upd H l (.lst []))
def El:R2:=fun x y H Q=>∃ l b xs zs,x=.ref l/\y=.ref b/\H l=some (.lst xs)/\H b=some (.lst zs)/\xs.length+zs.length≤sizeLine/\∀ p,H p=none->Q (.ref p) (upd H p (.lst (xs++zs)))
theorem nS:dN X (binaryOp .Add) El:=by
 intro pins s σ H x y v u Q I rx ry h
 obtain⟨l,b,xs,zs,rfl,rfl,hH,hB,hz,q⟩:=h
 cases rx
 cases ry
 obtain⟨z,its,n,r,hl,e⟩:=I.lstM hH
 obtain⟨z2,its2,n2,r2,hl2,e2⟩:=I.lstM hB
 refine PySem.P.add_list e e2 ?_ (by rw [List.size_toArray,List.size_toArray];omega)
 have ea:its.toArray++its2.toArray=(its++its2).toArray:=by simp
 rw [ea]
 exact⟨.ref _,_,I.lnew (t':=s.toks) (r.append r2) (by rw [List.length_append];omega),rfl,q _ I.fresh⟩
def FV:R2:=fun x y H Q=>∃ l k xs,x=.ref l/\y=.int k/\H l=some (.lst xs)/\-(2 ^ 63)≤k/\k < 2 ^ 63/\xs.length * k.toNat≤sizeLine∧
 ∀ p,H p=none->Q (.ref p) (upd H p (.lst (List.replicate k.toNat xs).flatten))
end
section
variable {prog:Program} {w:World} {A:Around} {E:bu} {s:Shared}
end
section
variable {X:Cx}
end
end L2
namespace Att
open PySem PySem.W PySem.Calls PyProof.Rows
theorem ic {P:Params} {h:Heap}:∀ (ns:List Int) (vs:List Value),WellAll P h vs (ns.map WData.int)->IntsAre vs ns:=by
 intro ns
 induction ns with
 | nil=>
  intro vs w
  rw [List.map_nil] at w
  cases w
  exact .nil
 | cons n ns ih=>
  intro vs w
  rw [List.map_cons] at w
  cases w with
  | cons a b=>
   cases a
   exact .cons _ _ (ih _ b)
theorem qc {l:OpenLaw} {n:Nat} (hn:l.most=some n) {P:Params} {h:Heap} {args:List WData} {vals:List Value}
  (hpre:l.row.toRowW.claim.pre args=true) (hwl:WellAll P h vals args) :
  ∃ a vs ns,vals=[Value.ref a]/\args=[WData.list (ns.map WData.int)]/\h.get? a=some { cls:=.type "list", data:=.seq vs.toArray }/\IntsAre vs ns/\ns.length≤n:=by
 have hsh:WShape.hasAll [] args [.list .int]=true:=(pre_splitW hpre).1
 have hc:l.pre.holds [] { args:=args }=true:=(pre_splitW hpre).2
 obtain⟨d,r,rfl,h1,h2⟩:=hasAllW_cons hsh
 obtain rfl:=hasAllW_nil h2
 obtain⟨xs,rfl,h3⟩:=hasW_list h1
 obtain⟨ns,rfl⟩:=items_int h3
 have hlen:ns.length≤n:=by
  unfold OpenLaw.pre at hc
  have h4:(WTm.not (.lt (.lit (.int (n:Int))) (.len (.arg 0)))).holds [] { args:=[.list (ns.map .int)] }=true:=by
   have h4:=(holds_andW hc).1
   rw [hn] at h4
   exact h4
  have h5:=condW_of h4 (w_not (w_lt w_lit (w_len_list (w_arg rfl))))
  rw [List.length_map] at h5
  refine Nat.le_of_not_lt fun q=>?_
  have q':(n:Int) < ((ns.length:Nat):Int):=by omega
  first
   | (rw [decide_eq_true q'] at h5;exact absurd h5 (by decide))
   | (simp at h5;omega)
 cases hwl with
 | cons w1 w2=>
  cases w2
  cases w1 with
  | list ho hall=>exact⟨_,_,ns,rfl,rfl,ho,ic ns _ hall,hlen⟩
theorem qj (l:OpenLaw) (args:List WData):l.row.toRowW.claim.post args (.bool true) args=true:=
 postW_of (r:=l.row.toRowW) (X:=(true == true))
  (show WShape.has [] (.bool true) .bool=true by first | rfl | decide | simp [WShape.has,WShape.arms,WShape.armsAll])
  (show (WTm.eq .res (.lit (.bool true))).value [] { args:=args,res:=some (.bool true),after:=args }=some (.bool (true == true)) from w_eq_bool (w_res rfl) w_lit) rfl
theorem attach_call {l:OpenLaw} {n:Nat} {q:Program} {loose:List Str} {XP:(Str->Option Value)->Heap->Prop} {YP:World->Heap->Prop} {d:DefRec}
  (hn:l.most=some n) (hdf:d.params.defaults=[])
  (call:∀ (w:World) (s₀ s₁:Shared) (mg mb:Str->Option Value) (fa:Addr) (o:Obj) (pm cd doc:Value) (a:Addr) (vs:List Value) (ns:List Int),
   Ground q loose [] XP w s₀ mg mb s₁.heap->YP w s₁.heap→
   s₁.heap.get? fa=some o->o.data=.func (docDef d.name d.params d.body d.scope pm cd doc)->s₁.heap.CodeRec cd d.name->mg d.name=some (.ref fa)→
   s₁.heap.get? a=some { cls:=.type "list", data:=.seq vs.toArray }->IntsAre vs ns->ns.length≤n->s₁.gens=#[]→
   codeAny (model l.prog w) callerA (.call (.ref fa) ⟨[.ref a],[]⟩) (fun r s'=>r=.ok (.ret (.bool true))/\OldK s₁.heap s'.heap/\s'.os=s₁.os/\AllBare s'.gens) s₁) :
  WalkO q loose XP YP l.row.toRowW d [] (fun f vs=>PySem.call f vs):=by
 intro w s₀ s₁ mg mb G Y fa o pm cd doc dV kV ho hd hcd hD hmg hg args vals as hpre hlay hrd hwl hlo
 obtain rfl:dV=.none:=Dflts.none hD hdf
 obtain rfl:kV=.none:=Dflts.noKw hD
 obtain⟨a,vs,ns,rfl,rfl,hobj,hints,hlen⟩:=qc hn hpre hwl
 refine enter_call (codeAny_mono (call w s₀ s₁ mg mb fa o pm cd doc a vs ns G Y ho (fd_plain hd) hcd hmg hobj hints hlen hg) fun r s' hq=>?_)
 obtain⟨rfl,h2,h3,h4⟩:=hq
 exact⟨.inl ⟨.bool true,.bool true,[],rfl,fun _=>rfl,.bool true,qj l _,fun _=>⟨List.Pairwise.nil,fun _ hm=>(nomatch hm)⟩⟩,h2,h3,h4⟩
section
variable {prog:Program} {w:World} {A:Around} {E:bu} {s:Shared} {K:Frag}
def Em (h:Heap):Heap:={ h with objs:=#[] }
def En (h:Heap) (L d:Addr):bo:=(List.range h.objs.size).filterMap fun a=>if a=L∨a=d then none else (h.get? a).map fun o=>(a,o)
end
end Att
namespace L2
open PySem PySem.Spec PyProof.Rows
theorem jC:∀ {vs:List Value} {ns:List Int},IntsAre vs ns->aT (ns.map V.int) vs
 | _,_,.nil=>.nil
 | _,_,.cons n t h=>.cons ⟨t,rfl⟩ (jC h)
def Bb (H:Hp):Prop:=∀ b,H b=none∨∃ o xs,H b=some (.frz o (.lst xs))
theorem uE {P:Program} {w:World} {K:Fg} {mg mb:Str->Option Value} {CX:nk} {k:Nat} {fa a:Addr} {fd:FuncData} {x:Str} {sp:Sp} {s₁:Shared} {vs:List Value} {ns:List Int}
  (KX:K.In s₁.heap) (hns:s₁.heap.Ns mainGlobals mg) (hb:s₁.heap.Ns builtinsNs mb) (hbb:∀ x:Str,x ≠ "__name__" -> mb x=bootBuiltins x) (hlim:s₁.heap.NoLimit) (hg:s₁.gens=#[])
  (ha:s₁.heap.get? a=some { cls:=.type "list", data:=.seq vs.toArray }) (hi:IntsAre vs ns) (hl:ns.length≤sizeLine) (hr:cc k callerA)
  (F:∀ base:Heap,K.In base->base.Ns mainGlobals mg->bh P w K mg base CX k fa fd [x] sp) (hbind:∀ (s:Shared) (u:Value),BindsTo s fd ⟨[u],[]⟩ [(x,u)])
  (hsp:∀ H:Hp,Bb H->aQ K H a (ns.map V.int)->sp [.ref a] H (fun v _=>v=.bl true) fun _ _ _=>False)
  (hCX:∀ H e s',CX [] H s₁ (fun _ _ _=>False) e s'->False) :
  codeAny (model P w) callerA (.call (.ref fa) ⟨[.ref a],[]⟩) (fun r s'=>r=.ok (.ret (.bool true))/\OldK s₁.heap s'.heap/\s'.os=s₁.os/\AllBare s'.gens) s₁:=by
 have rv:=jC hi
 have lenV:=hi.length
 have core:∀ H:Hp,Bb H->aQ K H a (ns.map V.int)->fA P w H s₁.heap->(∀ b,H b≠none->b=a)->(H a≠none->K.lookup a=none)→
   codeAny (model P w) callerA (.call (.ref fa) ⟨[.ref a],[]⟩) (fun r s'=>r=.ok (.ret (.bool true))/\OldK s₁.heap s'.heap/\s'.os=s₁.os/\AllBare s'.gens) s₁:=by
  intro H hO hS hok hA hK
  have base_of:∀ {b:Addr} {o:Obj},s₁.heap.get? b=some o->H b=none->(kU s₁.heap H).get? b=some o:=fun e n=>uK e n
  have noA:∀ {b:Addr} {o:Obj} {es:Array DictEntry} {ep:Nat},s₁.heap.get? b=some o->o.data=.dict es ep->H b=none:=fun {b o es ep} e d=>by
   cases q:H b with
   | none=>rfl
   | some u=>
    have e':b=a:=hA b (by rw [q];simp)
    subst e'
    rw [ha] at e;cases e
    have d':Data.seq vs.toArray _=Data.dict es ep:=d
    cases d'
  have nsK:∀ {b:Addr} {m:Str->Option Value},s₁.heap.Ns b m->(kU s₁.heap H).Ns b m:=fun {b m} ⟨o,es,ep,e,d,r⟩=>⟨o,es,ep,base_of e (noA e d),d,r⟩
  have hKb:K.In (kU s₁.heap H):=fun b o e=>base_of (KX b o e) (by
   cases q:H b with
   | none=>rfl
   | some u=>
    have e':b=a:=hA b (by rw [q];simp)
    subst e'
    rw [hK (by rw [q];simp)] at e;cases e)
  have hM:Mod K mg (kU s₁.heap H):=⟨hKb,nsK hns,⟨mb,nsK hb,hbb⟩,let ⟨mc,h1,h2⟩:=hlim;⟨mc,nsK h1,h2⟩⟩
  have e0:nc P w K mg (kU s₁.heap H) callerA [] s₁ H:=⟨rfl,hM,fun b o e=>wN e,Nat.le_of_eq (qI _ _),trivial,fun b hb=>absurd (show b∈([]:List Addr) from hb) (by simp),hok,.of_eq hg⟩
  refine codeAny_mono ((F _ hKb (nsK hns)).run callerA [] s₁ H ⟨[.ref a],[]⟩ [.ref a] [.ref a] _ _ hr e0 (hbind s₁ (.ref a)) (.cons rfl .nil) (hsp H hO hS)) fun r s' h=>?_
  cases r with
  | error e=>exact (hCX H e s' h).elim
  | ok fl=>
   cases fl with
   | next=>exact False.elim h
   | brk=>exact False.elim h
   | cont=>exact False.elim h
   | ret u=>
    obtain⟨v,H',os,bare,un,hok',r',q⟩:=h
    have q':v=.bl true:=q
    subst q'
    obtain rfl:u=Value.bool true:=r'
    refine⟨rfl,OldK.of_keep fun b o e=>?_,os,bare⟩
    cases q:H b with
    | none=>exact un.keep b o e q (by intro z;exact absurd (show b∈([]:List Addr) from z) (by simp)) (by simp)
    | some u=>
     rcases hO b with z | ⟨ob,xs,z⟩
     ·rw [q] at z;cases z
     ·have z2:=un.frzs b ob _ z
      obtain⟨e1,_⟩:=hok b _ z
      obtain⟨e2,_⟩:=hok' b _ z2
      rw [e] at e1;cases e1
      exact e2
 cases hk:K.lookup a with
 | some o=>
  have e:=KX a o hk
  rw [ha] at e
  cases e
  refine core (fun _=>none) (fun _=>.inl rfl) (.inr ⟨_,vs.toArray,_,hk,rfl,rfl,rfl,by rw [List.size_toArray,lenV];exact hl,by simpa using rv⟩) (fun b u z=>by have z':(none:Option HO)=some u:=z;cases z') (fun b z=>absurd rfl z) fun z=>absurd rfl z
 | none=>
  refine core (fun b=>if b=a then some (.frz { cls:=.type "list", data:=.seq vs.toArray } (.lst (ns.map V.int))) else none) (fun b=>?_) (.inl (.inr ⟨{ cls:=.type "list", data:=.seq vs.toArray },if_pos rfl⟩)) (fun b u z=>?_) (fun b z=>?_) fun _=>hk
  ·by_cases hb:b=a
   ·exact .inr ⟨_,_,if_pos hb⟩
   ·exact .inl (if_neg hb)
  ·by_cases hb:b=a
   ·have z':=(if_pos hb).symm.trans z
    cases z'
    subst hb
    exact⟨ha,by rw [List.length_map];exact hl,vs,_,rv,ha⟩
   ·have z':=(if_neg hb).symm.trans z
    cases z'
  ·by_cases hb:b=a
   ·exact hb
   ·exact absurd (if_neg hb) z
end L2
namespace L2
open PySem PySem.Spec PyProof.Rows
abbrev GQ {K:Fg} {h:Heap} (_:K.In h):Fg:=K
theorem walk_of {l:PySem.W.OpenLaw} {n k:Nat} {q:Program} {loose:List Str} {XP:(Str->Option Value)->Heap->Prop} {YP:World->Heap->Prop} {d:DefRec} {K:Params->Fg} {CX:World->nk} {sp:World->Sp} {x:Str}
  (hn:l.most=some n) (hn2:n≤sizeLine) (hdf:d.params.defaults=[]) (hr:cc k callerA)
  (hY:∀ (w:World) (h:Heap),YP w h->(K w.params).In h)
  (F:∀ (w:World) (mg:Str->Option Value) (fa:Addr) (h:Heap),(K w.params).In h->h.Ns mainGlobals mg->mg d.name=some (.ref fa)→
   ∃ fd:FuncData,(∀ (s:Shared) (u:Value),BindsTo s fd ⟨[u],[]⟩ [(x,u)])∧
    ∀ base:Heap,(K w.params).In base->base.Ns mainGlobals mg->bh l.prog w (K w.params) mg base (CX w) k fa fd [x] (sp w))
  (hsp:∀ (w:World) (H:Hp) (a:Addr) (ns:List Int),ns.length≤n->Bb H->aQ (K w.params) H a (ns.map V.int)->sp w [.ref a] H (fun v _=>v=.bl true) fun _ _ _=>False)
  (hCX:∀ (w:World) (H:Hp) (s:Shared) (e:Value) (s':Shared),CX w [] H s (fun _ _ _=>False) e s'->False) :
  PySem.W.WalkO q loose XP YP l.row.toRowW d [] (fun f vs=>PySem.call f vs):=by
 refine Att.attach_call hn hdf fun w s₀ s₁ mg mb fa o pm cd doc a vs ns G Y ho hd hcd hmg hobj hints hlen hg=>?_
 have KX:=hY w _ Y
 obtain⟨fd,hb,hF⟩:=F w mg fa _ KX G.T.g hmg
 exact uE KX G.T.g G.T.b G.T.builtins G.T.nolimit hg hobj hints (Nat.le_trans hlen hn2) hr hF hb (fun H hO hS=>hsp w H a ns hlen hO hS) fun H e s'=>hCX w H s₁ e s'
end L2
namespace L2
open PySem PySem.Spec PyProof.Rows
def wY (s:Stmt) (j:Nat):Stmt:=match s with
 | .ClassDef _ _ _ body _ _ _ _ _ _ _=>body.getD j (.Pass ⟨0,0,0,0⟩)
 | _=>.Pass ⟨0,0,0,0⟩
def da (s:Stmt):Arguments:=match s with
 | .FunctionDef _ a _ _ _ _ _ _ _ _=>a
 | _=>{ posonlyargs:=[],args:=[],vararg:=none,kwonlyargs:=[],kw_defaults:=[],kwarg:=none,defaults:=[] }
def cI (s:Stmt):List Stmt:=match s with
 | .FunctionDef _ _ b _ _ _ _ _ _ _=>b
 | _=>[]
def au (s:Stmt):Scope:=match s with
 | .FunctionDef _ _ _ _ _ _ sc _ _ _=>sc
 | _=>{ kind:=.function,names:=[],isGenerator:=false,isCoroutine:=false }
abbrev cZ:nk:=fun _ _ _ _ _ _=>False
abbrev E0:XK:=fun _ _ _=>False
theorem gT {X:Cx}:jo cZ X E0:=fun _ _ _ _ _ _ _ h=>h.elim
structure Fun (K:Fg) (x qual:Str) (st:Stmt) (f:Addr) (fd:FuncData):Prop where
 ex:∃ (oc:Value) (od:Option Addr) (kV doc pm:Value) (an:Option Addr) (cdv ct:Value) (osl:Array (Option Value)),
  fd=PySem.W.fnOf x qual (da st) (cI st) (au st) .none kV doc pm an cdv ct/\K.lookup f=some ⟨oc,od,.func fd,osl⟩/\PySem.W.codeIn K cdv qual=true
 kp:PySem.W.keepIn K (.ref f)=true
section
variable {P:Program} {w:World} {K:Fg} {mg:Str->Option Value} {base:Heap}
theorem Fun.ok {x qual:Str} {st:Stmt} {f:Addr} {fd:FuncData} {N ps:List Str} {k:Nat} {sp:Sp} (F:Fun K x qual st f fd) (S:aF N ps (au st)) (len:∀ vs H Q E,sp vs H Q E->vs.length=ps.length)
  (hbody:∀ (cdv:Value) (A:Around) (outer:List Env) (s:Shared) (H:Hp) (vs:List V) (Q:VK) (E:XK),cc k (A.deeper (envOfC qual (au st) s.heap.objs.size f cdv))->sp vs H Q E→
   ∃ t,lD (bx cZ P w K mg base N qual (au st) f cdv A outer s H E).nox (cI st) t/\t { nx:=fun _ H'=>Q .non H',rt:=Q } (fU N vs) H):bh P w K mg base cZ (k+1) f fd ps sp:=by
 obtain⟨oc,od,kV,doc,pm,an,cdv,ct,osl,rfl,lk,hcd⟩:=F.ex
 refine yw lk hcd S len fun A outer s H vs Q E hr hsp=>?_
 obtain⟨t,h,q⟩:=hbody cdv A outer s H vs Q E hr hsp
 exact⟨t,h.nox,q⟩
theorem Fun.binds {x qual:Str} {st:Stmt} {f:Addr} {fd:FuncData} {ps:List Str} (F:Fun K x qual st f fd)
  (h:∀ (kV doc pm:Value) (an:Option Addr) (cdv ct:Value) (us:List Value),us.length=ps.length->bindArgs (PySem.W.fnOf x qual (da st) (cI st) (au st) .none kV doc pm an cdv ct) ⟨us,[]⟩=pure (ps.zip us)):aS K fd ps []:=by
 obtain⟨oc,od,kV,doc,pm,an,cdv,ct,osl,rfl,lk,hcd⟩:=F.ex
 exact .all (h kV doc pm an cdv ct)
theorem uR {x qual:Str} {st:Stmt} {f:Addr} {oc:Value} {od an:Option Addr} {osl:Array (Option Value)} {kV doc pm cdv ct:Value} (l:K.lookup f=some ⟨oc,od,.func (PySem.W.fnOf x qual (da st) (cI st) (au st) .none kV doc pm an cdv ct),osl⟩)
  (c:PySem.W.codeIn K cdv qual=true) (k:PySem.W.keepIn K (.ref f)=true):Fun K x qual st f (PySem.W.fnOf x qual (da st) (cI st) (au st) .none kV doc pm an cdv ct):=⟨⟨oc,od,kV,doc,pm,an,cdv,ct,osl,rfl,l,c⟩,k⟩
end
theorem mH {A:Around} {k:Nat} (hr:cc k A):A.units+1 < cLine:=Nat.lt_of_le_of_lt (Nat.add_le_add_left (by decide:1≤64) _) hr.units
theorem bA {n:Nat} (h:n≤1000):n < sizeLine:=Nat.lt_of_le_of_lt h (by decide)
section
variable {X:Cx}
theorem pv (i:Nat) {x:Str} {pos:Pos} (hN:X.N[i]?=some x:=by rfl) (hv:DG X.env.scope x:=by first | exact Or.inl rfl | exact Or.inr (Or.inl rfl) | exact Or.inr (Or.inr rfl)) (hd:(x == ("__debug__" : Str))=false:=by decide)
  (hcd:(x == ("__classdict__" : Str))=false:=by decide):PE X (.Name x pos) (yN i):=zX hN hv hd hcd
end
theorem cC {A B:Prop} (h:B):if false=true then A else B:=by
 rw [if_neg Bool.false_ne_true]
 exact h
theorem bM {A B:Prop} (h:A):if true=true then A else B:=by
 rw [if_pos rfl]
 exact h
theorem gA {c A B:Prop} [Decidable c] (h1:c->A) (h2:¬ c->B):if c then A else B:=by
 by_cases h:c
 ·rw [if_pos h]
  exact h1 h
 ·rw [if_neg h]
  exact h2 h
theorem g0 {c A B:Prop} [Decidable c] (hc:c) (h:B):if (!decide c)=true then A else B:=by
 rw [decide_eq_true hc]
 exact cC h
def aA (H H':Hp):Prop:=∀ b o,H b=some o->H' b=some o
theorem aA.refl (H:Hp):aA H H:=fun _ _ h=>h
theorem aA.trans {H H1 H2:Hp} (a:aA H H1) (b:aA H1 H2):aA H H2:=fun c o h=>b c o (a c o h)
theorem aA.seq {K:Fg} {H H':Hp} {a:Addr} {xs:List V} (e:aA H H') (h:aQ K H a xs):aQ K H' a xs:=by
 rcases h with (h | ⟨o,h⟩) | h
 ·exact .inl (.inl (e _ _ h))
 ·exact .inl (.inr ⟨o,e _ _ h⟩)
 ·exact .inr h
end L2
set_option maxHeartbeats 4000000
namespace B
open PySem L2 PyProof.Rows
theorem jP {c A B:Prop} [Decidable c] (hc:¬ c) (h:A):if (!decide c)=true then A else B:=by
 have e:(!decide c)=true:=by rw [decide_eq_false hc];rfl
 rw [if_pos e];exact h
theorem cr {c A B:Prop} [Decidable c] (hc:c) (h:A):if decide c=true then A else B:=by
 rw [if_pos (decide_eq_true hc)];exact h
theorem cu {c A B:Prop} [Decidable c] (hc:¬ c) (h:B):if decide c=true then A else B:=by
 have e:¬ decide c=true:=by rw [decide_eq_false hc];intro z;cases z
 rw [if_neg e];exact h
def f6 (A B:String):Option Bool:=if (Value.type A == Value.type B)=true then some true else if PySem.W.kitMeta B=true then (fastBuiltinMro A).map (·.contains (.type B)) else none
theorem oi {K:Fg} {A B:String} {b:Bool} (h:f6 A B=some b):PySem.W.kitOne K (.type A) (.type B)=some b:=h
inductive Ty (H:Hp):V->String->Prop where
 | non:Ty H .non "NoneType"
 | bl (b:Bool):Ty H (.bl b) "bool"
 | int (i:Int):Ty H (.int i) "int"
 | str (x:Str):Ty H (.str x) "str"
 | lst {a:Addr} {xs:List V} (e:H a=some (.lst xs)):Ty H (.ref a) "list"
 | tup {a:Addr} {xs:List V} (e:H a=some (.tup xs)):Ty H (.ref a) "tuple"
theorem Ty.of {H:Hp} {v:V} {n:String} (K:Fg) (h:Ty H v n):gL K H v (.type n):=by
 cases h with
 | non=>exact .non
 | bl b=>exact .bl b
 | int i=>exact .int i
 | str x=>exact .str x
 | lst e=>exact .lst e
 | tup e=>exact .tup e
def Eg:List V->Hp->VK->Prop:=fun xs H Q=>∃ x n m b,xs=[x,.ty n]/\Ty H x m/\f6 m n=some b/\Q (.bl b) H
theorem dX {X:Cx}:b8 X (.builtin "isinstance") Eg:=by
 intro pins s σ H xs us Q I r h
 obtain⟨x,n,m,b,rfl,ty,e,q⟩:=h
 obtain⟨u,u2,rfl,rx,ry⟩:=jD r
 obtain rfl:u2=Value.type n:=ry
 exact qF I rx (ty.of X.K) (oi e) fun tk=>⟨.bl b,H,I.tok tk,rfl,q⟩
def DT:V->Bool
 | .int _=>true
 | _=>false
def FC (n:String):Bool:=n == "tuple"
structure Step (t:Addr) (H H':Hp):Prop where
 keep:∀ b o,b≠t->H b=some o->H' b=some o
 tp:∃ xs,H t=some (.lst xs)
 tp':∃ xs,H' t=some (.lst xs)
theorem Step.trans {t:Addr} {H H1 H2:Hp} (a:Step t H H1) (b:Step t H1 H2):Step t H H2:=⟨fun c o n e=>b.keep c o n (a.keep c o n e),a.tp,b.tp'⟩
theorem Step.up {t:Addr} {H:Hp} {xs ys:List V} (h:H t=some (.lst xs)):Step t H (upd H t (.lst ys)):=⟨fun c o n e=>by rw [aw n];exact e,⟨_,h⟩,⟨_,ai⟩⟩
theorem ak {H:Hp} {p:Addr} (h:H p=none) (o:HO):aA H (upd H p o):=fun b u q=>by rw [aw (aM q h)];exact q
theorem Step.same {t:Addr} {H H':Hp} (s:aA H H') (h:∃ xs,H t=some (.lst xs)):Step t H H':=⟨fun c o _ e=>s c o e,h,let ⟨xs,e⟩:=h;⟨xs,s _ _ e⟩⟩
theorem Step.new {t p:Addr} {H:Hp} (h:∃ xs,H t=some (.lst xs)) (n:H p=none) (o:HO):Step t H (upd H p o):=Step.same (ak n o) h
theorem Step.refl {t:Addr} {H:Hp} (h:∃ xs,H t=some (.lst xs)):Step t H H:=⟨fun _ _ _ e=>e,h,h⟩
def Th (H:Hp) (v:V):Prop:=∃ n,Ty H v n/\∀ a xs,v=.ref a->H a=some (.tup xs)->∀ x∈xs,∃ m,Ty H x m
theorem zU {xs:List V} {r:Int} (h0:0≤r) (h1:r < (xs.length:Int)):∃ v,pJ xs r=some v/\v∈xs:=by
 have hk:r.toNat < xs.length:=by omega
 have ek:r=((r.toNat:Nat):Int):=by omega
 have q:pJ xs ((r.toNat:Nat):Int)=some xs[r.toNat]:=aN (List.getElem?_eq_getElem hk)
 rw [← ek] at q
 exact⟨_,q,List.getElem_mem hk⟩
theorem tY {ns:List Int} {r:Int} (h0:0≤r) (h1:r < (ns.length:Int)):∃ z:Int,pJ (ns.map V.int) r=some (.int z):=by
 obtain⟨v,h,hv⟩:=zU (xs:=ns.map V.int) h0 (by rw [List.length_map];exact h1)
 obtain⟨z,_,rfl⟩:=List.mem_map.mp hv
 exact⟨z,h⟩
structure bE (H:Hp) (t s:Addr):Prop where
 ex:∃ (ns:List Int) (p q r:Int),H t=some (.lst [.ref s,.int p,.int q,.int r])/\H s=some (.lst (ns.map V.int))/\s≠t/\ns.length≤63/\0≤p/\0≤q/\0≤r
theorem bE.lst {H:Hp} {t s:Addr} (h:bE H t s):∃ xs,H t=some (.lst xs):=let ⟨_,_,_,_,e,_⟩:=h.ex;⟨_,e⟩
theorem bE.scr {H:Hp} {t s:Addr} (h:bE H t s):∃ xs,H s=some (.lst xs):=let ⟨_,_,_,_,_,e,_⟩:=h.ex;⟨_,e⟩
theorem bE.same {H H':Hp} {t s:Addr} (h:bE H t s) (z:aA H H'):bE H' t s:=by
 obtain⟨ns,p,q,r,h1,h2,h3⟩:=h.ex
 exact⟨ns,p,q,r,z _ _ h1,z _ _ h2,h3⟩
theorem bE.new {H:Hp} {t s p:Addr} (h:bE H t s) (n:H p=none) (o:HO):bE (upd H p o) t s:=h.same (ak n o)
theorem bE.upl {H:Hp} {t s l:Addr} (h:bE H t s) (a:l≠t) (b:l≠s) (o:HO):bE (upd H l o) t s:=by
 obtain⟨ns,p,q,r,h1,h2,h3⟩:=h.ex
 exact⟨ns,p,q,r,by rw [aw a.symm];exact h1,by rw [aw b.symm];exact h2,h3⟩
theorem C5 (ns:List Int):dw (ns.map V.int) none (some 63)=(ns.take (min 63 ns.length)).map V.int:=by
 unfold dw
 rw [show (some (63:Int))=some (((63:Nat):Int)) from rfl,HT.sIx_nat,HT.sIx_none,List.length_map,Nat.sub_zero,List.drop_zero,List.map_take]
def vF (K:Fg):Sp:=fun vs H Q _=>∃ (a:Addr) (ns:List Int),vs=[.ref a]/\aQ K H a (ns.map V.int)/\∀ (t s:Addr) (H':Hp),aA H H'->H t=none->H s=none->bE H' t s->Q (.ref t) H'
def vI:Sp:=fun vs H Q _=>∃ (t s:Addr) (m:Int),vs=[.ref t,.int m]/\bE H t s/\0 < m/\m < 1073741824/\∀ (r:Int) (xs:List V),0≤r->r < m->bE (upd H t (.lst xs)) t s->Q (.int r) (upd H t (.lst xs))
def vH (K:Fg):Sp:=fun vs H Q _=>∃ (a:Addr) (ns:List Int),vs=[.ref a]/\aQ K H a (ns.map V.int)/\ns.length≤63/\∀ H',Q (.bl true) H'
theorem mK {a b:Int} (ha:0≤a) (hb:0 < b):Int.gcd b (a % b)=Int.gcd a b:=by
 obtain⟨n,rfl⟩:=Int.eq_ofNat_of_zero_le ha
 obtain⟨m,rfl⟩:=Int.eq_ofNat_of_zero_le (Int.le_of_lt hb)
 rw [← Int.natCast_emod]
 show Nat.gcd m (n % m)=Nat.gcd n m
 rw [Nat.gcd_comm m,← Nat.gcd_rec,Nat.gcd_comm]
theorem lj (i:Int):(if i < 0 then -i else i)=(i.natAbs:Int):=by split <;> omega
end B
namespace B
open PySem PySem.Spec L2 PyProof.Rows
mutual
inductive aW (K:Fg) (H:Hp):V->PyData->Prop where
 | non:aW K H .non .none
 | bl (b:Bool):aW K H (.bl b) (.bool b)
 | int (i:Int):aW K H (.int i) (.int i)
 | str (x:Str):aW K H (.str x) (.str x)
 | lst {a:Addr} {xs:List V} {ds:List PyData} (e:aQ K H a xs) (h:aH K H xs ds):aW K H (.ref a) (.list ds)
 | tup {a:Addr} {xs:List V} {ds:List PyData} (e:aV K H a xs) (h:aH K H xs ds):aW K H (.ref a) (.tuple ds)
inductive aH (K:Fg) (H:Hp):List V->List PyData->Prop where
 | nil:aH K H [] []
 | cons {x:V} {d:PyData} {xs:List V} {ds:List PyData} (h:aW K H x d) (t:aH K H xs ds):aH K H (x :: xs) (d :: ds)
end
mutual
theorem aW.reads {X:Cx} {pins:bo} {σ:L2.St} {H:Hp} {s:Shared} (I:Inv X pins σ H s):∀ {v:V} {d:PyData} {u:Value},aW X.K H v d->aU v u->∃ as,Reads s.heap u d as
 | _,_,u,.non,r=>by cases (show u=Value.none from r);exact⟨_,.none⟩
 | _,_,u,.bl b,r=>by cases (show u=Value.bool b from r);exact⟨_,.bool b⟩
 | _,_,u,.int i,r=>by obtain⟨t,q⟩:=(show ∃ t,u=Value.int i t from r);cases q;exact⟨_,.int i t⟩
 | _,_,u,.str x,r=>by obtain⟨t,q⟩:=(show ∃ t,u=Value.str x t from r);cases q;exact⟨_,.str x t⟩
 | _,_,u,.lst (a:=a) e h,r=>by
  cases (show u=Value.ref a from r)
  obtain⟨its,rv,⟨o,n,ho,hc,_,hd⟩,_⟩:=I.list e
  obtain⟨as,q⟩:=aH.reads I h rv
  exact⟨_,.list ho hc hd (by simpa using q)⟩
 | _,_,u,.tup (a:=a) e h,r=>by
  cases (show u=Value.ref a from r)
  obtain⟨its,rv,⟨o,ho,hc,n,hd⟩,_⟩:=I.tuple e
  obtain⟨as,q⟩:=aH.reads I h rv
  exact⟨_,.tuple ho hc hd (by simpa using q)⟩
theorem aH.reads {X:Cx} {pins:bo} {σ:L2.St} {H:Hp} {s:Shared} (I:Inv X pins σ H s):∀ {vs:List V} {ds:List PyData} {us:List Value},aH X.K H vs ds->aT vs us->∃ as,ReadsAll s.heap us ds as
 | _,_,_,.nil,.nil=>⟨_,.nil⟩
 | _,_,_,.cons h t,.cons r q=>
  let ⟨_,a⟩:=aW.reads I h r
  let ⟨_,b⟩:=aH.reads I t q
  ⟨_,.cons a b⟩
end
structure vk (d:PyData):Prop where
 sh:d.showable=true
 nd:d.hasDict=false
 sz:d.shown.length≤sizeLine
 dp:d.depth≤16
def Cb (K:Fg):List V->Hp->VK->Prop:=fun xs H Q=>∃ v d,xs=[v]/\aW K H v d/\vk d/\Q (.str d.shown) H
theorem df {X:Cx} {k:Nat} (hr:cc k X.A):b8 X (.builtin "repr") (Cb X.K):=by
 intro pins s σ H xs us Q I r h
 obtain⟨v,d,rfl,dp,sh,q⟩:=h
 obtain⟨u,rfl,ru⟩:=dP r
 cases dp with
 | non=>cases (show u=Value.none from ru);exact PySem.P.repr_of_none ⟨.str "None", H,I.tok _,⟨_,rfl⟩,q⟩
 | bl b=>cases (show u=Value.bool b from ru);exact PySem.P.repr_of_bool ⟨.str _,H,I.tok _,⟨_,rfl⟩,q⟩
 | int i=>
  obtain⟨t,e⟩:=(show ∃ t,u=Value.int i t from ru)
  cases e
  exact PySem.P.repr_of_int (of_decide_eq_true sh.sh) ⟨.str _,H,I.tok _,⟨_,rfl⟩,q⟩
 | str x=>
  obtain⟨t,e⟩:=(show ∃ t,u=Value.str x t from ru)
  cases e
  exact PySem.P.repr_of_str ⟨.str _,H,I.tok _,⟨_,rfl⟩,q⟩ sh.sz
 | @lst a ys ds e h=>
  cases (show u=Value.ref a from ru)
  obtain⟨as,rd⟩:=aW.reads I (.lst e h) (show aU (.ref a) (.ref a) from rfl)
  exact repr_of_reads' rd sh.sh (fun z=>by rw [sh.nd] at z;cases z) hr.gd (by have:=hr.units;have:=sh.dp;omega) (fun _ _ z=>z) (fun h' u tk hk=>⟨.str _,H,I.kept hk,⟨_,rfl⟩,q⟩) sh.sz
 | @tup a ys ds e h=>
  cases (show u=Value.ref a from ru)
  obtain⟨as,rd⟩:=aW.reads I (.tup e h) (show aU (.ref a) (.ref a) from rfl)
  exact repr_of_reads' rd sh.sh (fun z=>by rw [sh.nd] at z;cases z) hr.gd (by have:=hr.units;have:=sh.dp;omega) (fun _ _ z=>z) (fun h' u tk hk=>⟨.str _,H,I.kept hk,⟨_,rfl⟩,q⟩) sh.sz
end B
namespace B
open PySem PySem.Spec L2 PyProof.Rows
def ix (X:Cx) (N':List Str) (scope:Scope) (cl:List (Str×Addr)) (C:Addr) (fp:List Addr) (pins:bo) (s:Shared) (H:Hp):Cx:=
 { X with N:=N',s₀:=s,H₀:=H,env:=compEnvC scope cl C X.env,outer:=X.stack,stack:=X.stack,ex:=fp,fn:=fun _=>false,pn:=X.pn++pins,xe:=fun _ _=>False }
def cq (X:Cx) (scope:Scope) (cl:List (Str×Addr)):List Str->List (Option Nat)->Prop
 | [],[]=>True
 | _ :: N,none :: r=>cq X scope cl N r
 | x :: N,some j :: r=>X.N[j]?=some x/\X.env.kindOf x=some .cell/\(compEnvC scope cl 0 X.env).kindOf x=some .cell/\cl.lookup x=X.env.cells.lookup x/\cq X scope cl N r
 | _,_=>False
def bw (src:List (Option Nat)) (σ:L2.St):L2.St:=src.map fun o=>o.bind fun j=>(σ[j]?).getD none
theorem cq.len {X:Cx} {scope:Scope} {cl:List (Str×Addr)}:∀ {N:List Str} {src:List (Option Nat)},cq X scope cl N src->N.length=src.length
 | [],[],_=>rfl
 | _ :: _,none :: _,h=>congrArg (·+1) (cq.len (X:=X) (scope:=scope) (cl:=cl) h)
 | _ :: _,some _ :: _,h=>congrArg (·+1) (cq.len (X:=X) (scope:=scope) (cl:=cl) h.2.2.2.2)
theorem cq.at {X:Cx} {scope:Scope} {cl:List (Str×Addr)} {σ:L2.St}:∀ {N:List Str} {src:List (Option Nat)} {i:Nat} {x:Str} {v:V},cq X scope cl N src->N[i]?=some x->(bw src σ)[i]?=some (some v)→
  ∃ j:Nat,X.N[j]?=some x/\σ[j]?=some (some v)/\X.env.kindOf x=some .cell/\(compEnvC scope cl 0 X.env).kindOf x=some .cell/\cl.lookup x=X.env.cells.lookup x
 | y :: N,none :: r,0,x,v,h,e,q=>by cases q
 | y :: N,none :: r,i+1,x,v,h,e,q=>cq.at (N:=N) (src:=r) (i:=i) h e q
 | y :: N,some j :: r,0,x,v,h,e,q=>by
  cases e
  refine⟨j,h.1,?_,h.2.1,h.2.2.1,h.2.2.2.1⟩
  have q':some ((σ[j]?).getD none)=some (some v):=q
  injection q' with q'
  cases z:σ[j]? with
  | none=>rw [z] at q';cases q'
  | some o=>rw [z] at q';exact congrArg some q'
 | y :: N,some j :: r,i+1,x,v,h,e,q=>cq.at (N:=N) (src:=r) (i:=i) h.2.2.2.2 e q
def dF (X:Cx) (scope:Scope) (cl:List (Str×Addr)):Prop:=
 (∀ x,((compEnvC scope cl 0 X.env).kindOf x=some .cell∨(compEnvC scope cl 0 X.env).kindOf x=some .free)->∃ c,cl.lookup x=some c)/\∀ x c,cl.lookup x=some c->X.env.cells.lookup x=some c
def gh (X:Cx):List (Str×Addr)->Prop
 | []=>True
 | y :: r=>X.env.cells.lookup y.1=some y.2/\gh X r
theorem gh.mem {X:Cx}:∀ {cl:List (Str×Addr)},gh X cl->∀ y∈cl,X.env.cells.lookup y.1=some y.2
 | [],_,y,h=>by cases h
 | z :: r,k,y,h=>by
  rcases List.mem_cons.mp h with e | h
  ·rw [e];exact k.1
  ·exact gh.mem k.2 y h
theorem mem_of_lookup {α:Type} {x:Str} {v:α}:∀ {l:List (Str×α)},l.lookup x=some v->(x,v)∈l
 | [],h=>by cases h
 | (y,w) :: r,h=>by
  rw [List.lookup_cons] at h
  cases e:x == y with
  | true=>
   rw [e] at h
   have e':x=y:=eq_of_beq e
   cases h
   rw [e'];exact List.mem_cons_self
  | false=>
   rw [e] at h
   exact List.mem_cons_of_mem _ (mem_of_lookup h)
theorem aY {X:Cx} {scope:Scope} {cl:List (Str×Addr)} (h1:((relabel scope X.env).names.all fun y=>!(y.2 == .cell || y.2 == .free) || (cl.lookup y.1).isSome)=true) (h2:gh X cl):dF X scope cl:=by
 refine⟨fun x h=>?_,fun x c e=>h2.mem _ (mem_of_lookup e)⟩
 have h3:=List.all_eq_true.mp h1
 have key:∀ k:NameKind,(k=.cell∨k=.free)->(relabel scope X.env).names.lookup x=some k->∃ c,cl.lookup x=some c:=fun k hk e=>by
  have q:=h3 _ (mem_of_lookup e)
  have z:(k == NameKind.cell || k == NameKind.free)=true:=by rcases hk with rfl | rfl <;> rfl
  simp only [z,Bool.not_true,Bool.false_or] at q
  exact Option.isSome_iff_exists.mp q
 rcases h with h | h
 ·exact key _ (.inl rfl) h
 ·exact key _ (.inr rfl) h
def dz (σ σ':L2.St):Prop:=σ'.length=σ.length/\∀ (i:Nat) (v:V),σ[i]?=some (some v)->σ'[i]?=some (some v)
theorem dz.set {σ:L2.St} {i:Nat} {v:V} (h:σ[i]?=some none):dz σ (σ.set i (some v)):=by
 refine⟨List.length_set,fun j u e=>?_⟩
 have ne:i≠j:=fun z=>by subst z;rw [h] at e;cases e
 rw [List.getElem?_set_ne ne];exact e
theorem dz.set' {σ τ:L2.St} {i:Nat} {v:V} (e:dz σ τ) (h:σ[i]?=some none):dz σ (τ.set i (some v)):=by
 refine⟨by rw [List.length_set];exact e.1,fun j u q=>?_⟩
 have ne:i≠j:=fun z=>by subst z;rw [h] at q;cases q
 rw [List.getElem?_set_ne ne];exact e.2 j u q
section
variable {X:Cx} {N':List Str} {scope:Scope} {cl:List (Str×Addr)} {src:List (Option Nat)} {pins:bo} {σ:L2.St} {H:Hp} {s:Shared} {fp:List Addr}
theorem Cx.comp_ok {C:Addr} (I:Inv X pins σ H s) (hC:s.heap.objs.size≤C) (hk:scope.kind=.function) (hf:∀ b∈fp,gg X pins H b) (hfs:∀ b∈fp,b < s.heap.objs.size) (hc:dF X scope cl) :
  (ix X N' scope cl C fp pins s H).Ok where
 mod:=I.ok.mod
 kind:=hk
 glob:=I.ok.glob
 blt:=I.ok.blt
 above:=hC
 inj:=fun x y c e1 e2=>I.ok.inj x y c (hc.2 x c e1) (hc.2 y c e2)
 has:=fun x h=>hc.1 x h
 cab:=fun x c z=>nomatch z
 hd:=I.ok.hd
 frames:=I.ok.frames
 stk:=.inl rfl
 exf:=fun b hb=>⟨fun z=>by have:=hfs b hb;rw [show b=C from z] at this;exact absurd (Nat.lt_of_lt_of_le this hC) (Nat.lt_irrefl _),fun x c e=>(hf b hb).2.2.2.2.1 x c (hc.2 x c e)⟩
 bs:=I.bs
 bsz:=Nat.le_trans I.ok.bsz I.sz
 noex:=fun b o e hb=>by
  rcases (hf b hb).2.2.2.1 with z | z
  ·exact I.ok.noex b o e z
  ·rw [(I.ok.bs b o e).1] at z;cases z
 exfs:=fun b hb z=>by
  rcases List.mem_cons.mp (I.stkSub b z) with q | q
  ·exact (hf b hb).2.1 q
  ·exact (hf b hb).2.2.1 q
 funs:=I.stack
 frf:=I.stkFree
theorem Inv.comp {C:Addr} {h₁:Heap} {m:Str->Option Value} {tk:Nat} (I:Inv X pins σ H s) (hC:C=s.heap.objs.size) (hns:h₁.Ns C m) (keep:∀ b o,s.heap.get? b=some o->h₁.get? b=some o)
  (hk:scope.kind=.function) (hf:∀ b∈fp,gg X pins H b) (hfs:∀ b∈fp,b < s.heap.objs.size) (hc:dF X scope cl) (hfree:cq X scope cl N' src) :
  Inv (ix X N' scope cl C fp pins s H) [] (bw src σ) H { s with heap:=h₁,toks:=tk } where
 ok:=Cx.comp_ok I (Nat.le_of_eq hC.symm) hk hf hfs hc
 os:=rfl
 bare:=I.bare
 base:=Un.kept keep
 loc:=⟨m,hns,fun i x v e1 e2 _=>by
  obtain⟨j,hj,hσ,kc,kc',hl⟩:=hfree.at e1 e2
  obtain⟨m0,hn0,hl0⟩:=I.loc
  obtain⟨u,r,l⟩:=hl0 j x v hj hσ (Or.inr (Or.inl kc))
  rcases l with ⟨k,_⟩ | ⟨k,c,e,o,ho,hd⟩
  ·rw [kc] at k;cases k
  ·exact⟨u,r,.inr ⟨.inl kc',c,hl.trans e,o,keep c o ho,hd⟩⟩⟩
 cell:=fun x c e=>let ⟨v,o,ho,hd⟩:=I.cell x c (hc.2 x c e);⟨v,o,keep _ _ ho,hd⟩
 free:=I.hok.fresh (Nat.le_of_eq hC.symm)
 freeC:=fun x c e=>I.freeC x c (hc.2 x c e)
 pin:=fun p hp=>by
  have hp':p∈X.pn++pins:=by
   have z:p∈(X.pn++pins)++[]:=hp
   rw [List.append_nil] at z;exact z
  obtain⟨e,n,ne,nf,d⟩:=I.pin p hp'
  refine⟨keep _ _ e,n,fun z=>?_,fun z=>?_,d⟩
  ·have:=Heap.lt_size e;rw [show p.1=C from z,hC] at this;exact Nat.lt_irrefl _ this
  ·rcases List.mem_cons.mp (I.stkSub _ z) with q | q
   ·exact ne q
   ·exact nf q
 hok:=I.hok.kept keep
 len:=by show (bw src σ).length=N'.length;unfold bw;rw [List.length_map,hfree.len]
end
def Bn (X:Cx) (ifs:List Expr) (t:TT):Prop:=
 ∀ (pins:bo) (s:Shared) (σ:L2.St) (H:Hp) (Q:Bool->Hp->Prop),Inv X pins σ H s->t σ H Q→
  wpAny (model X.prog X.w) X.A (forIn ifs true fun c r=>if r=true then do let ok ← isTrue c X.env (eval c X.env);pure (ForInStep.yield ok) else pure (ForInStep.yield r)) (TP X pins σ Q) X.xe s
def By:TT:=fun _ H Q=>Q true H
theorem vY {X:Cx}:Bn X [] By:=fun _ _ _ H _ I h=>wpAny_tests_nil ⟨H,I,h⟩
theorem vX {X:Cx} {c:Expr} {t:TT} (h:PT X c t):Bn X [c] t:=fun pins s σ H Q I q=>wpAny_tests_one (h pins s σ H Q I q)
section
variable {prog:Program} {w:World} {A:Around} {R:Result->Shared->Prop} {s:Shared}
theorem qS {elt target iter:Expr} {ifs:List Expr} {scope:Scope} {pos:Pos} {it acc:Value} {env:Env} (I:Nat->Shared->Prop)
  (turn:∀ n s,I n s->wpAny (model prog w) A (pyNext it) (fun r s₁=>match r with
   | none=>R (.ok .next) s₁
   | some v=>wpAny (model prog w) A (letOwnedTupleGo target it v) (fun _ s₁'=>wpAny (model prog w) A (assign target env v) (fun _ s₂=>
     wpAny (model prog w) A (forIn ifs true fun c r=>if r=true then do let ok ← isTrue c env (eval c env);pure (ForInStep.yield ok) else pure (ForInStep.yield r)) (fun ok s₃=>
      if ok=true then wpAny (model prog w) A (eval elt env) (fun x s₄=>
       wpAny (model prog w) A (call (.builtin "list.append") [acc,x]) (fun _ s₅=>∃ m,m < n/\I m s₅) (fun _ _=>False) s₄) (fun _ _=>False) s₃
      else ∃ m,m < n/\I m s₃) (fun _ _=>False) s₂) (fun _ _=>False) s₁') (fun _ _=>False) s₁) (fun _ _=>False) s)
  (n:Nat) (h:I n s):codeAny (model prog w) A (.compLoop (.ListComp elt [⟨target,iter,ifs,0⟩] scope pos) 0 it acc env) R s:=by
 refine codeAny_loop rfl I (fun n s hI=>?_) n h
 show wpAny _ A ((compTurn (.ListComp elt [⟨target,iter,ifs,0⟩] scope pos) 0 it acc env).onRaise (fun x=>do noteFrame x env;theTreesLotGoes x)) _ _ s
 refine wpAny_noted ?_
 rw [compTurn_list]
 refine wpAny_bind (wpAny_standAt (wpAny_bind (wpAny_mono (turn n s hI) (fun r s₁ h₁=>?_) fun _ _ h'=>h'.elim)))
 cases r with
 | none=>exact wpAny_pure h₁
 | some v=>
  refine wpAny_bind (wpAny_mono h₁ (fun _ s₁' h₁'=>?_) fun _ _ h'=>h'.elim)
  refine wpAny_bind (wpAny_mono h₁' (fun _ s₂ h₂=>wpAny_bind (wpAny_mono h₂ (fun ok s₃ h₃=>?_) fun _ _ h'=>h'.elim)) fun _ _ h'=>h'.elim)
  cases ok with
  | false=>exact wpAny_pure ⟨rfl,h₃⟩
  | true=>
   exact wpAny_bind (wpAny_bind (wpAny_mono h₃ (fun x s₄ h₄=>wpAny_bind (wpAny_mono h₄ (fun _ s₅ h₅=>wpAny_pure (wpAny_pure ⟨rfl,h₅⟩)) fun _ _ h'=>h'.elim)) fun _ _ h'=>h'.elim))
end
structure xL (X:Cx) (pins:bo) (H:Hp) (C:Addr):Prop where
 no:H C=none
 lo:C≠X.env.locals
 fs:C∉X.fs
 old:X.s₀.heap.get? C=none
 ce:∀ x c,X.env.cells.lookup x=some c->c≠C
 pn:∀ p∈X.pn++pins,p.1≠C
theorem xL.turned {X:Cx} {pins:bo} {σ:L2.St} {H:Hp} {C:Addr} {s:Shared} (o:xL X pins H C) (I:Inv X pins σ H s) {h':Heap} (sb:Heap.SameBut C s.heap h'):Inv X pins σ H { s with heap:=h' }:=
 I.turned (it:=C) (t':=s.toks) (fun b u hb e=>sb.extBut b u hb e) o.no o.lo (.inr o.old) o.ce o.pn
def lK (wi:TI) (src:List (Option Nat)) (g:TG) (tt:TT) (te:TE):TE:=fun σ H Q=>wi σ H fun J H1=>∀ D,H1 D=none->∃ W:Nat->Nat->List V->Hp->Prop,
 (∃ m,W 0 m [] (upd H1 D (.lst [])))/\∀ i m ys H,W i m ys H->(J.stop i H/\Q (.ref D) H)∨(J.go i H/\∀ x H',J.yld i H x H'->g x (bw src σ) H' fun σ2 H2=>dz (bw src σ) σ2/\tt σ2 H2 fun ok H3=>
  if ok=true then te σ2 H3 fun y H4=>H4 D=some (.lst ys)/\ys.length < sizeLine/\∃ m',m' < m/\W (i+1) m' (ys++[y]) (upd H4 D (.lst (ys++[y]))) else ∃ m',m' < m/\W (i+1) m' ys H3)
section
variable {X:Cx} {N':List Str} {scope:Scope} {cl:List (Str×Addr)} {src:List (Option Nat)} {tg iter elt:Expr} {ifs:List Expr} {wi:TI} {g:TG} {tt:TT} {te:TE} {pos:Pos}
theorem mW (hc:X.calm=true) (hi:PI X tg iter wi) (hg:∀ C fp pins s H,PG (ix X N' scope cl C fp pins s H) tg g) (ht:∀ C fp pins s H,Bn (ix X N' scope cl C fp pins s H) ifs tt)
  (he:∀ C fp pins s H,PE (ix X N' scope cl C fp pins s H) elt te) (hfree:cq X scope cl N' src) (hcell:∀ x∈scope.names,x.2≠.cell) (hkind:scope.kind=.function) (hcl:dF X scope cl)
  {RR:Value->Addr->Result->Shared->Prop} {pins:bo} {s:Shared} {σ:L2.St} {H:Hp} {Q:VK} (I:Inv X pins σ H s) (h:lK wi src g tt te σ H Q)
  (hRR:∀ D C H' s',Q (.ref D) H'->(∃ m,s'.heap.Ns C m)->Inv X pins σ H' s'->xL X pins H' C->RR (.ref D) C (.ok .next) s') :
  wpAny (model X.prog X.w) X.A (eval iter X.env) (fun x s₁=>wpAny (model X.prog X.w) X.A (pyIter x) (fun itv s₂=>wpAny (model X.prog X.w) X.A (newList []) (fun acc s₃=>
   wpAny (model X.prog X.w) X.A (newFunctionEnv scope X.env.globals cl [] X.env.qual none .none (some X.env)) (fun cenv s₄=>
    codeAny (model X.prog X.w) X.A (.compStart (.ListComp elt [⟨tg,iter,ifs,0⟩] scope pos) 0 itv acc { cenv with scope:=relabel scope X.env }) (RR acc cenv.locals) s₄) X.xe s₃) X.xe s₂) X.xe s₁) X.xe s:=by
 refine bF (hi pins s σ H _ I h) fun v s1 h1=>bF h1 fun itv s2 h2=>?_
 obtain⟨it,fp,tn,J,H2,e,I2,T,st2,f2,h2⟩:=h2
 subst e
 refine wpAny_newObj_type ?_ (by show 0≤sizeLine;exact Nat.zero_le _)
 have hD:H2 s2.heap.objs.size=none:=I2.fresh
 have I3:Inv X pins σ (upd H2 s2.heap.objs.size (.lst [])) { s2 with heap:=s2.heap.push { cls:=.type "list", data:=.seq ([]:List Value).toArray } }:=I2.lnew (t':=s2.toks) (its:=[]) .nil (Nat.zero_le _)
 obtain⟨W,⟨m0,w0⟩,turn⟩:=h2 s2.heap.objs.size hD
 generalize hDe:s2.heap.objs.size=D at I3 turn w0 hD ⊢
 have st3:tn 0 (s2.heap.push { cls:=.type "list", data:=.seq ([]:List Value).toArray }):=T.keep _ _ _ st2 fun b _ o e=>Heap.get?_push_of_some _ e
 have f3:∀ b∈fp,gg X pins (upd H2 D (.lst [])) b/\b < (s2.heap.push { cls:=.type "list", data:=.seq ([]:List Value).toArray }).objs.size:=fun b hb=>by
  obtain⟨o,e,_⟩:=T.obj _ _ st2 b hb
  have l:=Heap.lt_size e
  rw [hDe] at l
  refine⟨⟨?_,(f2 b hb).2⟩,by rw [Heap.size_push,hDe];exact Nat.lt_succ_of_lt l⟩
  rw [aw (Nat.ne_of_lt l)];exact (f2 b hb).1
 generalize (s2.heap.push { cls:=.type "list", data:=.seq ([]:List Value).toArray })=h3 at I3 st3 f3 ⊢
 refine wpAny_newFunctionEnv hcell (by intro y hy;simp at hy) (fun h₄ hns₄ hsb₄=>?_) hkind
 have keep:∀ b o,h3.get? b=some o->h₄.get? b=some o:=fun b o e=>hsb₄.extBut b o (Nat.ne_of_lt (Heap.lt_size e)) (Heap.get?_push_of_some _ e)
 have I4:=Inv.comp (C:=h3.objs.size) (fp:=fp) (tk:=s2.toks+([]:List (Str×Value)).length) I3 rfl hns₄ keep hkind (fun b hb=>(f3 b hb).1) (fun b hb=>(f3 b hb).2) hcl hfree
 have st4:tn 0 h₄:=T.keep _ _ _ st3 fun b _ o e=>keep b o e
 have fpn:∀ b∈fp,(upd H2 D (.lst [])) b=none:=fun b hb=>(f3 b hb).1.1
 have hn3:∀ b∈fp,b≠h3.objs.size:=fun b hb=>Nat.ne_of_lt (f3 b hb).2
 have stat:∀ {H':Hp},(∀ b∈fp,H' b=none)->∀ b∈fp,gg (ix X N' scope cl h3.objs.size fp pins { s2 with heap:=h3 } (upd H2 D (.lst []))) [] H' b:=fun hn b hb=>
  ⟨hn b hb,hn3 b hb,I4.ok.exfs b hb,.inl hb,fun x c e=>(f3 b hb).1.2.2.2.2.1 x c (hcl.2 x c e),fun p hp=>(f3 b hb).1.2.2.2.2.2 p (by
   have z:p∈(X.pn++pins)++[]:=hp
   rw [List.append_nil] at z;exact z)⟩
 have back:∀ {H':Hp} {s':Shared},Inv (ix X N' scope cl h3.objs.size fp pins { s2 with heap:=h3 } (upd H2 D (.lst []))) [] (bw src σ) H' s'->(∃ m,s'.heap.Ns h3.objs.size m)/\Inv X pins σ H' s'/\xL X pins H' h3.objs.size:=fun {H' s'} I'=>by
  have Ib:Inv X pins σ H' s':=I3.call' I'.os I'.base I'.hok I'.bare fun b hb=>⟨(f3 b hb).1.2.2.2.1,(f3 b hb).1.2.1,(f3 b hb).1.2.2.2.2.1,(f3 b hb).1.2.2.2.2.2⟩
  refine⟨let ⟨m,hm,_⟩:=I'.loc;⟨m,hm⟩,Ib,⟨I'.free,fun z=>?_,I3.nofs (Nat.le_refl _),Heap.get?_none_of_le I3.sz,fun x c e z=>?_,fun p hp z=>?_⟩⟩
  ·have:=I3.lt;rw [← z] at this;exact Nat.lt_irrefl _ this
  ·obtain⟨v,o,ho,_⟩:=I3.cell x c e
   have:=Heap.lt_size ho;rw [z] at this;exact Nat.lt_irrefl _ this
  ·obtain⟨e,_⟩:=I3.pin p hp
   have:=Heap.lt_size e;rw [z] at this;exact Nat.lt_irrefl _ this
 have loop:codeAny (model X.prog X.w) X.A (.compLoop (.ListComp elt [⟨tg,iter,ifs,0⟩] scope pos) 0 (.ref it) (.ref D) (compEnvC scope cl h3.objs.size X.env)) (RR (.ref D) h3.objs.size) { s2 with heap:=h₄,toks:=s2.toks+([]:List (Str×Value)).length }:=by
  refine qS (fun n s'=>∃ i ys H',Inv (ix X N' scope cl h3.objs.size fp pins { s2 with heap:=h3 } (upd H2 D (.lst []))) [] (bw src σ) H' s'/\tn i s'.heap/\(∀ b∈fp,H' b=none)/\W i n ys H') ?_ m0 ⟨0,[],_,I4,st4,fpn,w0⟩
  rintro n s5 ⟨i,ys,H5,I5,st5,fr5,w5⟩
  rcases turn i n ys H5 w5 with ⟨stop,qn⟩ | ⟨go,step⟩
  ·refine bF (T.done (ix X N' scope cl h3.objs.size fp pins { s2 with heap:=h3 } (upd H2 D (.lst []))) rfl rfl rfl hc i [] s5 _ H5 _ I5 (stat fr5) st5 stop) fun r s6 ⟨hr,I6⟩=>?_
   subst hr
   obtain⟨b1,b2,b3⟩:=back I6
   exact hRR D _ H5 s6 qn b1 b2 b3
  ·refine bF (T.item (ix X N' scope cl h3.objs.size fp pins { s2 with heap:=h3 } (upd H2 D (.lst []))) rfl rfl rfl hc i [] s5 _ H5 _ I5 (stat fr5) st5 go) fun r s6 ⟨u,hr,h6⟩=>?_
   subst hr
   refine bF h6 fun _ s7 ⟨x,H7,I7,r7,y7,st7,fr7⟩=>?_
   have I7':=I7.pinned (stat fr7) (T.obj _ _ st7)
   refine bF (hg _ _ _ _ _ _ s7 _ H7 x u _ I7' r7 (step x H7 y7)) fun _ s8 ⟨σ8,H8,I8,ex8,q8⟩=>?_
   refine bF (ht _ _ _ _ _ _ s8 σ8 H8 _ I8 q8) fun ok s9 ⟨H9,I9,q9⟩=>?_
   have again:∀ {ys':List V} {Ha:Hp} {sa:Shared},Inv (ix X N' scope cl h3.objs.size fp pins { s2 with heap:=h3 } (upd H2 D (.lst []))) ([]++iO fp s7.heap) σ8 Ha sa->(∃ m',m' < n/\W (i+1) m' ys' Ha)→
     ∃ m,m < n/\∃ i ys H',Inv (ix X N' scope cl h3.objs.size fp pins { s2 with heap:=h3 } (upd H2 D (.lst []))) [] (bw src σ) H' sa/\tn i sa.heap/\(∀ b∈fp,H' b=none)/\W i m ys H':=fun {ys' Ha sa} Ia ⟨m',hm,wa⟩=>by
    refine⟨m',hm,i+1,ys',Ha,(Ia.unpinned).weak ex8.1.symm ex8.2,T.keep _ _ _ st7 fun b hb o e=>(Ia.pin (b,o) (List.mem_append_right _ (List.mem_append_right _ (ej hb e)))).1,fun b hb=>?_,wa⟩
    obtain⟨o,e,_⟩:=T.obj _ _ st7 b hb
    exact (Ia.pin (b,o) (List.mem_append_right _ (List.mem_append_right _ (ej hb e)))).2.1
   cases ok with
   | false=>exact again I9 q9
   | true=>
    refine bF (he _ _ _ _ _ _ s9 σ8 H9 _ I9 q9) fun y s10 ⟨yv,H10,I10,r10,q10,hz,wn⟩=>?_
    refine bF (gz _ s10 σ8 H10 (.ref D) [yv] (.ref D) [y] (fun _ Hz=>∃ m',m' < n/\W (i+1) m' (ys++[yv]) Hz) I10 rfl (.cons r10 .nil) ⟨D,ys,yv,rfl,rfl,q10,hz,wn⟩) fun _ s11 ⟨_,H11,I11,_,q11⟩=>?_
    exact again I11 q11
 exact codeAny_compStart_list loop (T.self _ 0 _ _ _ st4 loop)
theorem ue (hc:X.calm=true) (hi:PI X tg iter wi) (hg:∀ C fp pins s H,PG (ix X N' scope cl C fp pins s H) tg g) (ht:∀ C fp pins s H,Bn (ix X N' scope cl C fp pins s H) ifs tt)
  (he:∀ C fp pins s H,PE (ix X N' scope cl C fp pins s H) elt te) (hfree:cq X scope cl N' src) (hclos:closureFor scope X.env=pure cl) (hcell:∀ x∈scope.names,x.2≠.cell) (hkind:scope.kind=.function)
  (hnames:∀ x∈scope.names,x.2=.local->scope.names.lookup x.1=some .local) (hcl:dF X scope cl) (hs:∀ x,foldedSetIterable iter X.env x=pure x:=by intro _;rfl) :
  PE X (.ListComp elt [⟨tg,iter,ifs,0⟩] scope pos) (lK wi src g tt te):=by
 intro pins s σ H Q I h
 rw [eval_ListComp]
 refine wpAny_comprehension_free (use:=none) rfl hs hclos hkind hnames (mW hc hi hg ht he hfree hcell hkind hcl (RR:=fun acc C=>compPost (model X.prog X.w) X.A X.xe none (EP X pins σ Q) acc C) I h fun D C H' s' q hm hI hb=>?_)
 obtain⟨m,hm⟩:=hm
 exact⟨m,hm,fun h' sb=>⟨.ref D,H',hb.turned hI sb,rfl,q⟩⟩
theorem v4 {i:Nat} {x:Str} {pos' pos2:Pos} (hN:X.N.Nodup) (hi':X.N[i]?=some x) (hx:xM X.env.scope x) (hc:X.calm=true) (hi:PI X tg iter wi) (hg:∀ C fp pins s H,PG (ix X N' scope cl C fp pins s H) tg g) (ht:∀ C fp pins s H,Bn (ix X N' scope cl C fp pins s H) ifs tt)
  (he:∀ C fp pins s H,PE (ix X N' scope cl C fp pins s H) elt te) (hfree:cq X scope cl N' src) (hclos:closureFor scope X.env=pure cl) (hcell:∀ x∈scope.names,x.2≠.cell) (hkind:scope.kind=.function)
  (hnames:∀ x∈scope.names,x.2=.local->scope.names.lookup x.1=some .local) (hcl:dF X scope cl) (hs:∀ x,foldedSetIterable iter X.env x=pure x:=by intro _;rfl)
  (hsw:swapsWith (.ListComp elt [⟨tg,iter,ifs,0⟩] scope pos) (some (.Name x pos')) pos2.line X.env=pure true:=by rfl) (hf:X.fn x=true∨X.env.scope.names.lookup x=some .local:=by first | exact .inl rfl | exact .inr rfl | assumption) :
  PS X (.Assign [.Name x pos'] (.ListComp elt [⟨tg,iter,ifs,0⟩] scope pos) pos2) (nw (lK wi src g tt te) (i4 i)):=by
 intro pins s σ H D I h
 rw [exec_Assign_Name_used _ _ _ _ hsw]
 refine wpAny_bind (wpAny_standAt ?_)
 show wpAny _ _ ((comprehension (.ListComp elt [⟨tg,iter,ifs,0⟩] scope pos) scope X.env _ (newList []) false (eval iter X.env) (some (assign (.Name x pos') X.env)) >>= fun _=>pure ()) >>= fun _=>pure Flow.next) _ _ s
 refine wpAny_bind (wpAny_bind (wpAny_mono (wpAny_comprehension_free (use:=some (assign (.Name x pos') X.env)) (Q:=fun _ s''=>SP X pins D .next s'') rfl hs hclos hkind hnames (mW hc hi hg ht he hfree hcell hkind hcl (RR:=fun acc C=>compPost (model X.prog X.w) X.A X.xe (some (assign (.Name x pos') X.env)) (fun _ s''=>SP X pins D .next s'') acc C) I h fun E C H' s' q hm hI hb=>?_)) (fun _ s'' h''=>wpAny_pure (wpAny_pure h'')) fun _ _ e=>e))
 obtain⟨m,o,es,ep,ho,hd,r1,r2⟩:=hm
 have I':Inv X (pins++[(C,o)]) σ H' s':=hI.pins_of fun p hp=>by
  rcases List.mem_append.mp hp with h | h
  ·exact hI.pin p (List.mem_append_right _ h)
  ·rw [List.mem_singleton] at h
   rw [h]
   exact⟨ho,hb.no,hb.lo,hb.fs,fun v z=>by rw [hd] at z;cases z⟩
 refine wpAny_assign_Name (dQ I' hN hi' hx (show aU (.ref E) (.ref E) from rfl) (fun s'' I''=>?_) hf)
 have hC:=(I''.pin (C,o) (List.mem_append_right _ (List.mem_append_right _ List.mem_cons_self))).1
 have I3:Inv X pins (σ.set i (some (.ref E))) H' s'':=I''.pins_of fun p hp=>I''.pin p (List.mem_append_right _ (List.mem_append_left _ hp))
 exact⟨m,⟨o,es,ep,hC,hd,r1,r2⟩,fun h' sb=>⟨_,H',hb.turned I3 sb,q⟩⟩
end
def Cc (K:Fg):R2:=fun x y H Q=>∃ d d',aW K H x d/\aW K H y d'/\d.canLay0=true/\d'.canLay0=true/\d.depth≤32/\Q (.bl (!PyData.eqv d d')) H
theorem iQ {X:Cx} {k:Nat} (hr:cc k X.A):dN X (compareOp .NotEq) (Cc X.K):=by
 intro pins s σ H x y v u Q I rx ry h
 obtain⟨d,d',hd,hd',c,c',dp,q⟩:=h
 obtain⟨as,ra⟩:=aW.reads I hd rx
 obtain⟨bs,rb⟩:=aW.reads I hd' ry
 exact SeqAt.compareNe_reads ra rb c c' (by have:=hr.units;omega) ⟨.bl _,H,I,rfl,q⟩
noncomputable def i0 (h:Heap) (x:Value) (d:PyData) (y:Value):Bool:=
 open Classical in if y=x then true else if z:∃ d',d'.canLay0=true/\d'.depth≤32/\∃ as,Reads h y d' as then PyData.eqv z.choose d else false
theorem uI {A:Around} {s:Shared} {x y:Value} {d:PyData} {as:List Addr} (rx:Reads s.heap x d as) (cx:d.canLay0=true) (hu:A.units+32 < cLine)
  (hy:∃ d',d'.canLay0=true/\d'.depth≤32/\∃ as,Reads s.heap y d' as):SeqAt.EqAt A s y x (i0 s.heap x d y):=by
 unfold i0
 by_cases e:y=x
 ·rw [if_pos e,e];exact SeqAt.EqAt.same x
 ·rw [if_neg e,dif_pos hy]
  obtain⟨c,dp,bs,r⟩:=hy.choose_spec
  exact SeqAt.eqAt_reads _ _ A s _ _ _ _ r rx c cx (by omega)
def pO (K:Fg) (H:Hp) (xs:List V):Prop:=∀ x∈xs,∃ d,aW K H x d/\d.canLay0=true/\d.depth≤32
theorem gZ {X:Cx} {pins:bo} {σ:L2.St} {H:Hp} {s:Shared} (I:Inv X pins σ H s):∀ {xs:List V} {us:List Value},aT xs us->pO X.K H xs->∀ u∈us,∃ d',d'.canLay0=true/\d'.depth≤32/\∃ as,Reads s.heap u d' as
 | _,_,.nil,_,u,hu=>by cases hu
 | x :: xs,w :: us,.cons r t,k,u,hu=>by
  rcases List.mem_cons.mp hu with rfl | hu
  ·obtain⟨d,hd,c,dp⟩:=k x List.mem_cons_self
   obtain⟨as,ra⟩:=aW.reads I hd r
   exact⟨d,c,dp,as,ra⟩
  ·exact gZ I t (fun y hy=>k y (List.mem_cons_of_mem _ hy)) u hu
def Dy (K:Fg):R2:=fun x y H Q=>∃ a p xs,x=.ref a/\y=.ref p/\aQ K H p xs/\V.ref a∈xs/\pO K H xs/\Q (.bl false) H
def DB (K:Fg):V->List V->Hp->VK->Prop:=fun x vs H Q=>∃ p xs a d,x=.ref p/\vs=[.ref a]/\aQ K H p xs/\V.ref a∈xs/\pO K H xs/\aW K H (.ref a) d/\d.canLay0=true/\d.depth≤32∧
 ∀ (j:Nat) (v':V),xs[j]?=some v'->(v'=.ref a∨∀ d',aW K H v' d'->d'.canLay0=true->PyData.eqv d' d=true)->Q (.int j) H
end B
namespace B
abbrev R:=Int×Int
def eJ (a b:Int):R:=(a / (Int.gcd a b:Int),b / (Int.gcd a b:Int))
structure Wf (n:Nat) (r:R):Prop where
 pos:0 < r.2
 top:r.1.natAbs < 2 ^ n
 bot:r.2.natAbs < 2 ^ n
 cop:Int.gcd r.1 r.2=1
theorem Wf.mono {n m:Nat} {r:R} (h:Wf n r) (l:n≤m):Wf m r:=⟨h.pos,Nat.lt_of_lt_of_le h.top (Nat.pow_le_pow_right (by decide) l),Nat.lt_of_lt_of_le h.bot (Nat.pow_le_pow_right (by decide) l),h.cop⟩
theorem bL {a b:Int} (hb:0 < b):0 < (Int.gcd a b:Int):=by
 have h:Int.gcd a b≠0:=fun z=>by
  have:=(Int.gcd_eq_zero_iff.mp z).2
  omega
 omega
theorem dI (a:Int) {g:Int} (hg:0 < g):(a / g).natAbs≤a.natAbs:=by
 have h1:=Int.ediv_mul_le a (show g≠0 by omega)
 have h2:=Int.lt_ediv_add_one_mul_self a hg
 rcases Int.le_total 0 a with h | h
 ·have h3:=Int.ediv_nonneg h (show 0≤g by omega)
  have h4:a / g≤a / g * g:=by
   have:a / g * 1≤a / g * g:=Int.mul_le_mul_of_nonneg_left (by omega) h3
   omega
  omega
 ·have h3:a / g≤0:=by
   have:=Int.ediv_le_ediv hg h
   rw [Int.zero_ediv] at this;exact this
  have h5:a≤a / g:=by
   have:a / 1≤a / g:=by
    have q:(a / g+1) * g≤(a / g+1) * 1∨0 < a / g+1:=by
     rcases Int.le_total (a / g+1) 0 with z | z
     ·left
      have:=Int.mul_le_mul_of_nonneg_left (a:=1) (b:=g) (c:=-(a / g+1)) (by omega) (by omega)
      have e1:-(a / g+1) * 1=-((a / g+1) * 1):=Int.neg_mul _ _
      have e2:-(a / g+1) * g=-((a / g+1) * g):=Int.neg_mul _ _
      omega
     ·rcases Int.lt_or_eq_of_le z with z | z
      ·right;exact z
      ·left;rw [← z];simp
    rw [Int.ediv_one]
    rcases q with q | q
    ·omega
    ·omega
   rw [Int.ediv_one] at this;exact this
  omega
theorem kM {n:Nat} {a b:Int} (hb:0 < b) (h1:a.natAbs < 2 ^ n) (h2:b.natAbs < 2 ^ n):Wf n (eJ a b):=
 ⟨Int.ediv_pos_of_pos_of_dvd hb (Int.le_of_lt (bL hb)) (Int.gcd_dvd_right a b),Nat.lt_of_le_of_lt (dI _ (bL hb)) h1,Nat.lt_of_le_of_lt (dI _ (bL hb)) h2,Int.gcd_ediv_gcd_ediv_gcd (by have:=bL (a:=a) hb;omega)⟩
def ci (r q:R):R:=eJ (r.1 * q.2+q.1 * r.2) (r.2 * q.2)
def bG (r q:R):R:=eJ (r.1 * q.1) (r.2 * q.2)
def gY (r q:R):Bool:=decide (r.1 * q.2 < q.1 * r.2)
theorem fK {x y:Int} {n m:Nat} (h1:x.natAbs < 2 ^ n) (h2:y.natAbs < 2 ^ m):(x * y).natAbs < 2 ^ (n+m):=by
 rw [Int.natAbs_mul,Nat.pow_add]
 exact Nat.mul_lt_mul'' h1 h2
theorem tS {n m:Nat} {r q:R} (h:Wf n r) (k:Wf m q):(r.1 * q.2+q.1 * r.2).natAbs < 2 ^ (n+m+1):=by
 have a:=fK h.top k.bot
 have b:=fK k.top h.bot
 rw [Nat.add_comm m n] at b
 have e:2 ^ (n+m+1)=2 * 2 ^ (n+m):=by rw [Nat.pow_succ,Nat.mul_comm]
 have:=Int.natAbs_add_le (r.1 * q.2) (q.1 * r.2)
 omega
theorem we {n m:Nat} {r q:R} (h:Wf n r) (k:Wf m q):Wf (n+m+1) (ci r q):=
 kM (Int.mul_pos h.pos k.pos) (tS h k) (Nat.lt_of_lt_of_le (fK h.bot k.bot) (Nat.pow_le_pow_right (by decide) (Nat.le_succ _)))
theorem iD {n m:Nat} {r q:R} (h:Wf n r) (k:Wf m q):Wf (n+m) (bG r q):=
 kM (Int.mul_pos h.pos k.pos) (fK h.top k.top) (fK h.bot k.bot)
end B
namespace B
open PySem L2 PyProof.Rows
def EJ (i j:Int):Prop:=i.natAbs < 2 ^ 4000/\j.natAbs < 2 ^ 4000
def EG (_ j:Int):Prop:=0 < j/\j.natAbs < 2 ^ 4000
theorem pH {i:Int} (h:i.natAbs < 2 ^ 4000):Builtin.Int.intBits i≤2 ^ 20:=by
 unfold Builtin.Int.intBits
 split
 ·exact Nat.zero_le _
 ·rename_i z
  have hz : i.natAbs ≠ 0 := fun q => z (by have : i = 0 := by omega
                                           rw [this]; rfl)
  have:=(Nat.log2_lt hz).mpr h
  have e:(2:Nat) ^ 20=1048576:=by decide
  omega
section
variable {X:Cx}
theorem dD:dN X (binaryOp .Mult) (rI EJ fun i j=>.int (i * j)):=An fun _ _ _ _ _ _ _ hc q=>mul_int q (IntMulOk.of_bits (pH hc.1) (pH hc.2))
theorem iP:dN X (binaryOp .FloorDiv) (rI EG fun i j=>.int (i / j)):=An fun i j _ _ _ _ _ hc q=>by
 have h1:(0:Int) < j:=hc.1
 have h2:j.natAbs < 2 ^ 4000:=hc.2
 refine floordiv_int (by omega) (by rw [Int.fdiv_eq_ediv_of_nonneg i (by omega)];exact q) (.inl (PyProof.noPylong_of_log2 ?_))
 exact Nat.lt_trans ((Nat.log2_lt (show j.natAbs≠0 by omega)).mpr h2) (by decide)
end
def aI (K:Fg) (H H':Hp):Prop:=∀ p xs,aV K H p xs->aV K H' p xs
theorem aI.trans {K:Fg} {H H1 H2:Hp} (a:aI K H H1) (b:aI K H1 H2):aI K H H2:=fun p xs h=>b p xs (a p xs h)
theorem aI.same {K:Fg} {H H':Hp} (s:aA H H'):aI K H H':=fun p xs h=>by
 rcases h with (h | ⟨o,h⟩) | h
 ·exact .inl (.inl (s _ _ h))
 ·exact .inl (.inr ⟨o,s _ _ h⟩)
 ·exact .inr h
theorem aI.step {K:Fg} {t:Addr} {H H':Hp} (S:Step t H H'):aI K H H':=fun p xs h=>by
 obtain⟨ys,ht⟩:=S.tp
 rcases h with (h | ⟨o,h⟩) | h
 ·exact .inl (.inl (S.keep _ _ (fun z=>by subst z;rw [h] at ht;cases ht) h))
 ·exact .inl (.inr ⟨o,S.keep _ _ (fun z=>by subst z;rw [h] at ht;cases ht) h⟩)
 ·exact .inr h
theorem aI.up {K:Fg} {H:Hp} {l:Addr} {xs:List V} (h:H l=some (.lst xs)) (ys:List V):aI K H (upd H l (.lst ys)):=aI.step (Step.up h)
def RV (K:Fg) (H:Hp) (v:V) (r:R):Prop:=∃ p,v=.ref p/\aV K H p [.int r.1,.int r.2]
theorem RV.mono {K:Fg} {H H':Hp} {v:V} {r:R} (h:RV K H v r) (t:aI K H H'):RV K H' v r:=let ⟨p,e,q⟩:=h;⟨p,e,t _ _ q⟩
theorem RV.of {K:Fg} {H:Hp} {p:Addr} {a b:Int} (h:H p=some (.tup [.int a,.int b])):RV K H (.ref p) (a,b):=⟨p,rfl,aV.of h⟩
def DJ (K:Fg) (H:Hp) (xs:List V) (rs:List R):Prop:=xs.length=rs.length/\∀ (i:Nat) (x:V) (r:R),xs[i]?=some x->rs[i]?=some r->RV K H x r
theorem DJ.at {K:Fg} {H:Hp} {xs:List V} {rs:List R} {i:Nat} {x:V} (h:DJ K H xs rs) (e:xs[i]?=some x):∃ r,rs[i]?=some r/\RV K H x r:=by
 have hi:=(List.getElem?_eq_some_iff.mp e).1
 have hj:i < rs.length:=by rw [← h.1];exact hi
 exact⟨rs[i],List.getElem?_eq_getElem hj,h.2 i x _ e (List.getElem?_eq_getElem hj)⟩
def zR (r:R):Nat->R
 | 0=>(1,1)
 | k+1=>bG (zR r k) r
def cW (rs:List R):R:=rs.foldl ci (0,1)
def dR (r:R):PyData:=.tuple [.int r.1,.int r.2]
theorem RV.deep {K:Fg} {H:Hp} {v:V} {r:R} (h:RV K H v r):aW K H v (dR r):=by
 obtain⟨p,rfl,q⟩:=h
 exact .tup q (.cons (.int _) (.cons (.int _) .nil))
theorem ja (r:R):(dR r).canLay0=true:=rfl
theorem mT (r:R):(dR r).depth≤32:=by show max 0 (max 0 0)+1≤32;decide
theorem kQ {i:Int} {n:Nat} (h:i.natAbs < 2 ^ n) (hn:n≤1900):i.natAbs.log2 < 1920:=by
 by_cases z:i.natAbs=0
 ·rw [z];decide
 ·have:=(Nat.log2_lt z).mpr (Nat.lt_of_lt_of_le h (Nat.pow_le_pow_right (by decide) hn))
  omega
theorem iV {i:Int} {n:Nat} (h:i.natAbs < 2 ^ n) (hn:n≤1900):(PyData.int i).shown.length≤1921:=by
 have q:=int_text_length_le (a:=i) (k:=1920) (by decide) (kQ h hn)
 have e:(PyData.int i).shown.length=(toString i).length:=by
  show (Str.ofString (toString i)).length=_
  exact PySem.ofString_length _
 omega
theorem u7 {r:R} {n:Nat} (h:Wf n r) (hn:n≤1900):vk (dR r) where
 sh:=by
  show (decide (r.1.natAbs.log2 < 1920) && (decide (r.2.natAbs.log2 < 1920) && true))=true
  rw [decide_eq_true (kQ h.top hn),decide_eq_true (kQ h.bot hn)];rfl
 nd:=rfl
 sz:=by
  have a:=iV h.top hn
  have b:=iV h.bot hn
  have q:=tupleText_len_le [(PyData.int r.1).shown,(PyData.int r.2).shown]
  have e:(dR r).shown=tupleText [(PyData.int r.1).shown,(PyData.int r.2).shown]:=rfl
  rw [e]
  simp only [List.map_cons,List.map_nil,List.sum_cons,List.sum_nil,List.length_cons,List.length_nil] at q
  have:sizeLine=16777216:=by decide
  omega
 dp:=by show max 0 (max 0 0)+1≤16;decide
theorem AU {r q:R} (h:PyData.eqv (dR r) (dR q)=true):r=q:=by
 have z:(r.1 == q.1 && (r.2 == q.2 && true))=true:=h
 simp only [Bool.and_true,Bool.and_eq_true,beq_iff_eq] at z
 exact Prod.ext z.1 z.2
theorem uV (r:R):PyData.eqv (dR r) (dR r)=true:=by
 show (r.1 == r.1 && (r.2 == r.2 && true))=true
 simp
end B
namespace B
open PySem L2 PyProof.Rows
def dL (rs:List R):PyData:=.list (rs.map dR)
def CM (K:Fg) (tl:TE):TI:=fun σ H R=>tl σ H fun x H1=>(∃ a,x=.ref a/\(∃ xs,aQ K H1 a xs)/\R (pP K a) H1)∨(∃ a,x=.ref a/\(∃ xs,aV K H1 a xs)/\R (vq K a) H1)
theorem zV {X:Cx} {tg l:Expr} {tl:TE} (hl:PE X l tl):PI X tg l (CM X.K tl):=by
 intro pins s σ H R I h
 refine bF (hl pins s σ H _ I h) fun v s1 ⟨x,H1,I1,r1,q1⟩=>?_
 rcases q1 with ⟨a,e,⟨xs,hq⟩,q⟩ | ⟨a,e,⟨xs,hq⟩,q⟩
 ·subst e;cases r1
  obtain⟨its,rv,p,hz⟩:=I1.list hq
  refine wpAny_pyIter_list p.isList ?_
  refine⟨s1.heap.objs.size,[s1.heap.objs.size],_,_,H1,rfl,I1.kept (t':=s1.toks) fun b o e=>Heap.get?_push_of_some _ e,jE a _,⟨_,Heap.get?_push_size _ rfl,rfl,rfl⟩,fun b hb=>?_,q⟩
  have e:b=s1.heap.objs.size:=by simpa using hb
  subst e
  exact I1.fpOk (Nat.le_refl _) (I1.hok.fresh (Nat.le_refl _))
 ·subst e;cases r1
  obtain⟨its,rv,p,hz⟩:=I1.tuple hq
  refine wpAny_pyIter_tuple (show s1.heap.IsTuple a its.toArray from p) ?_
  refine⟨s1.heap.objs.size,[s1.heap.objs.size],_,_,H1,rfl,I1.kept (t':=s1.toks) fun b o e=>Heap.get?_push_of_some _ e,iC a _,⟨_,Heap.get?_push_size _ rfl,rfl,rfl⟩,fun b hb=>?_,q⟩
  have e:b=s1.heap.objs.size:=by simpa using hb
  subst e
  exact I1.fpOk (Nat.le_refl _) (I1.hok.fresh (Nat.le_refl _))
end B
namespace B
structure lC (r:R):Prop where
 pos:0 < r.2
 cop:Int.gcd r.1 r.2=1
theorem kN {a b:Int} (hb:0 < b):lC (eJ a b):=
 ⟨Int.ediv_pos_of_pos_of_dvd hb (Int.le_of_lt (bL hb)) (Int.gcd_dvd_right a b),Int.gcd_ediv_gcd_ediv_gcd (by have:=bL (a:=a) hb;omega)⟩
theorem eS {a b x y:Int} (hb:0 < b) (hy:0 < y) (g:Int.gcd x y=1) (e:x * b=a * y):eJ a b=(x,y):=by
 have h1:Int.gcd (a * y) (b * y)=Int.gcd a b * y.natAbs:=Int.gcd_mul_right a y b
 have h2:Int.gcd (x * b) (y * b)=Int.gcd x y * b.natAbs:=Int.gcd_mul_right x b y
 rw [e,Int.mul_comm y b,h1,g,Nat.one_mul] at h2
 have h3:(Int.gcd a b:Int) * y=b:=by
  have z:((Int.gcd a b * y.natAbs:Nat):Int)=(b.natAbs:Int):=congrArg _ h2
  rw [Int.natCast_mul,Int.natAbs_of_nonneg (by omega),Int.natAbs_of_nonneg (by omega)] at z
  exact z
 have gp:=bL (a:=a) hb
 have h4:a=x * (Int.gcd a b:Int):=by
  have z:x * (Int.gcd a b:Int) * y=a * y:=by rw [Int.mul_assoc,h3];exact e
  exact (Int.eq_of_mul_eq_mul_right (by omega) z).symm
 unfold eJ
 generalize (Int.gcd a b:Int)=G at h3 h4 gp
 subst h4
 subst h3
 rw [Int.mul_ediv_cancel _ (by omega),Int.mul_ediv_cancel_left _ (by omega)]
theorem jb {a b c:Int} (h:Int.gcd a b=1) (d:c∣a):Int.gcd c b=1:=
 Int.gcd_eq_one_iff.mpr fun z h1 h2=>Int.gcd_eq_one_iff.mp h z (Int.dvd_trans h1 d) h2
theorem jU {a b c:Int} (h:Int.gcd a b=1) (d:c∣b):Int.gcd a c=1:=by
 rw [Int.gcd_comm]
 exact jb (by rw [Int.gcd_comm];exact h) d
theorem lf {a b c:Int} (h:Int.gcd a b=1) (k:Int.gcd a c=1):Int.gcd a (b * c)=1:=by
 rw [Int.gcd_mul_right_right_of_gcd_eq_one h];exact k
theorem mU {a b c:Int} (h:Int.gcd a c=1) (k:Int.gcd b c=1):Int.gcd (a * b) c=1:=by
 rw [Int.gcd_comm]
 exact lf (by rw [Int.gcd_comm];exact h) (by rw [Int.gcd_comm];exact k)
theorem fm {a b:Int} (hb:0 < b):∃ g x y:Int,(Int.gcd a b:Int)=g/\0 < g/\a=g * x/\b=g * y/\Int.gcd x y=1:=by
 have gp:=bL (a:=a) hb
 obtain⟨x,hx⟩:=Int.gcd_dvd_left a b
 obtain⟨y,hy⟩:=Int.gcd_dvd_right a b
 refine⟨_,x,y,rfl,gp,hx,hy,?_⟩
 have z:=Int.gcd_ediv_gcd_ediv_gcd (i:=a) (j:=b) (by omega)
 have e1:a / (Int.gcd a b:Int)=x:=by
  conv=>lhs;lhs;rw [hx]
  exact Int.mul_ediv_cancel_left _ (by omega)
 have e2:b / (Int.gcd a b:Int)=y:=by
  conv=>lhs;lhs;rw [hy]
  exact Int.mul_ediv_cancel_left _ (by omega)
 rw [e1,e2] at z
 exact z
theorem iN {g y b:Int} (hb:0 < b) (hg:0 < g) (e:b=g * y):0 < y:=by
 rcases Int.lt_or_le 0 y with h | h
 ·exact h
 ·have:=Int.mul_le_mul_of_nonneg_left h (Int.le_of_lt hg)
  rw [Int.mul_zero] at this
  omega
def me (r q:R):R:=
 let d:Int:=(Int.gcd r.2 q.2:Nat)
 let t:=r.1 * (q.2 / d)+q.1 * (r.2 / d)
 let e:Int:=(Int.gcd t d:Nat)
 (t / e,r.2 / d * (q.2 / e))
theorem tU {r q:R} (hr:lC r) (hq:lC q):me r q=ci r q:=by
 obtain⟨d,u,v,e0,dp,e1,e2,cuv⟩:=fm (a:=r.2) hq.pos
 have up:=iN hr.pos dp e1
 have vp:=iN hq.pos dp e2
 obtain⟨e,x,w,f0,ep,f1,f2,cxw⟩:=fm (a:=r.1 * v+q.1 * u) dp
 have wp:=iN dp ep f2
 have du:r.2 / d=u:=by rw [e1];exact Int.mul_ediv_cancel_left _ (by omega)
 have dv:q.2 / d=v:=by rw [e2];exact Int.mul_ediv_cancel_left _ (by omega)
 have te:(r.1 * v+q.1 * u) / e=x:=by rw [f1];exact Int.mul_ediv_cancel_left _ (by omega)
 have qe:q.2 / e=w * v:=by rw [e2,f2,Int.mul_assoc];exact Int.mul_ediv_cancel_left _ (by omega)
 have c1:Int.gcd r.1 u=1:=jU hr.cop ⟨d,by rw [e1,Int.mul_comm]⟩
 have c2:Int.gcd q.1 v=1:=jU hq.cop ⟨d,by rw [e2,Int.mul_comm]⟩
 have xd:x∣(r.1 * v+q.1 * u):=⟨e,by rw [f1,Int.mul_comm]⟩
 have t1:Int.gcd (r.1 * v+q.1 * u) u=1:=by
  rw [Int.gcd_comm,Int.gcd_add_mul_right_right,Int.gcd_comm]
  exact mU c1 (by rw [Int.gcd_comm];exact cuv)
 have t2:Int.gcd (r.1 * v+q.1 * u) v=1:=by
  rw [Int.add_comm,Int.gcd_comm,Int.gcd_add_mul_right_right,Int.gcd_comm]
  exact mU c2 cuv
 have cx:Int.gcd x (u * (w * v))=1:=lf (jb t1 xd) (lf cxw (jb t2 xd))
 have z:me r q=(x,u * (w * v)):=by
  unfold me
  simp only [e0,du,dv,f0,te,qe]
 rw [z]
 unfold ci
 refine (eS (Int.mul_pos hr.pos hq.pos) (Int.mul_pos up (Int.mul_pos wp vp)) cx ?_).symm
 have k:r.1 * q.2+q.1 * r.2=d * (e * x):=by
  rw [e1,e2,← f1,Int.mul_add]
  rw [Int.mul_left_comm r.1 d v,Int.mul_left_comm q.1 d u]
 rw [k,e1,e2]
 have k2:d * u * (d * v)=d * u * (e * w * v):=by rw [← f2]
 rw [k2]
 ac_rfl
def DX (r q:R):R:=
 let l:Int:=(Int.gcd r.1 q.2:Nat)
 let m:Int:=(Int.gcd q.1 r.2:Nat)
 (r.1 / l * (q.1 / m),r.2 / m * (q.2 / l))
theorem tT {r q:R} (hr:lC r) (hq:lC q):lC (ci r q):=kN (Int.mul_pos hr.pos hq.pos)
end B
namespace B
open PySem L2 PyProof.Rows
def Dn (_ j:Int):Prop:=j≠0/\j.natAbs < 2 ^ 4000
theorem ip {X:Cx}:dN X (binaryOp .FloorDiv) (rI Dn fun i j=>.int (i.fdiv j)):=An fun i j _ _ _ _ _ hc q=>by
 have h1:j≠0:=hc.1
 have h2:j.natAbs < 2 ^ 4000:=hc.2
 refine floordiv_int h1 q (.inl (PyProof.noPylong_of_log2 ?_))
 exact Nat.lt_trans ((Nat.log2_lt (show j.natAbs≠0 by omega)).mpr h2) (by decide)
def fP (a b:Int):R:=if b < 0 then eJ (-a) (-b) else eJ a b
theorem ei {a b:Int} (h:0 < b):fP a b=eJ a b:=by unfold fP;rw [if_neg (by omega)]
theorem i6 {a g:Int} (h:0 < g):a.fdiv g=a / g:=Int.fdiv_eq_ediv_of_nonneg a (by omega)
theorem jS {a g:Int} (h:0 < g):a.fdiv (-g)=-a / g:=by
 have e:a.fdiv (-g)=(-a).fdiv g:=by
  have:=Int.neg_fdiv_neg (-a) g
  rw [Int.neg_neg] at this
  exact this
 rw [e,i6 h]
theorem uP (a b:Int):Int.gcd (-a) (-b)=Int.gcd a b:=by simp [Int.gcd]
theorem i3 {a b:Int} (hb:b≠0):0 < (Int.gcd a b:Int):=by
 have h:Int.gcd a b≠0:=fun z=>hb (Int.gcd_eq_zero_iff.mp z).2
 omega
theorem kZ {a b:Int} (hb:b≠0) (hz:b.natAbs < 2 ^ 4000):((Int.gcd a b:Nat):Int).natAbs < 2 ^ 4000:=by
 have z:Int.gcd a b≤b.natAbs:=Nat.le_of_dvd (by omega) (by have:=Int.gcd_dvd_right a b;exact Int.natAbs_dvd_natAbs.mpr this)
 have e:((Int.gcd a b:Nat):Int).natAbs=Int.gcd a b:=Int.natAbs_natCast _
 omega
theorem mm {a b:Int} (hb:0 < b):(a.fdiv (Int.gcd a b:Int),b.fdiv (Int.gcd a b:Int))=fP a b:=by
 rw [ei hb,i6 (bL hb),i6 (bL hb)];rfl
theorem mn {a b:Int} (hb:b < 0):(a.fdiv (-(Int.gcd a b:Int)),b.fdiv (-(Int.gcd a b:Int)))=fP a b:=by
 have g:=i3 (a:=a) (b:=b) (by omega)
 unfold fP
 rw [if_pos hb,jS g,jS g]
 unfold eJ
 rw [uP]
def kP (r q:R):R:=eJ (r.1 * q.2 - q.1 * r.2) (r.2 * q.2)
def ur (r q:R):R:=fP (r.1 * q.2) (r.2 * q.1)
structure C9 (d:PyData):Prop where
 sh:d.showable=true
 nd:d.hasDict=false
 sz:d.shown.length≤5000
 dp:d.depth≤8
theorem lY {r:R} {n:Nat} (h:Wf n r) (hn:n≤1900):C9 (dR r) where
 sh:=(u7 h hn).sh
 nd:=rfl
 sz:=by
  have a:=iV h.top hn
  have b:=iV h.bot hn
  have q:=tupleText_len_le [(PyData.int r.1).shown,(PyData.int r.2).shown]
  have e:(dR r).shown=tupleText [(PyData.int r.1).shown,(PyData.int r.2).shown]:=rfl
  rw [e]
  simp only [List.map_cons,List.map_nil,List.sum_cons,List.sum_nil,List.length_cons,List.length_nil] at q
  omega
 dp:=by show max 0 (max 0 0)+1≤8;decide
end B
namespace B
theorem jM {a b:Int} (hb:0 < b):(eJ a b).1 * b=a * (eJ a b).2:=by
 obtain⟨g,x,y,_,gp,e1,e2,c⟩:=fm (a:=a) hb
 have yp:=iN hb gp e2
 have e:x * b=a * y:=by rw [e1,e2];ac_rfl
 rw [eS hb yp c e]
 exact e
end B
namespace B
open PySem PySem.Spec L2 PyProof.Rows
section
variable {prog:Program} {w:World} {A:Around} {E:bu} {h:Heap} {g:Array GenState} {d:Drawn} {t:Nat} {os:OsState} {K:Fg}
variable {nm q:Str} {C N:Addr} {bs bm bmB:List Value} {hdct:Bool} {sn:List Str} {sub:List Value} {ab:Bool} {col:Option Bool} {dd:Option Addr} {k0 k1 k2 k3 k5:Option Value} {bN newId initId:String}
theorem k7 (F:ExcBaseFacts bN newId initId bmB) (T:OwnTail h bmB bm) {bT:List Value} {fI:Addr} {Q:Fin->Shared->Prop} (X:K.In h)
  (hC:h.get? C=some (excClassObj nm q C N bs bm hdct sn sub ab col dd k0 k1 k2 k3 k5 newId)) (hi:PySem.W.findIn K (.ref C) "__init__" = some (some (.ref fI))) (hf:PySem.W.typeIn K (.ref fI)=some (.type "function"))
  (hq:∀ h' e,Heap.MadeExcOf h h' e (.ref C) bT->wpAny (model prog w) A (call (.ref fI) (.ref e :: bT)) (fun r s'=>r=.none/\Q (.done (.ret (.ref e))) s') E ⟨h',g,d,t,os⟩) (hz:bT.length≤sizeLine) :
  wpAny (model prog w) A (Builtin.«type.__call__» ⟨.ref C :: bT,[]⟩) Q E ⟨h,g,d,t,os⟩:=by
 repeat (first
  | with_reducible refine wpAny_loadPart_at hC ?_
  | with_reducible refine wpAny_madeBy_exc hC ?_
  | wp_step)
 refine codeAny_call_builtin_code (Code.quiet_builtin _ F.quiet)
  (wpAny_check_new_subT F T hC ?_)
 refine codeAny_exc_new_subT F T hC ?_ hz
 show wpAny _ _ _ _ _ _
 have up:∀ b o,h.get? b=some o->((h.push { cls:=.type "tuple", data:=.seq bT.toArray }).push
   { cls:=.ref C,data:=.fields #[.ref h.objs.size,.none,.none,.none,.bool false,.none] }).get? b=some o:=fun b o e=>
  Heap.get?_push_of_some _ (Heap.get?_push_of_some _ e)
 have hC₁:=up _ _ hC
 have X₁:=X.keeps up
 have hx:((h.push { cls:=.type "tuple", data:=.seq bT.toArray }).push
   { cls:=.ref C,data:=.fields #[.ref h.objs.size,.none,.none,.none,.bool false,.none] }).get? (h.objs.size+1)=
   some { cls:=.ref C,data:=.fields #[.ref h.objs.size,.none,.none,.none,.bool false,.none] }:=by heap_get
 have hcC:(Value.ref C :: bm).contains (.ref C)=true:=by simp
 unfold isInstance
 repeat (first
  | with_reducible refine wpAny_loadPart_at hx ?_
  | (with_reducible refine wpAny_isSubtype_exc hC₁ ?_
     rw [hcC])
  | wp_step)
 show wpAny _ _ (typeLookup (.ref C) _) _ _ _
 refine (PySem.W.looks_findIn X₁ hi) _ _ _ _ (fun _ _ e=>e) ?_
 refine wpAny_holding (wpAny_bind ?_)
 refine (PySem.W.bind_fn X₁ _ hf) _ _ _ _ (fun _ _ e=>e) ?_
 refine wpAny_bind (wpAny_mono (hq _ (h.objs.size+1)
  ⟨up,Heap.get?_none_of_le (Nat.le_succ _),h.objs.size,hx,Heap.get?_none_of_le (Nat.le_refl _),?_⟩) (fun r s' hr=>?_) fun _ _ y=>y)
 ·exact Heap.get?_push_of_some _ (Heap.get?_push_at rfl rfl)
 ·obtain⟨rfl,hQ⟩:=hr
  wp_walk
  exact hQ
theorem uT (F:ExcBaseFacts bN newId initId bmB) (T:OwnTail h bmB bm) {bT:List Value} {fI:Addr} {Q:bu} (X:K.In h)
  (hC:h.get? C=some (excClassObj nm q C N bs bm hdct sn sub ab col dd k0 k1 k2 k3 k5 newId)) (hi:PySem.W.findIn K (.ref C) "__init__" = some (some (.ref fI))) (hf:PySem.W.typeIn K (.ref fI)=some (.type "function"))
  (hq:∀ h' e,Heap.MadeExcOf h h' e (.ref C) bT->wpAny (model prog w) (A.under (.builtin "type.__call__" ⟨.ref C :: bT,[]⟩)) (call (.ref fI) (.ref e :: bT)) (fun r s'=>r=.none/\Q (.ref e) s') E ⟨h',g,d,t,os⟩) (hz:bT.length≤sizeLine) :
  wpAny (model prog w) A (call (.ref C) bT) Q E ⟨h,g,d,t,os⟩:=by
 have f1:=tc_lookup
 have f2:=tc_bind (.ref C)
 have hT:(⟨h,g,d,t,os⟩:Shared).TypeIs (.ref C) "type" := ⟨_,hC,rfl⟩
 refine wpAny_call (codeAny_of_tree ?_)
 show wpAny _ _ (callAny (.ref C) _) _ _ _
 repeat (any_goals (first
  | assumption
  | with_reducible refine wpAny_loadPart_at hC ?_
  | wp_step))
 refine⟨rfl,?_⟩
 refine codeAny_call_builtin_at (Code.quiet_builtin _ (by decide +kernel)) entry_typeCall
  (wpAny_check_type_call_sub hC (k7 F T X hC hi hf (fun h' e hm=>?_) hz))
 exact hq h' e hm
end
def iB:List Value:=[.type "ValueError", .type "Exception", .type "BaseException", .type "object"]
structure fO (K:Fg) (C:Addr) (bm:List Value):Prop where
 ob:∃ nm q N bs hdct sn sub ab col dd k0 k1 k2 k3 k5,K.lookup C=some (excClassObj nm q C N bs bm hdct sn sub ab col dd k0 k1 k2 k3 k5 "ValueError.__new__")
 tl:∀ h:Heap,K.In h->OwnTail h iB bm
 hd:PySem.W.hasDictIn K C=true
 sa:PySem.W.findIn K (.ref C) "__setattr__" = some (some (.builtin "object.__setattr__"))
theorem wS {h:Heap} {tl:List Value} (T:OwnTail h iB tl) (self:Value):refuseLoop self "__setattr__" tl=pure ():=by
 induction T with
 | base=>exact PySem.F.store_ValueError.passes self
 | own _ _ _ _ ih=>rw [refuseLoop_ref];exact ih
theorem jc {K:Fg} {C:Addr} {bm:List Value} (c:fO K C bm):∃ cd,PySem.W.clsIn K C=some cd/\cd.mro=.ref C :: bm:=by
 obtain⟨nm,q,N,bs,hdct,sn,sub,ab,col,dd,k0,k1,k2,k3,k5,lk⟩:=c.ob
 unfold PySem.W.clsIn
 rw [lk]
 exact⟨_,rfl,rfl⟩
section
variable {prog:Program} {w:World} {A:Around} {s:Shared} {K:Fg} {x C:Addr} {R:Result->Shared->Prop}
theorem jH {ox:Obj} {od:Option Obj} {name:Str} {tk:Tok} {v:Value} {bm:List Value} (X:K.In s.heap) (I:PySem.W.InstAt s.heap x ox C od) (c:fO K C bm) (n:dn K C name)
  (h:∀ b,wpAny (model prog w) A.in1 (Builtin.ObjectAttr.storeInOwnDict (.ref x) (.ref C) (.str name tk) name v b) (fun fin s'=>match fin with
   | .done f=>R (.ok f) s'
   | .again c'=>c'.quiet=true/\codeAny (model prog w) A c' R s') (fun e s'=>R (.error e) s') s) :
  codeAny (model prog w) A (.call (.builtin "object.__setattr__") ⟨[.ref x,.str name tk,v],[]⟩) R s:=by
 have sf:=PySem.F.store_object
 obtain⟨cd,hc,hm⟩:=jc c
 have T:=c.tl _ X
 have hob:(Value.ref C :: bm).contains (.type "object")=true:=by
  rw [List.contains_cons,T.hasType (X := "object") (b:=true) (by decide +kernel),Bool.or_true]
 have isO:PySem.W.Looks (model prog w) s.heap (isInstance (.ref x) (.type "object")) true:=by
  refine I.type.andThen (PySem.W.looks_mroIn X ?_)
  unfold PySem.W.mroIn
  rw [hc]
  show (if cd.mro.isEmpty=true then none else some (cd.mro.contains (.type "object")))=some true
  rw [hm,hob];rfl
 have ms:PySem.W.Looks (model prog w) s.heap (mroOf (.ref C)) (.ref C :: bm):=by
  rw [← hm];exact (PySem.W.looks_clsIn X hc).andThen .now
 refine codeAny_call_builtin sf.slot.plain sf.entry (PySem.W.check_slot (i := "object.__setattr__") (owner := "object") (n := "__setattr__") sf.kind sf.split isO (sf.args _ _ _) ?_)
 rw [PySem.W.osa_eq,refuse_eq]
 refine wpAny_bind (wpAny_bind (I.type.here (wpAny_bind (ms.here ?_))))
 rw [refuseLoop_ref,wS T]
 refine wpAny_pure (wpAny_bind (I.type.here (wpAny_bind ((PySem.W.looks_findIn X n).here (wpAny_bind ?_)))))
 exact PySem.W.Looks.here (r:=none) .now (h _)
end
def Dk (a C:Addr) (dx:Option Addr):Heap->Prop:=fun h=>∃ t:Addr,h.get? a=some { cls:=.ref C,dict:=dx,data:=.fields #[.ref t,.none,.none,.none,.bool false,.none] }
def gi (a C:Addr) (dx:Option Addr):HO:=.ext (Dk a C dx)
theorem uU {P:Program} {w:World} {H:Hp} {h:Heap} {a C:Addr} {dx:Option Addr} (e:Dk a C dx h):ObjOk P w H h a (gi a C dx):=
 ⟨e,let ⟨_,q⟩:=e;⟨_,q⟩,fun _ _ ⟨t,q⟩ k=>⟨t,k _ q⟩⟩
def fz (H:Hp) (a:Addr):Hp:=fun b=>if b=a then none else H b
theorem cT {H:Hp} {a:Addr}:fz H a a=none:=by unfold fz;rw [if_pos rfl]
theorem fM {H:Hp} {a b:Addr} (h:b≠a):fz H a b=H b:=by unfold fz;rw [if_neg h]
section
variable {X:Cx} {pins:bo} {σ:L2.St} {H:Hp} {s:Shared} {a C:Addr} {dx:Option Addr}
theorem Inv.forget {φ:Heap->Prop} (I:L2.Inv X pins σ H s) (e:H a=some (.ext φ)) (new:X.s₀.heap.get? a=none):L2.Inv X pins σ (fz H a) s:=by
 have none_of:∀ b,H b=none->fz H a b=none:=fun b h=>by
  by_cases z:b=a
  ·rw [z];exact cT
  ·rw [fM z];exact h
 refine⟨I.ok,I.os,I.bare,⟨I.base.keep,I.base.slot,fun b o q n hx=>none_of b (I.base.free b o q n hx),I.base.there,fun b xs q=>?_,fun b o u q=>?_,fun b ps q=>?_⟩,I.loc,I.cell,none_of _ I.free,fun x c q=>none_of _ (I.freeC x c q),fun p hp=>?_,fun b o q=>?_,I.len⟩
 ·have z:=I.base.tups b xs q
  rw [fM (fun k=>by rw [k,e] at z;cases z)];exact z
 ·have z:=I.base.frzs b o u q
  rw [fM (fun k=>by rw [k,e] at z;cases z)];exact z
 ·obtain⟨m,z⟩:=I.base.tbls b ps q
  exact⟨m,by rw [fM (fun k=>by rw [k,e] at z;cases z)];exact z⟩
 ·obtain⟨p1,p2,p3⟩:=I.pin p hp
  exact⟨p1,none_of _ p2,p3⟩
 ·have nb:b≠a:=fun z=>by rw [z,cT] at q;cases q
  rw [fM nb] at q
  refine (I.hok b o q).stay (fun c u _ z=>z) (fun c z=>?_) (fun c xs z=>?_)
  ·rw [fM (fun k=>by rw [k,e] at z;cases z)];exact z
  ·rw [fM (fun k=>by rw [k,e] at z;cases z)];exact z
end
theorem ObjOk.get {P:Program} {w:World} {H:Hp} {h:Heap} {a:Addr} {o:HO} (x:L2.ObjOk P w H h a o):∃ u,h.get? a=some u:=by
 cases o with
 | lst xs=>obtain⟨_,_,_,_,e⟩:=x;exact⟨_,e⟩
 | tup xs=>obtain⟨_,_,_,o,e,_⟩:=x;exact⟨_,e⟩
 | dK kvs=>obtain⟨_,_,_,_,o,_,_,e,_⟩:=x;exact⟨_,e⟩
 | dT kvs=>obtain⟨_,_,_,_,o,_,_,e,_⟩:=x;exact⟨_,e⟩
 | set S n=>obtain⟨o,_,_,_,e,_⟩:=x;exact⟨_,e⟩
 | ins C dx fs=>obtain⟨_,_,_,e,_⟩:=x;exact⟨_,e⟩
 | own y=>exact x
 | xd fs=>obtain⟨_,⟨_,_,_,e,_⟩,_⟩:=x;exact⟨_,e⟩
 | rng lo hi=>obtain⟨_,_,_,e⟩:=x;exact⟨_,e⟩
 | frz ob u=>obtain⟨e,_⟩:=x;exact⟨_,e⟩
 | tbl ps=>exact⟨_,show h.get? a=some _ from x⟩
 | met f y=>exact⟨_,show h.get? a=some _ from x⟩
 | ext φ=>exact x.2.1
def Fn (h:Heap) (H:Hp) (x C T:Addr) (a0:Value):Prop:=
 ∃ oe vs oT ts,h.get? x=some oe/\oe.cls=.ref C/\vs[0]?=some a0/\oe.data=.fields vs/\vs[1]?=some (.ref T)/\H T=none/\T≠x/\h.get? T=some oT/\oT.data=.fields ts/\ts[3]?=some .none
def GS (P:Program) (w:World):nk:=fun outer H s E e s'=>∃ (x C T:Addr) (a0:Value) (H':Hp),e=.ref x/\s'.os=s.os/\AllBare s'.gens/\Un (jx outer) [] H H' s.heap s'.heap/\fA P w H' s'.heap/\s.heap.get? x=none/\s.heap.get? T=none/\H' x=none∧
 Fn s'.heap H' x C T a0/\E (.ref C) none H'
structure cU (X:Cx) (pins:bo) (a:Addr):Prop where
 st:X.s₀.heap.get? a=none
 lo:a≠X.env.locals
 ce:∀ x c,X.env.cells.lookup x=some c->c≠a
 pi:∀ p∈X.pn++pins,p.1≠a
 fr:a∉jx X.stack
section
variable {X:Cx} {pins:bo} {σ:L2.St} {H H':Hp} {s:Shared} {a:Addr}
theorem Inv.newAt (I:L2.Inv X pins σ H s) (hex:X.ex=[]) (h:s.heap.get? a=none):cU X pins a where
 st:=by
  cases e:X.s₀.heap.get? a with
  | none=>rfl
  | some o=>
   obtain⟨o',q⟩:=I.base.there a o e (by rw [hex];simp)
   rw [h] at q;cases q
 lo:=fun z=>by
  obtain⟨m,⟨o,_,_,q,_⟩,_⟩:=I.loc
  rw [← z,h] at q;cases q
 ce:=fun x c e z=>by
  obtain⟨v,o,q,_⟩:=I.cell x c e
  rw [z,h] at q;cases q
 pi:=fun p hp z=>by
  obtain⟨q,_⟩:=I.pin p hp
  rw [z,h] at q;cases q
 fr:=fun z=>by
  obtain⟨_,o,q,_⟩:=I.stack.mem z
  rw [h] at q;cases q
end
section
variable {X:Cx} {pins:bo} {σ:L2.St} {H:Hp} {s:Shared} {a:Addr} {o:HO}
theorem Inv.adopt (I:L2.Inv X pins σ H s) (na:cU X pins a) (ha:H a=none) (hex:X.ex=[]) (new:L2.ObjOk X.prog X.w (upd H a o) s.heap a o):L2.Inv X pins σ (upd H a o) s:=by
 have keep:∀ b u,H b=some u->upd H a o b=some u:=fun b u q=>by rw [aw (aM q ha)];exact q
 have nn:∀ b,b≠a->H b=none->upd H a o b=none:=fun b nb q=>by rw [aw nb];exact q
 refine⟨I.ok,I.os,I.bare,⟨I.base.keep,I.base.slot,fun b u q n hx=>nn b (fun z=>by rw [z,na.st] at q;cases q) (I.base.free b u q n hx),I.base.there,fun b xs q=>keep _ _ (I.base.tups b xs q),fun b u v q=>keep _ _ (I.base.frzs b u v q),fun b ps q=>?_⟩,I.loc,I.cell,nn _ na.lo.symm I.free,fun x c q=>nn _ (na.ce x c q) (I.freeC x c q),fun p hp=>?_,fun b u q=>?_,I.len⟩
 ·obtain⟨m,z⟩:=I.base.tbls b ps q
  exact⟨m,keep _ _ z⟩
 ·obtain⟨p1,p2,p3⟩:=I.pin p hp
  exact⟨p1,nn _ (na.pi p hp) p2,p3⟩
 ·by_cases z:b=a
  ·subst z
   rw [ai] at q;cases q
   exact new
  ·rw [aw z] at q
   exact (I.hok b u q).stay (fun c v _ w=>w) (fun c w=>keep _ _ w) (fun c xs w=>keep _ _ w)
theorem Inv.none_of (I:L2.Inv X pins σ H s) (h:s.heap.get? a=none):H a=none:=by
 cases q:H a with
 | none=>rfl
 | some o=>obtain⟨u,z⟩:=ObjOk.get (I.hok a o q);rw [h] at z;cases z
end
structure XC (K:Fg) (C f:Addr) (bm:List Value):Prop where
 ob:∃ nm q N bs hdct sn sub ab col dd k0 k1 k2 k3 k5,K.lookup C=some (excClassObj nm q C N bs bm hdct sn sub ab col dd k0 k1 k2 k3 k5 "ValueError.__new__")
 tl:∀ h:Heap,K.In h->OwnTail h iB bm
 init:PySem.W.findIn K (.ref C) "__init__" = some (some (.ref f))
 fn:PySem.W.typeIn K (.ref f)=some (.type "function")
 kp:PySem.W.keepIn K (.ref C)=true
 cl:fO K C bm
section
variable {X:Cx} {k:Nat} {f C:Addr} {fd:FuncData} {ps:List Str} {sp:Sp} {bm:List Value}
theorem vN {pins:bo} {σ:L2.St} {H:Hp} {s:Shared} {Q:Addr->Hp->Prop} {us:List Value} {vs:List V} {E':bu} (M:XC X.K C f bm) (hex:X.ex=[]) (F:bh X.prog X.w X.K X.mg X.base cZ k f fd ps sp) (hr:cc (k+1) X.A) (hb:aS X.K fd ps [])
  (I:L2.Inv X pins σ H s) (r:aT vs us) (hz:us.length≤sizeLine) (h:∀ a,H a=none->sp (.ref a :: vs) (upd H a (gi a C none)) (fun v H2=>v=.non/\Q a H2) E0) :
  wpAny (model X.prog X.w) X.A (call (.ref C) us) (fun v s'=>∃ a H',v=.ref a/\cU X pins a/\L2.Inv X pins σ H' s'/\Q a H') E' s:=by
 obtain⟨nm,q,N,bs,hdct,sn,sub,ab,col,dd,k0,k1,k2,k3,k5,lk⟩:=M.ob
 obtain⟨hp,g,d,t,os⟩:=s
 refine uT PySem.F.excBase_ValueError (M.tl hp I.kIn) I.kIn (I.kIn _ _ lk) M.init M.fn (fun h' e hm=>?_) hz
 have na:=B.Inv.newAt I hex hm.new
 have he:=B.Inv.none_of I hm.new
 obtain⟨tt,ho,_⟩:=hm.there
 have I1:L2.Inv X pins σ H ⟨h',g,d,t,os⟩:=I.kept (t':=t) hm.keeps
 have I2:L2.Inv X pins σ (upd H e (gi e C none)) ⟨h',g,d,t,os⟩:=B.Inv.adopt I1 na he hex (uU ⟨tt,ho⟩)
 have hq:=h e he
 have r2:aT (V.ref e :: vs) (Value.ref e :: us):=.cons rfl r
 have hl:(Value.ref e :: us).length=ps.length:=by
  have z:=r2.length
  rw [F.len _ _ _ _ hq] at z
  exact z.symm
 have hbd:=hb ⟨h',g,d,t,os⟩ (Value.ref e :: us) I2.kIn (by rw [List.append_nil];exact hl)
 rw [List.append_nil] at hbd
 refine wpAny_call (codeAny_mono (F.run _ X.stack _ _ ⟨Value.ref e :: us,[]⟩ (Value.ref e :: us) _ _ E0 (hr.make C us []) (I2.env0.make C us []) hbd r2 hq) fun r s' hq'=>?_)
 cases r with
 | error e=>exact False.elim hq'
 | ok fl=>
  cases fl with
  | ret u=>
   obtain⟨v,H',I3,rv,ev,q3⟩:=I2.after hq'
   subst ev
   exact⟨rv,e,H',rfl,na,I3,q3⟩
  | next=>exact False.elim hq'
  | brk=>exact False.elim hq'
  | cont=>exact False.elim hq'
def Fo (X:Cx) (E:XK):Prop:=∀ (pins:bo) (σ:L2.St) (H:Hp) (s:Shared) (a C:Addr) (oe:Obj) (vs:Array Value) (a0:Value),L2.Inv X pins σ H s->H a=none->cU X pins a->s.heap.get? a=some oe->oe.data=.fields vs→
 vs[0]?=some a0->vs[1]?=some .none->oe.cls=.ref C->E (.ref C) none H->X.xe (.ref a) s
theorem qf {M:Model} {A:Around} {E:bu} {env:Env} {nm q:Str} {N:Addr} {bs:List Value} {hdct:Bool} {sn:List Str} {sub:List Value} {ab:Bool} {col:Option Bool} {dd:Option Addr} {k0 k1 k2 k3 k5:Option Value} {newId:String}
  {s:Shared} {x:Sem Value} {Q:Flow->Shared->Prop} (hbase:bm.contains (.type "BaseException")=true) (hh:A.handled=none)
  (h:wpAny M A x (fun v s₁=>∃ e t dx,v=.ref e/\s₁.heap.get? C=some (excClassObj nm q C N bs bm hdct sn sub ab col dd k0 k1 k2 k3 k5 newId)∧
   s₁.heap.get? e=some { cls:=.ref C,dict:=dx,data:=.fields #[.ref t,.none,.none,.none,.bool false,.none] }/\E (.ref e) s₁) E s) :
  wpAny M A (raiseStmt env (some x) none) Q E s:=by
 have hcB:(Value.ref C :: bm).contains (.type "BaseException")=true:=by rw [List.contains_cons,hbase,Bool.or_true]
 unfold raiseStmt
 refine wpAny_bind (wpAny_mono h (fun v s₁ h₁=>?_) fun _ _ y=>y)
 obtain⟨e,t,dx,rfl,hC,he,hE⟩:=h₁
 obtain⟨hp,g,d,tk,os⟩:=s₁
 repeat (first
  | with_reducible refine wpAny_loadPart_at he ?_
  | with_reducible refine wpAny_loadPart_at hC ?_
  | (with_reducible refine wpAny_isSubtype_exc hC ?_
     rw [hcB])
  | wp_step)
 exact wpAny_raiseNew_none hh hE
def DZ (C:Addr) (sp:Sp) (E:XK) (t:TA):TS:=fun _ σ H=>t σ H fun vs H1=>vs.length≤sizeLine/\∀ a,H1 a=none->sp (.ref a :: vs) (upd H1 a (gi a C none)) (fun v H2=>v=.non/\(∃ dx,H2 a=some (gi a C dx))/\E (.ref C) none (fz H2 a)) E0
end
section
variable {X:Cx} {pins:bo} {σ:L2.St} {H:Hp} {s:Shared} {a C T:Addr} {a0:Value}
end
def eK (N:List Str):L2.St:=List.replicate N.length none
theorem uJ {X:Cx} {pins:bo} {σ:L2.St} {H:Hp} {s:Shared} (I:L2.Inv X pins σ H s):L2.Inv X pins (eK X.N) H s:=
 I.weak (by rw [I.len];exact List.length_replicate) fun i v q=>by
  unfold eK at q
  rw [List.getElem?_replicate] at q
  split at q <;> cases q
def Gp (X:Cx) (pins:bo) (R:Addr->Hp->Prop):bu:=fun e s=>∃ (x C T:Addr) (a0:Value) (H:Hp),e=.ref x/\L2.Inv X pins (eK X.N) H s/\H x=none/\cU X pins x/\cU X pins T/\Fn s.heap H x C T a0/\R C H
def Fi (X:Cx) (pins:bo) (R:Addr->Hp->Prop):Cx:={ X with pn:=X.pn++pins,xe:=Gp X pins R }
def jQ (X:Cx) (e:Addr):Cx:={ X with A:=X.A.mark (some (.ref e)),calm:=false,xe:=fun _ _=>False }
section
variable {X:Cx} {pins pins':bo} {σ:L2.St} {H:Hp} {s:Shared} {R:Addr->Hp->Prop} {e:Addr}
theorem xP (I:L2.Inv X pins σ H s):L2.Inv (jQ X e) pins σ H s:=
 ⟨⟨I.ok.mod,I.ok.kind,I.ok.glob,I.ok.blt,I.ok.above,I.ok.inj,I.ok.has,I.ok.cab,(fun z=>nomatch z),I.ok.frames,I.ok.stk,I.ok.exf,I.ok.bs,I.ok.bsz,I.ok.noex,I.ok.exfs,I.ok.funs,I.ok.frf⟩,I.os,I.bare,I.base,I.loc,I.cell,I.free,I.freeC,I.pin,I.hok,I.len⟩
theorem oX (ok:X.Ok) (I:L2.Inv (jQ X e) pins σ H s):L2.Inv X pins σ H s:=
 ⟨ok,I.os,I.bare,I.base,I.loc,I.cell,I.free,I.freeC,I.pin,I.hok,I.len⟩
end
def FD (N:List Str) (R:Addr->Hp->Prop) (Ok:Addr->Prop) (tb:TS) (th:TS):TS:=fun D σ H=>tb D σ H/\∀ C H',R C H'->Ok C/\th D (eK N) H'
section
variable {X:Cx} {R:Addr->Hp->Prop} {body:List Stmt} {b₀:Stmt} {suite:List Stmt} {x:Str} {p hpos pos:Pos} {u:Value} {tb th:TS}
end
section
variable {X:Cx} {o value:Expr} {f:Str} {ta tv:TE} {pos' pos:Pos}
def E4 (K:Fg) (ta tv:TE) (f:Str):TS:=fun D σ H=>tv σ H fun _ H1=>ta σ H1 fun x H2=>∃ a C bm,x=.ref a/\H2 a=some (gi a C none)/\fO K C bm/\dn K C f/\∀ d,D.nx σ (upd H2 a (gi a C (some d)))
end
def Gr (R:Addr->Hp->Prop):XK:=fun v _ H=>∃ C,v=.ref C/\R C H
theorem kb (a:Addr):(Value.ref a :: iB).contains (.type "BaseException")=true:=by rw [List.contains_cons,(by decide +kernel:iB.contains (.type "BaseException")=true),Bool.or_true]
def iE (es:Array DictEntry):Bool:=es.toList.all fun e=>match e.key with
 | .str _ _=>true
 | _=>false
theorem nC {es:Array DictEntry} (h:iE es=true):StrKeys es:=fun e he=>by
 have z:=List.all_eq_true.mp h e (Array.mem_toList_iff.mpr he)
 revert z
 cases e.key <;> intro z <;> first | exact⟨_,_,rfl⟩ | (cases z)
theorem Bw {K:Fg} {C f B0 NB:Addr} {nm q nmB qB:Str} {N:Addr} {bs bsB:List Value} {hdct hdctB:Bool} {sn snB:List Str} {sub subB:List Value} {ab abB:Bool} {col colB:Option Bool} {dd ddB:Option Addr} {k0 k1 k2 k3 k5 j0 j1 j2 j3 j5:Option Value}
  {oc:Value} {od:Option Addr} {es:Array DictEntry} {n:Nat} {sl:Array (Option Value)}
  (lc:K.lookup C=some (excClassObj nm q C N bs (.ref B0 :: [.type "ValueError", .type "Exception", .type "BaseException", .type "object"]) hdct sn sub ab col dd k0 k1 k2 k3 k5 "ValueError.__new__"))
  (lb:K.lookup B0=some (excClassObj nmB qB B0 NB bsB [.type "ValueError", .type "Exception", .type "BaseException", .type "object"] hdctB snB subB abB colB ddB j0 j1 j2 j3 j5 "ValueError.__new__"))
  (ln:K.lookup NB=some ⟨oc,od,.dict es n,sl⟩) (hs:iE es=true) (hn:(nsFind es "__init__").isNone=true)
  (fi:PySem.W.findIn K (.ref C) "__init__" = some (some (.ref f))) (ti:PySem.W.typeIn K (.ref f)=some (.type "function")) (kc:PySem.W.keepIn K (.ref C)=true) (hh:PySem.W.hasDictIn K C=true) (sa:PySem.W.findIn K (.ref C) "__setattr__" = some (some (.builtin "object.__setattr__"))):XC K C f (.ref B0 :: iB):=
 have ob:∃ nm q N bs hdct sn sub ab col dd k0 k1 k2 k3 k5,K.lookup C=some (excClassObj nm q C N bs (.ref B0 :: iB) hdct sn sub ab col dd k0 k1 k2 k3 k5 "ValueError.__new__"):=⟨_,_,_,_,_,_,_,_,_,_,_,_,_,_,_,lc⟩
 have tl:∀ h:Heap,K.In h->OwnTail h iB (.ref B0 :: iB):=fun h X=>.own (X _ _ lb) ⟨_,es,n,X _ _ ln,rfl,nC hs,fun _=>rfl⟩ (Option.isNone_iff_eq_none.mp hn) .base
 ⟨ob,tl,fi,ti,kc,ob,tl,hh,sa⟩
structure oB (K:Fg) (C:Addr):Prop where
 ga:PySem.W.findIn K (.ref C) "__getattribute__" = some (some (.builtin "BaseException.__getattribute__"))
 gn:PySem.W.findIn K (.ref C) "__getattr__" = some none
 cl:PySem.W.findIn K (.ref C) "__class__" = some (some (.builtin "object.__class__"))
 cg:PySem.W.specialIn K (.builtin "object.__class__") "__get__" = some (some (.builtin "getset_descriptor.__get__"))
 ct:PySem.W.takesIn K (.builtin "object.__class__")=some true
section
variable {prog:Program} {w:World} {A:Around} {E:bu} {s:Shared} {K:Fg} {x C:Addr} {ox:Obj} {odo:Option Obj} {bm:List Value} {name:Str} {tk:Tok} {R:Result->Shared->Prop}
theorem mO {fill ex:Bool} {Q:bu} (X:K.In s.heap) (I:PySem.W.InstAt s.heap x ox C odo) (g:oB K C)
  (h:codeAny (model prog w) A (.call (.builtin "BaseException.__getattribute__") ⟨[.ref x,.str name tk],[]⟩) (fun r s'=>∃ v,r=.ok (.ret v)/\PySem.W.handedIn v=true/\Q v s') s) :
  wpAny (model prog w) A (getAttrBy (.ref x) (.str name tk) fill ex) Q E s:=by
 have FB:=PySem.F.attrBase_ValueError
 unfold getAttrBy
 refine wpAny_holding (wpAny_bind (I.type.here (wpAny_bind ((PySem.W.looks_findIn X g.ga).here ?_))))
 have e2:(Value.builtin "BaseException.__getattribute__" == Value.builtin "object.__getattribute__")=false:=by decide +kernel
 dsimp only
 rw [e2,Bool.and_false,if_neg Bool.false_ne_true]
 unfold getAttrByItsOwn hookBefore
 rw [if_pos (show onTheHeap (Value.ref C)=true from rfl)]
 refine wpAny_bind ((PySem.W.looks_findIn X g.gn).here (wpAny_bind (wpAny_attempt (wpAny_holding ?_))))
 unfold callGetattribute
 rw [if_neg (by cases ex <;> decide)]
 unfold boundAndCalled
 rw [FB.ga.bind (.ref x)]
 refine wpAny_bind (wpAny_pure (wpAny_call (codeAny_mono h fun r s' hq=>?_)))
 obtain⟨v,rfl,hh,q⟩:=hq
 exact PySem.W.handed_on hh q
theorem F3 {X:K.In s.heap} (I:PySem.W.InstAt s.heap x ox C odo) (c:fO K C bm) (T:String) (hT:iB.contains (.type T)=true):PySem.W.Looks (model prog w) s.heap (isInstance (.ref x) (.type T)) true:=by
 obtain⟨cd,hc,hm⟩:=jc c
 have hob:(Value.ref C :: bm).contains (.type T)=true:=by
  rw [List.contains_cons,(c.tl _ X).hasType (X:=T) (b:=true) hT,Bool.or_true]
 refine I.type.andThen (PySem.W.looks_mroIn X ?_)
 unfold PySem.W.mroIn
 rw [hc]
 show (if cd.mro.isEmpty=true then none else some (cd.mro.contains (.type T)))=some true
 rw [hm,hob];rfl
theorem mP (X:K.In s.heap) (I:PySem.W.InstAt s.heap x ox C odo) (c:fO K C bm)
  (h:wpAny (model prog w) A.in1 (Builtin.«object.__getattribute__» ⟨[.ref x,.str name tk],[]⟩) (fun fin s'=>match fin with
   | .done f=>R (.ok f) s'
   | .again c'=>c'.quiet=true/\codeAny (model prog w) A c' R s') (fun e s'=>R (.error e) s') s) :
  codeAny (model prog w) A (.call (.builtin "BaseException.__getattribute__") ⟨[.ref x,.str name tk],[]⟩) R s:=by
 have FB:=PySem.F.attrBase_ValueError
 exact codeAny_call_builtin FB.ga.plain PySem.F.entry_bexc_ga (PySem.W.check_slot (i := "BaseException.__getattribute__") (owner := "BaseException") (n := "__getattribute__") (by decide +kernel) (by decide +kernel) (F3 (X:=X) I c "BaseException" (by decide +kernel)) (PySem.F.args_bexc_ga _ _) h)
theorem xm {v:Value} (X:K.In s.heap) (I:PySem.W.InstAt s.heap x ox C odo) (c:fO K C bm) (hf:PySem.W.findObj K C odo name=some (.value v)) (h:R (.ok (.ret v)) s) :
  codeAny (model prog w) A (.call (.builtin "BaseException.__getattribute__") ⟨[.ref x,.str name tk],[]⟩) R s:=by
 refine mP X I c ?_
 unfold Builtin.«object.__getattribute__»
 have L:=PySem.W.looks_find (M:=model prog w) X I hf
 refine wpAny_bind (wpAny_pure (wpAny_bind (wpAny_pure (wpAny_bind (I.type.here (wpAny_bind (L.here ?_)))))))
 exact wpAny_pure h
theorem qN {od:Obj} (X:K.In s.heap) (I:PySem.W.InstAt s.heap x ox C (some od)) (c:fO K C bm) (g:oB K C) (h:R (.ok (.ret (.ref C))) s) :
  codeAny (model prog w) A (.call (.builtin "BaseException.__getattribute__") ⟨[.ref x,.str "__class__" tk],[]⟩) R s:=by
 refine mP X I c ?_
 unfold Builtin.«object.__getattribute__»
 obtain⟨cd,hc,hm⟩:=jc c
 have hf:=PySem.W.findObj_data (K:=K) (C:=C) (od:=od) (name := "__class__") (by rw [hc];rfl) g.cl g.cg g.ct
 have L:=PySem.W.looks_find (M:=model prog w) X I hf
 have mo:PySem.W.mroIn K C (.type "object")=some true:=by
  unfold PySem.W.mroIn
  rw [hc]
  show (if cd.mro.isEmpty=true then none else some (cd.mro.contains (.type "object")))=some true
  rw [hm,List.contains_cons,(c.tl _ X).hasType (X := "object") (b:=true) (by decide +kernel),Bool.or_true];rfl
 refine wpAny_bind (wpAny_pure (wpAny_bind (wpAny_pure (wpAny_bind (I.type.here (wpAny_bind (L.here ?_)))))))
 show wpAny _ _ (holding [Value.builtin "object.__class__"] (call (.builtin "getset_descriptor.__get__") [.builtin "object.__class__", .ref x,.ref C]) >>= ret) _ _ _
 exact wpAny_bind (wpAny_holding (wpAny_call (PySem.W.class_get X I mo (wpAny_pure h))))
end
section
variable {K:Fg} {x C:Addr} {ox od:Obj} {bm:List Value}
theorem iX (c:fO K C bm) (g:oB K C):PySem.W.KitX K (.ref x) (.ref C) (fun h=>PySem.W.InstAt h x ox C (some od)) where
 ty:=fun _ _ _ I=>I.type
 it:=fun _ _ X _=>by
  obtain⟨nm,q,N,bs,hdct,sn,sub,ab,col,dd,k0,k1,k2,k3,k5,lk⟩:=c.ob
  intro A' Q' E' s' k q
  unfold isType loadHead
  exact wpAny_bind (wpAny_loadPart (k _ _ (X _ _ lk)) (wpAny_pure q))
 ne:=fun h tp dd its n sl X htp=>by
  obtain⟨nm,q,N,bs,hdct,sn,sub,ab,col,dd',k0,k1,k2,k3,k5,lk⟩:=c.ob
  refine Bool.eq_false_iff.mpr fun z=>?_
  have e:C=tp:=Value.ref.inj (beq_iff_eq.mp z)
  subst e
  have z2:=congrArg Obj.cls (Option.some.inj ((X _ _ lk).symm.trans htp))
  exact absurd (show Value.type "type" = Value.type "tuple" from z2) (by decide +kernel)
 ca:=fun {prog w A E Q s} X I k=>by
  unfold getAttr? getAttrBy?
  refine wpAny_bind (wpAny_mkText (wpAny_bind (wpAny_attempt ?_)))
  exact mO (s:={ s with toks:=s.toks+1 }) X I g (qN (s:={ s with toks:=s.toks+1 }) X I c g ⟨_,rfl,rfl,wpAny_pure k⟩)
end
structure eX (S ch:List Addr) (h h':Heap):Prop where
 same:∀ b o,b∉S->b∉ch->h.get? b=some o->h'.get? b=some o
 slot:∀ b o,b∉ch->h.get? b=some o->∃ sl,h'.get? b=some { o with slots:=sl }
theorem eX.trans {S c1 c2:List Addr} {h h1 h2:Heap} (a:eX S c1 h h1) (b:eX S c2 h1 h2):eX S (c1++c2) h h2 where
 same:=fun x o n1 n2 q=>b.same x o n1 (fun z=>n2 (List.mem_append_right _ z)) (a.same x o n1 (fun z=>n2 (List.mem_append_left _ z)) q)
 slot:=fun x o n2 q=>by
  obtain⟨sl,z⟩:=a.slot x o (fun z=>n2 (List.mem_append_left _ z)) q
  obtain⟨sl',z'⟩:=b.slot x _ (fun z=>n2 (List.mem_append_right _ z)) z
  exact⟨sl',z'⟩
theorem eX.upd {S:List Addr} {h:Heap} {T:Addr} {f:Obj->Obj}:eX S [T] h (h.update T f) where
 same:=fun b o _ n q=>by rw [Heap.get?_update_other _ _ (fun z=>n (by rw [z];exact List.mem_singleton.mpr rfl))];exact q
 slot:=fun b o n q=>⟨o.slots,by rw [Heap.get?_update_other _ _ (fun z=>n (by rw [z];exact List.mem_singleton.mpr rfl))];exact q⟩
def fw (h:Heap) (x C T:Addr) (dx:Option Addr) (fl:Value):Prop:=
 ∃ oe vs oT ts,h.get? x=some oe/\oe.cls=.ref C/\oe.dict=dx/\oe.data=.fields vs/\vs[1]?=some (.ref T)/\T≠x/\h.get? T=some oT/\oT.data=.fields ts/\ts[3]?=some fl
section
variable {M:Model} {A:Around} {E:bu} {s:Shared} {base:Heap} {env:Env} {outer:List Env} {L e C T:Addr} {oe:Obj} {vs:Array Value} {dx:Option Addr} {fl:Value}
theorem qQ (f:Array Value->Array Value) (o:Obj):(Obj.mapFields f o).dict=o.dict:=by
 unfold Obj.mapFields;split <;> rfl
theorem uX {hadNext:Bool} {head:Value} {Q:Unit->Shared->Prop} (hfr:A.frames=some (env :: outer)) (hl:s.heap.FunFrames base (env :: outer)) (hf:env.frame=some L)
  (he:s.heap.get? e=some oe) (hd:oe.data=.fields vs) (hsz:1 < vs.size) (hc:oe.cls=.ref C) (hx:oe.dict=dx)
  (h:∀ h' T,eX (jx (env :: outer)) [e] s.heap h'->s.heap.get? T=none->fw h' e C T dx (rawInt L)->Q () { s with heap:=h' }) :
  wpAny M A (do let a ← frameOf env;let pl ← entryPlaceOf L hadNext;let b ← EntryCells.newEntry head a .none (rawInt L) .none pl;setField (.ref e) 1 b) Q E s:=by
 have hene:e∉jx (env :: outer):=fun hm=>by
  obtain⟨_,o,ho,hnf⟩:=hl.mem hm
  rw [he] at ho;cases ho;exact hnf vs hd
 refine wpAny_bind (wpAny_frameOf_fun hfr hl hf fun h1 s1=>wpAny_bind (wpAny_entryPlaceOf fun pl hpl=>?_))
 unfold EntryCells.newEntry newFields
 refine wpAny_bind (wpAny_newObj_type ?_ (hpl.sizeOk5 _ _ _ _ _))
 have he1:h1.get? e=some oe:=(s1.2.1 e hene).trans he
 generalize hob:({ cls:=.type "traceback", dict:=none,data:=.fields ([head,.ref L,.none,rawInt L,.none]++(if pl.isEmpty then List.replicate 6 Value.none else pl)).toArray }:Obj)=ob
 have he2:=Heap.get?_push_of_some (h:=h1) ob he1
 refine wpAny_setField he2 hd hsz (h _ h1.objs.size ⟨fun b o n1 n2 q=>?_,fun b o n2 q=>?_⟩ ?_ ?_)
 ·rw [Heap.get?_update_other _ _ (fun z=>n2 (by rw [z];exact List.mem_singleton.mpr rfl))]
  exact Heap.get?_push_of_some _ ((s1.2.1 b n1).trans q)
 ·obtain⟨sl,z⟩:=s1.2.2 b o q
  refine⟨sl,?_⟩
  rw [Heap.get?_update_other _ _ (fun z=>n2 (by rw [z];exact List.mem_singleton.mpr rfl))]
  exact Heap.get?_push_of_some _ z
 ·exact Heap.get?_none_of_le (Nat.le_of_eq s1.1.symm)
 ·have nT:h1.objs.size≠e:=Nat.ne_of_gt (Heap.lt_size he1)
  have d3:=Obj.data_mapFields hd (·.setIfInBounds 1 (Value.ref h1.objs.size))
  refine⟨_,_,ob,_,Heap.get?_update_self _ he2 (Obj.isFreed_of_fields d3),(Obj.cls_mapFields _ _).trans hc,(qQ _ _).trans hx,d3,by simp [hsz],nT,?_,by rw [← hob],?_⟩
  ·rw [Heap.get?_update_other _ _ (Ne.symm nT)]
   exact Heap.get?_push_size h1 (by rw [← hob];rfl)
  ·first | (simp;done) | (rcases hpl with rfl | ⟨_,_,_,_,_,_,_,rfl⟩ <;> simp)
theorem k6 {Q:Unit->Shared->Prop} (t:fw s.heap e C T dx fl) (h:∀ h',eX [] [T] s.heap h'->fw h' e C T dx .none->Q () { s with heap:=h' }):wpAny M A (setFlight (.ref e) none) Q E s:=by
 obtain⟨oe,vs,oT,ts,q1,q2,q3,q4,q5,q6,q7,q8,q9⟩:=t
 have z3:3 < ts.size:=(Array.getElem?_eq_some_iff.mp q9).1
 unfold setFlight
 refine wpAny_bind (wpAny_field q1 q4 q5 ?_)
 rw [if_pos (by simp)]
 refine wpAny_setField q7 q8 z3 (h _ eX.upd ?_)
 have d3:=Obj.data_mapFields q8 (·.setIfInBounds 3 ((none:Option Addr).elim Value.none fun f=>rawInt f))
 exact⟨oe,vs,_,_,(Heap.get?_update_other _ _ q6).trans q1,q2,q3,q4,q5,q6,Heap.get?_update_self _ q7 (Obj.isFreed_of_fields d3),d3,by simp [z3]⟩
theorem CI {Q:Unit->Shared->Prop} (hfr:A.frames=some (env :: outer)) (hl:s.heap.FunFrames base (env :: outer)) (hf:env.frame=some L) (he:s.heap.get? e=some oe) (hd:oe.data=.fields vs) (h1:vs[1]?=some .none) (hc:oe.cls=.ref C) (hx:oe.dict=dx)
  (h:∀ h' T,eX (jx (env :: outer)) [e] s.heap h'->s.heap.get? T=none->fw h' e C T dx (rawInt L)->Q () { s with heap:=h' }):wpAny M A (noteFrame (.ref e) env) Q E s:=by
 unfold noteFrame
 simp only [hf]
 refine wpAny_bind (wpAny_field he hd h1 ?_)
 rw [if_neg (by decide)]
 exact uX hfr hl hf he hd (Array.getElem?_eq_some_iff.mp h1).1 hc hx h
theorem CH {Q:Unit->Shared->Prop} (hfr:A.frames=some (env :: outer)) (hl:s.heap.FunFrames base (env :: outer)) (hf:env.frame=some L) (t:fw s.heap e C T dx .none)
  (h:∀ h' T',eX (jx (env :: outer)) [T,e] s.heap h'->s.heap.get? T'=none->fw h' e C T' dx (rawInt L)->Q () { s with heap:=h' }):wpAny M A (noteFrame (.ref e) env) Q E s:=by
 obtain⟨oe,vs,oT,ts,q1,q2,q3,q4,q5,q6,q7,q8,q9⟩:=t
 unfold noteFrame
 simp only [hf]
 refine wpAny_bind (wpAny_field q1 q4 q5 ?_)
 rw [if_pos (by simp)]
 refine wpAny_bind (wpAny_field q7 q8 q9 ?_)
 rw [if_neg (by simp [rawInt])]
 refine wpAny_bind (wpAny_setField q7 q8 (Array.getElem?_eq_some_iff.mp q9).1 ?_)
 have k1:eX (jx (env :: outer)) [T] s.heap (s.heap.update T (Obj.mapFields (·.setIfInBounds 3 Value.none))):=eX.upd
 have nf:∀ b o,s.heap.get? b=some o->(∀ us,o.data≠.fields us)->b∉[T]:=fun b o hb hn z=>by
  rw [List.mem_singleton.mp z,q7] at hb;cases hb;exact hn ts q8
 refine uX (base:=base) hfr (hl.of_keeps fun b o hb hn=>?_) hf ((Heap.get?_update_other _ _ q6).trans q1) q4 (Array.getElem?_eq_some_iff.mp q5).1 q2 q3 fun h' T' k nT t'=>h h' T' (k1.trans k) ?_ t'
 ·obtain⟨sl,z⟩:=k1.slot b o (nf b o hb hn) hb
  exact⟨_,z,rfl⟩
 ·cases q:s.heap.get? T' with
  | none=>rfl
  | some o=>
   exfalso
   by_cases z:T'=T
   ·have d3:=Obj.data_mapFields q8 (·.setIfInBounds 3 Value.none)
    rw [z,Heap.get?_update_self _ q7 (Obj.isFreed_of_fields d3)] at nT;cases nT
   ·rw [Heap.get?_update_other _ _ (Ne.symm z)] at nT;rw [q] at nT;cases nT
end
def Dl (d:Addr) (fs:List (Str×V)):Heap->Prop:=fun h=>∃ mA,h.Ns1 d mA/\∀ f,eF (fs.lookup f) (mA f)
def dO (d:Addr) (fs:List (Str×V)):HO:=.ext (Dl d fs)
theorem yy {P:Program} {w:World} {H:Hp} {h:Heap} {d:Addr} {fs:List (Str×V)} (e:Dl d fs h):ObjOk P w H h d (dO d fs):=
 ⟨e,let ⟨_,⟨_,_,_,q,_⟩,_⟩:=e;⟨_,q⟩,fun _ _ ⟨mA,n,r⟩ k=>⟨mA,n.at k,r⟩⟩
theorem qd {a:Option V} {b:Option Value} (r:eF a b) (h:b≠none):a≠none:=fun z=>by
 subst z
 cases b with
 | none=>exact h rfl
 | some _=>exact r.elim
theorem jK {fs:List (Str×V)} {mA:Str->Option Value} {f:Str} {y:V} {u:Value} (r:∀ g,eF (fs.lookup g) (mA g)) (q:aU y u):∀ g,eF (((f,y) :: fs).lookup g) (if g=f then some u else mA g):=fun g=>by
 by_cases z:g=f
 ·subst z
  rw [if_pos rfl,List.lookup_cons_self];exact q
 ·rw [if_neg z,List.lookup_cons,beq_eq_false_iff_ne.mpr z];exact r g
theorem jy {fs:List (Str×V)} {mA:Str->Option Value} (r:∀ g,eF (fs.lookup g) (mA g)):PySem.Within mA (fs.map (·.1)):=fun g hg=>by
 have z:=qd (r g) hg
 cases q:fs.lookup g with
 | none=>exact absurd q z
 | some v=>
  obtain⟨l1,l2,e,_⟩:=List.lookup_eq_some_iff.mp q
  rw [e];simp
section
variable {X:Cx} {pins:bo} {σ:L2.St} {H:Hp} {s:Shared} {a C:Addr}
theorem setX1 {A:Around} {E:bu} {f:Str} {y:V} {u:Value} {bm:List Value} {Q:Unit->Shared->Prop} (hex:X.ex=[]) (I:L2.Inv X pins σ H s) (e:H a=some (gi a C none)) (c:fO X.K C bm) (n:dn X.K C f) (ry:aU y u)
  (h:∀ d s',H d=none->d≠a->L2.Inv X pins σ (upd (upd H a (gi a C (some d))) d (dO d [(f,y)])) s'->Q () s'):wpAny (model X.prog X.w) A (setAttr (.ref a) f u) Q E s:=by
 obtain⟨t,hx⟩:=(show ObjOk X.prog X.w H s.heap a (gi a C none) from I.hok a _ e).1
 have J:PySem.W.InstAt s.heap a _ C none:=⟨hx,rfl,rfl,trivial⟩
 refine PySem.W.set_plain I.kIn J c.sa (jH (s:={ s with toks:=s.toks+1 }) I.kIn J c n fun b=>?_)
 obtain⟨cd,hc,hd'⟩:=PySem.W.any_some c.hd
 refine wpAny_bind (wpAny_pure (wpAny_bind (wpAny_bind (wpAny_loadPart hx (wpAny_bind (PySem.W.Looks.here (s:={ s with toks:=s.toks+1 }) (PySem.W.looks_clsIn I.kIn hc) ?_))))))
 rw [hd']
 show wpAny _ _ (alloc { cls:=.type "dict", data:=.dict #[] } >>= fun d=>update a (fun o=>{ o with dict:=some d }) >>= fun _=>dictMade (.ref C) a d) _ _ _
 have la:a < s.heap.objs.size:=Heap.lt_size hx
 have nad:s.heap.objs.size≠a:=Nat.ne_of_gt la
 have g1:=Heap.get?_push_of_some (h:=s.heap) { cls:=.type "dict", data:=.dict #[] } hx
 refine wpAny_bind (wpAny_alloc (wpAny_bind (wpAny_update g1 ?_)))
 have g2:=Heap.get?_update_self (fun o=>{ o with dict:=some s.heap.objs.size }) g1 rfl
 have e1:((s.heap.push { cls:=.type "dict", data:=.dict #[] }).update a fun o=>{ o with dict:=some s.heap.objs.size }).get? s.heap.objs.size=some { cls:=.type "dict", data:=.dict #[] }:=by
  rw [Heap.get?_update_other _ _ nad.symm];exact Heap.get?_push_size s.heap rfl
 have e3:((s.heap.push { cls:=.type "dict", data:=.dict #[] }).update a fun o=>{ o with dict:=some s.heap.objs.size }).Ns s.heap.objs.size (fun _=>none):=
  ⟨_,#[],_,e1,rfl,(fun e he=>absurd he (by simp)),fun _=>rfl⟩
 have keep:∀ b o,b≠a->s.heap.get? b=some o->((s.heap.push { cls:=.type "dict", data:=.dict #[] }).update a fun o=>{ o with dict:=some s.heap.objs.size }).get? b=some o:=fun b o nb q=>by
  rw [Heap.get?_update_other _ _ (Ne.symm nb)];exact Heap.get?_push_of_some _ q
 refine wpAny_pure (a:=some s.heap.objs.size) (wpAny_bind (wpAny_pure (wpAny_bind ?_)))
 refine wpAny_nsSet1 (Heap.Ns1.of_empty e3) fun h' hn2 hs2=>?_
 have rel:∀ g,eF ([(f,y)].lookup g) (if g=f then some u else none):=jK (fs:=[]) (mA:=fun _=>none) (fun _=>trivial) ry
 obtain⟨oD,esD,epD,hoD,hdD,hcD⟩:=hn2.count (jy rel)
 refine wpAny_bind (wpAny_lookBehind hoD (by rw [hdD];exact pastItsLine_dict (Nat.le_trans hcD (Nat.le_add_left _ _))) ?_)
 have hno:s.heap.get? s.heap.objs.size=none:=Heap.get?_none_of_le (Nat.le_refl _)
 have hH:H s.heap.objs.size=none:=B.Inv.none_of I hno
 refine wpAny_pure (h s.heap.objs.size _ hH nad ?_)
 have ga:h'.get? a=some { cls:=.ref C,dict:=some s.heap.objs.size,data:=.fields #[.ref t,.none,.none,.none,.bool false,.none] }:=(hs2.2 a nad.symm).trans g2
 have I2:L2.Inv X pins σ (upd H a (gi a C (some s.heap.objs.size))) { s with heap:=h',toks:=s.toks+1+1 }:=I.write (x:=a) (e:=a) (o:=gi a C (some s.heap.objs.size)) (h':=h') (by rw [e];trivial) (.inl rfl) (fun b o nb q=>by
  have nb2:b≠s.heap.objs.size:=Nat.ne_of_lt (Heap.lt_size q)
  exact (hs2.2 b nb2).trans (keep b o nb q)) ⟨_,ga⟩ (uU ⟨t,ga⟩)
 exact B.Inv.adopt I2 (B.Inv.newAt I hex hno) (by rw [aw nad];exact hH) hex (yy ⟨_,hn2,rel⟩)
theorem setX2 {A:Around} {E:bu} {f:Str} {y:V} {u:Value} {bm:List Value} {d:Addr} {fs:List (Str×V)} {Q:Unit->Shared->Prop} (I:L2.Inv X pins σ H s) (e:H a=some (gi a C (some d))) (ed:H d=some (dO d fs)) (hl:fs.length≤100) (c:fO X.K C bm) (n:dn X.K C f) (ry:aU y u)
  (h:∀ s',L2.Inv X pins σ (upd H d (dO d ((f,y) :: fs))) s'->Q () s'):wpAny (model X.prog X.w) A (setAttr (.ref a) f u) Q E s:=by
 obtain⟨t,hx⟩:=(show ObjOk X.prog X.w H s.heap a (gi a C (some d)) from I.hok a _ e).1
 obtain⟨mA,hn,rel0⟩:=(show ObjOk X.prog X.w H s.heap d (dO d fs) from I.hok d _ ed).1
 obtain⟨od,_,_,hod,_⟩:=id hn
 have J:PySem.W.InstAt s.heap a _ C (some od):=⟨hx,rfl,rfl,hod⟩
 refine PySem.W.set_plain I.kIn J c.sa (jH (s:={ s with toks:=s.toks+1 }) I.kIn J c n fun b=>?_)
 obtain⟨cd,hc,hd'⟩:=PySem.W.any_some c.hd
 refine wpAny_bind (wpAny_pure (wpAny_bind (wpAny_bind (wpAny_loadPart hx (wpAny_bind (PySem.W.Looks.here (s:={ s with toks:=s.toks+1 }) (PySem.W.looks_clsIn I.kIn hc) ?_))))))
 rw [hd']
 refine wpAny_pure (a:=some d) (wpAny_bind (wpAny_pure (wpAny_bind ?_)))
 refine wpAny_nsSet1 (s:={ s with toks:=s.toks+1 }) hn fun h' hn2 hs2=>?_
 have rel:=jK (f:=f) rel0 ry
 obtain⟨oD,esD,epD,hoD,hdD,hcD⟩:=hn2.count (jy rel)
 have hz:esD.size≤101:=by rw [List.length_map,List.length_cons] at hcD;omega
 refine wpAny_bind (wpAny_lookBehind hoD (by rw [hdD];exact pastItsLine_dict (Nat.le_trans hz (by decide))) ?_)
 refine wpAny_pure (h _ ?_)
 exact I.write (x:=d) (e:=d) (o:=dO d ((f,y) :: fs)) (h':=h') (by rw [ed];trivial) (.inl rfl) (fun b o nb q=>(hs2.2 b nb).trans q) ⟨_,hoD⟩ (yy ⟨_,hn2,rel⟩)
end
section
variable {X:Cx} {o value:Expr} {f:Str} {ta tv:TE} {pos' pos:Pos}
def yd (K:Fg) (ta tv:TE) (f:Str):TS:=fun D σ H=>tv σ H fun y H1=>ta σ H1 fun x H2=>∃ a C bm,x=.ref a/\fO K C bm/\dn K C f∧
 ((H2 a=some (gi a C none)/\∀ d,H2 d=none->d≠a->D.nx σ (upd (upd H2 a (gi a C (some d))) d (dO d [(f,y)])))∨
  ∃ d fs,H2 a=some (gi a C (some d))/\H2 d=some (dO d fs)/\fs.length≤100/\D.nx σ (upd H2 d (dO d ((f,y) :: fs))))
theorem v5 (hex:X.ex=[]) (ha:PE X o ta) (hv:PE X value tv) (hs:swapsWith value (some (.Attribute o f pos')) pos.line X.env=pure false):PS X (.Assign [.Attribute o f pos'] value pos) (yd X.K ta tv f):=by
 intro pins s σ H D I h
 refine plainObj_wpAny_Assign_Attribute (bF (hv pins s σ H _ I h) fun u s1 ⟨y,H1,I1,ry,q⟩=>bF (ha pins s1 σ H1 _ I1 q) fun ov s2 ⟨x,H2,I2,rx,a,C,bm,ex,c,n,q2⟩=>?_) hs
 subst ex
 obtain rfl:ov=Value.ref a:=rx
 rcases q2 with ⟨ea,k⟩ | ⟨d,fs,ea,ed,hl,k⟩
 ·exact B.setX1 hex I2 ea c n ry fun d s' hd nd I'=>⟨σ,_,I',k d hd nd⟩
 ·exact B.setX2 I2 ea ed hl c n ry fun s' I'=>⟨σ,_,I',k⟩
end
theorem eX.any {S ch:List Addr} {h h':Heap} (k:eX [] ch h h'):eX S ch h h':=⟨fun b o _ n q=>k.same b o (fun z=>by cases z) n q,k.slot⟩
section
variable {X:Cx} {pins:bo} {σ:L2.St} {H:Hp} {s:Shared} {a C T:Addr} {dx:Option Addr} {fl:Value}
theorem Inv.leftK {ch:List Addr} {h':Heap} {tk:Nat} (I:L2.Inv X pins σ H s) (hch:∀ b∈ch,H b=none/\cU X pins b) (k:eX (jx X.stack) ch s.heap h'):L2.Inv X pins σ H { s with heap:=h',toks:=tk }:=by
 have yL:∀ b o,H b=some o->b∉jx X.stack/\b∉ch:=fun b o q=>
  ⟨(fun z=>by rw [I.stkFree b z] at q;cases q),(fun z=>by rw [(hch b z).1] at q;cases q)⟩
 refine I.call' (s':={ s with heap:=h',toks:=tk }) (ch:=ch) rfl ⟨fun b o q _ n1 n2=>k.same b o n1 n2 q,fun b o q _ n1 n2=>k.slot b o n2 q,fun b o _ n _=>n,fun b o q n2=>?_,fun b xs q=>q,fun b o u q=>q,fun b ps q=>⟨#[],by rw [Array.append_empty];exact q⟩⟩ (fun b o q=>?_) I.bare
  (fun b hb=>⟨.inr (hch b hb).2.st,(hch b hb).2.lo,(hch b hb).2.ce,(hch b hb).2.pi⟩)
 ·obtain⟨sl,z⟩:=k.slot b o n2 q
  exact⟨_,z⟩
 ·refine (I.hok b o q).stay (fun c u hc z=>?_) (fun c z=>z) (fun c xs z=>z)
  rcases hc with rfl | hc
  ·obtain⟨n1,n2⟩:=yL _ _ q;exact k.same _ _ n1 n2 z
  ·obtain⟨n1,n2⟩:=yL _ _ hc;exact k.same _ _ n1 n2 z
theorem AH {A:Around} {E':bu} {Q:Shared->Prop} {oe:Obj} {vs:Array Value} (hA:A.frames=X.A.frames) (I:L2.Inv X pins σ H s) (hex:X.ex=[]) (hst:X.stack=X.env :: X.outer) (hfr:X.env.frame=some X.env.locals)
  (ha:H a=none) (na:cU X pins a) (hx:s.heap.get? a=some oe) (hd:oe.data=.fields vs) (h1:vs[1]?=some .none) (hc:oe.cls=.ref C) (hdx:oe.dict=dx)
  (h:∀ (s':Shared) (T:Addr),L2.Inv X pins σ H s'->cU X pins T->H T=none->fw s'.heap a C T dx .none->Q s') :
  wpAny (model X.prog X.w) A (noteFrame (.ref a) X.env) (fun _ s2=>wpAny (model X.prog X.w) A (setFlight (.ref a) none) (fun _ s3=>Q s3) E' s2) E' s:=by
 have hfrm:A.frames=some (X.env :: X.outer):=by rw [hA,I.ok.frames,hst]
 refine CI (base:=X.base) hfrm (by rw [← hst];exact I.stack) hfr hx hd h1 hc hdx fun h1 T k1 nT t1=>?_
 refine k6 (s:={ s with heap:=h1 }) t1 fun h2 k2 t2=>?_
 have nt:=B.Inv.newAt I hex nT
 have hT:=B.Inv.none_of I nT
 rw [← hst] at k1
 refine h { s with heap:=h2 } T (B.Inv.leftK (tk:=s.toks) I (fun b hb=>?_) (k1.trans k2.any)) nt hT t2
 simp only [List.cons_append,List.nil_append,List.mem_cons,List.not_mem_nil,or_false] at hb
 rcases hb with rfl | rfl
 ·exact⟨ha,na⟩
 ·exact⟨hT,nt⟩
theorem AG {A:Around} {E':bu} {Q:Shared->Prop} (hA:A.frames=X.A.frames) (I:L2.Inv X pins σ H s) (hex:X.ex=[]) (hst:X.stack=X.env :: X.outer) (hfr:X.env.frame=some X.env.locals)
  (ha:H a=none) (na:cU X pins a) (hT:H T=none) (nT:cU X pins T) (t:fw s.heap a C T dx .none)
  (h:∀ (s':Shared) (T':Addr),L2.Inv X pins σ H s'->cU X pins T'->H T'=none->fw s'.heap a C T' dx .none->Q s') :
  wpAny (model X.prog X.w) A (noteFrame (.ref a) X.env) (fun _ s2=>wpAny (model X.prog X.w) A (setFlight (.ref a) none) (fun _ s3=>Q s3) E' s2) E' s:=by
 have hfrm:A.frames=some (X.env :: X.outer):=by rw [hA,I.ok.frames,hst]
 refine CH (base:=X.base) hfrm (by rw [← hst];exact I.stack) hfr t fun h1 T' k1 nT' t1=>?_
 refine k6 (s:={ s with heap:=h1 }) t1 fun h2 k2 t2=>?_
 have nt:=B.Inv.newAt I hex nT'
 have hT':=B.Inv.none_of I nT'
 rw [← hst] at k1
 refine h { s with heap:=h2 } T' (B.Inv.leftK (tk:=s.toks) I (fun b hb=>?_) (k1.trans k2.any)) nt hT' t2
 simp only [List.cons_append,List.nil_append,List.mem_cons,List.not_mem_nil,or_false] at hb
 rcases hb with rfl | rfl | rfl
 ·exact⟨hT,nT⟩
 ·exact⟨ha,na⟩
 ·exact⟨hT',nt⟩
theorem AR {A:Around} {E':bu} {Q:Shared->Prop} (I:L2.Inv X pins σ H s) (hT:H T=none) (nT:cU X pins T) (t:fw s.heap a C T dx .none)
  (h:∀ (s':Shared),L2.Inv X pins σ H s'->fw s'.heap a C T dx .none->Q s'):wpAny (model X.prog X.w) A (setFlight (.ref a) none) (fun _ s3=>Q s3) E' s:=by
 refine k6 t fun h2 k2 t2=>h _ (B.Inv.leftK (tk:=s.toks) I (fun b hb=>?_) k2.any) t2
 rw [List.mem_singleton.mp hb];exact⟨hT,nT⟩
end
def Dm (P:Program) (w:World):nk:=fun outer H s E e s'=>∃ (x C T:Addr) (dx:Option Addr) (H':Hp),e=.ref x/\s'.os=s.os/\AllBare s'.gens/\Un (jx outer) [] H H' s.heap s'.heap/\fA P w H' s'.heap/\s.heap.get? x=none/\s.heap.get? T=none/\H' x=none/\H' T=none∧
 fw s'.heap x C T dx .none/\E (.ref C) dx H'
section
variable {P:Program} {w:World} {K:Fg} {mg:Str->Option Value} {base:Heap} {N:List Str} {qual:Str} {scope:Scope} {f:Addr} {cd:Value} {A:Around} {outer:List Env} {s:Shared} {H:Hp} {E:XK}
def oy (X:Cx) (E:XK):Prop:=∀ (pins:bo) (σ:L2.St) (H:Hp) (s:Shared) (a C:Addr) (dx:Option Addr) (oe:Obj) (vs:Array Value),L2.Inv X pins σ H s->H a=none->cU X pins a->s.heap.get? a=some oe->oe.data=.fields vs→
 vs[1]?=some .none->oe.cls=.ref C->oe.dict=dx->E (.ref C) dx H->X.xe (.ref a) s
theorem kd:oy (bx (Dm P w) P w K mg base N qual scope f cd A outer s H E) E:=by
 intro pins σ H1 s1 a C dx oe vs I ha na hx hd h1 hc hdx hE
 show wpAny (model P w) _ (leaving _ _) _ _ s1
 unfold leaving
 refine wpAny_bind (AH rfl I rfl rfl rfl ha na hx hd h1 hc hdx fun s3 T' I3 nT' hT' tr'=>?_)
 exact⟨a,C,T',dx,H1,rfl,I3.os,I3.bare,I3.base,I3.hok,na.st,nT'.st,ha,hT',tr',hE⟩
theorem Fun.okD {x:Str} {st:Stmt} {fd:FuncData} {ps:List Str} {k:Nat} {sp:Sp} (F:Fun K x qual st f fd) (S:aF N ps (au st)) (len:∀ vs H Q E,sp vs H Q E->vs.length=ps.length)
  (hbody:∀ (cdv:Value) (A:Around) (outer:List Env) (s:Shared) (H:Hp) (vs:List V) (Q:VK) (E:XK),cc k (A.deeper (envOfC qual (au st) s.heap.objs.size f cdv))->sp vs H Q E→
   ∃ t,lD (bx (Dm P w) P w K mg base N qual (au st) f cdv A outer s H E) (cI st) t/\t { nx:=fun _ H'=>Q .non H',rt:=Q } (fU N vs) H):bh P w K mg base (Dm P w) (k+1) f fd ps sp:=by
 obtain⟨oc,od,kV,doc,pm,an,cdv,ct,osl,rfl,lk,hcd⟩:=F.ex
 exact yw lk hcd S len fun A outer s H vs Q E hr hsp=>hbody cdv A outer s H vs Q E hr hsp
end
section
variable {X:Cx} {k:Nat} {f C:Addr} {fd:FuncData} {ps:List Str} {sp:Sp} {bm:List Value}
def oH (C:Addr) (sp:Sp) (E:XK) (t:TA):TS:=fun _ σ H=>t σ H fun vs H1=>vs.length≤sizeLine/\∀ a,H1 a=none->sp (.ref a :: vs) (upd H1 a (gi a C none)) (fun v H2=>v=.non/\∃ dx,H2 a=some (gi a C dx)/\E (.ref C) dx (fz H2 a)) E0
theorem qi {x:Str} {p cpos pos:Pos} {e:Expr} {es:List Expr} {t:TA} {E:XK} (M:XC X.K C f bm) (hbase:bm.contains (.type "BaseException")=true) (hex:X.ex=[]) (tk:oy X E) (F:bh X.prog X.w X.K X.mg X.base cZ k f fd ps sp) (hr:cc (k+1) X.A) (hb:aS X.K fd ps [])
  (hg:Gl X x) (hm:X.mg x=some (.ref C)) (ha:PA X (e :: es) t) (hdb:(x == ("__debug__" : Str))=false:=by decide) (he:starEach (e :: es) X.env=(false,eval e X.env) :: starEach es X.env:=by rfl) (hpl:(backTo cpos (starEach es X.env)).any (·.1)=false:=by rfl) :
  PS X (.Raise (some (.Call (.Name x p) (e :: es) [] cpos)) none pos) (oH C sp E t):=by
 intro pins s σ H D I h
 obtain⟨nm,q,N,bs,hdct,sn,sub,ab,col,dd,k0,k1,k2,k3,k5,lk⟩:=M.ob
 rw [arm_exec_Raise]
 refine wpAny_bind (wpAny_standAt (qf (C:=C) (bm:=bm) (nm:=nm) (q:=q) (N:=N) (bs:=bs) (hdct:=hdct) (sn:=sn) (sub:=sub) (ab:=ab) (col:=col) (dd:=dd) (k0:=k0) (k1:=k1) (k2:=k2) (k3:=k3) (k5:=k5) (newId := "ValueError.__new__") hbase hr.hd ?_))
 refine wpAny_bind (wpAny_mono (Q:=fun v s'=>∃ a H',v=.ref a/\cU X pins a/\L2.Inv X pins σ H' s'/\∃ dx,H' a=some (gi a C dx)/\E (.ref C) dx (fz H' a)) ?_ (fun v s1 h1=>wpAny_bind (wpAny_standAt (wpAny_pure ?_))) fun _ _ y=>y)
 ·refine wpAny_Call_Name_kw (ir I hg hm ?_ hdb)
  refine PySem.W.callWith_K (h₀:=X.base) I.ok.mod.kin M.kp (bF (ha cpos pins s σ H _ I h) fun us s1 ⟨vs,H1,I1,r,hz,q⟩=>⟨I1.kIn,?_⟩) he hpl
  exact vN M hex F hr hb I1 (us:=[]++us) r (by rw [List.nil_append,← r.length];exact hz) q
 ·obtain⟨a,H',rfl,na,I1,dx,hx,hE⟩:=h1
  obtain⟨tt,ho⟩:=(show L2.ObjOk X.prog X.w H' s1.heap a (gi a C dx) from I1.hok a _ hx).1
  exact⟨a,tt,dx,rfl,I1.kIn _ _ lk,ho,tk pins σ (fz H' a) s1 a C dx _ _ (B.Inv.forget I1 hx na.st) cT na ho rfl rfl rfl rfl hE⟩
end
abbrev RX:=Addr->Option Addr->Hp->Prop
def EC (X:Cx) (pins:bo) (R:RX):bu:=fun e s=>∃ (x C T:Addr) (dx:Option Addr) (H:Hp),e=.ref x/\L2.Inv X pins (eK X.N) H s/\H x=none/\cU X pins x/\H T=none/\cU X pins T/\fw s.heap x C T dx .none/\R C dx H
def fL (X:Cx) (pins:bo) (R:RX):Cx:={ X with pn:=X.pn++pins,xe:=EC X pins R }
section
variable {X:Cx} {pins pins':bo} {σ:L2.St} {H:Hp} {s:Shared} {R:RX} {e:Addr}
theorem yM (I:L2.Inv X pins σ H s):L2.Inv (fL X pins R) [] σ H s:=
 ⟨⟨I.ok.mod,I.ok.kind,I.ok.glob,I.ok.blt,I.ok.above,I.ok.inj,I.ok.has,I.ok.cab,I.ok.hd,I.ok.frames,I.ok.stk,I.ok.exf,I.ok.bs,I.ok.bsz,I.ok.noex,I.ok.exfs,I.ok.funs,I.ok.frf⟩,I.os,I.bare,I.base,I.loc,I.cell,I.free,I.freeC,
  fun p hp=>I.pin p (by rw [List.append_nil] at hp;exact hp),I.hok,I.len⟩
theorem ofTryD (I:L2.Inv (fL X pins R) pins' σ H s):L2.Inv X pins σ H s:=
 ⟨⟨I.ok.mod,I.ok.kind,I.ok.glob,I.ok.blt,I.ok.above,I.ok.inj,I.ok.has,I.ok.cab,I.ok.hd,I.ok.frames,I.ok.stk,I.ok.exf,I.ok.bs,I.ok.bsz,I.ok.noex,I.ok.exfs,I.ok.funs,I.ok.frf⟩,I.os,I.bare,I.base,I.loc,I.cell,I.free,I.freeC,
  fun p hp=>I.pin p (List.mem_append_left _ hp),I.hok,I.len⟩
def EE (R:RX):XK:=fun v dx H=>∃ C,v=.ref C/\R C dx H
theorem Ai (hex:X.ex=[]):jo (Dm X.prog X.w) (fL X pins R) (EE R):=by
 intro pins' σ H1 s1 e s2 I hx
 obtain⟨x,C,T,dx,H2,rfl,ho,hb,un,hok,nx,nT,hx2,hT2,tr,C',e',hr⟩:=hx
 cases e'
 have na:=B.Inv.newAt I hex nx
 have nt:=B.Inv.newAt I hex nT
 have I2:L2.Inv (fL X pins R) pins' σ H2 s2:=I.call' ho un hok hb (fun b hb=>by cases hb)
 exact⟨x,C,T,dx,H2,rfl,uJ (ofTryD I2),hx2,⟨na.st,na.lo,na.ce,fun p hp=>na.pi p (List.mem_append_left _ hp),na.fr⟩,hT2,⟨nt.st,nt.lo,nt.ce,fun p hp=>nt.pi p (List.mem_append_left _ hp),nt.fr⟩,tr,hr⟩
theorem SP.ofTryD {D:fN} {f:Flow} (h:SP (fL X pins R) [] D f s):SP X pins D f s:=by
 cases f with
 | next=>obtain⟨σ',H',I,q⟩:=h;exact⟨σ',H',B.ofTryD I,q⟩
 | brk=>obtain⟨σ',H',I,q⟩:=h;exact⟨σ',H',B.ofTryD I,q⟩
 | cont=>obtain⟨σ',H',I,q⟩:=h;exact⟨σ',H',B.ofTryD I,q⟩
 | ret u=>obtain⟨v,σ',H',I,r,q⟩:=h;exact⟨v,σ',H',B.ofTryD I,r,q⟩
end
theorem fh {X:Cx} {pins:bo} {σ:L2.St} {H:Hp} {s:Shared} {M:Model} {A:Around} {E:bu} {i:Nat} {x:Str} {pos:Pos} {Q:Unit->Shared->Prop} (I:L2.Inv X pins σ H s) (hN:X.N.Nodup) (hi:X.N[i]?=some x) (hk:X.env.scope.names.lookup x=some .local)
  (h:∀ s',L2.Inv X pins (σ.set i none) H s'->Q () s'):wpAny M A (do bindName X.env x .none;unbindBehindTheSuite X.env x pos) Q E s:=by
 obtain⟨m,hn,hl⟩:=id I.loc
 have hiσ:i < σ.length:=by rw [I.len];exact (List.getElem?_eq_some_iff.mp hi).1
 have lt:∀ b o,X.s₀.heap.get? b=some o->b≠X.env.locals:=fun b o e=>Nat.ne_of_lt (Nat.lt_of_lt_of_le (Heap.lt_size e) I.ok.above)
 refine wpAny_nameGoes_keeps hk hn (by rw [I.ok.kind];rfl) fun h' v hn' hs=>h _ ?_
 refine⟨I.ok,I.os,I.bare,⟨fun b o e n hb hx=>(hs.2 b (lt b o e)).trans (I.base.keep b o e n hb hx),fun b o e n hb hx=>?_,I.base.free,fun b o e hx=>?_,I.base.tups,I.base.frzs,I.base.tbls⟩,⟨_,hn',fun j y v' e1 e2 e3=>?_⟩,fun y c e=>?_,I.free,I.freeC,fun p hp=>?_,fun b ob e=>?_,by simpa using I.len⟩
 ·obtain⟨sl,e1⟩:=I.base.slot b o e n hb hx
  exact⟨sl,(hs.2 b (lt b o e)).trans e1⟩
 ·obtain⟨o',e1⟩:=I.base.there b o e hx
  exact⟨o',(hs.2 b (lt b o e)).trans e1⟩
 ·have hj:j≠i:=fun z=>by subst z;rw [List.getElem?_set_self hiσ] at e2;cases e2
  rw [List.getElem?_set_ne (Ne.symm hj)] at e2
  obtain⟨u',r',q⟩:=hl j y v' e1 e2 e3
  refine⟨u',r',?_⟩
  rcases q with ⟨k,e⟩ | ⟨k,c,e,z⟩
  ·refine .inl ⟨k,?_⟩
   have ny:y≠x:=fun e=>hj (iT hN e1 (e ▸ hi))
   show (if y=x then v else m y)=some u'
   rw [if_neg ny];exact e
  ·exact .inr ⟨k,c,e,z.sameBut hs (I.cne y c e)⟩
 ·obtain⟨w',z⟩:=I.cell y c e
  exact⟨w',z.sameBut hs (I.cne y c e)⟩
 ·obtain⟨e,n,ne,nf,d⟩:=I.pin p hp
  exact⟨(hs.2 p.1 ne).trans e,n,ne,nf,d⟩
 ·refine (I.hok b ob e).stay (fun c w' hc q=>(hs.2 c ?_).trans q) (fun _ q=>q) fun _ _ q=>q
  rintro rfl
  rcases hc with rfl | hc
  ·rw [I.free] at e;cases e
  ·rw [I.free] at hc;cases hc
def ED (a C d:Addr):Heap->Prop:=fun h=>∃ oe,h.get? a=some oe/\oe.cls=.ref C/\oe.dict=some d/\PySem.W.notCls oe=true
def xn (a C d:Addr):HO:=.ext (ED a C d)
theorem AS {P:Program} {w:World} {H:Hp} {h:Heap} {a C d:Addr} (e:ED a C d h):ObjOk P w H h a (xn a C d):=
 ⟨e,let ⟨_,q,_⟩:=e;⟨_,q⟩,fun _ _ ⟨o,q,r⟩ k=>⟨o,k _ q,r⟩⟩
theorem fw.er {h:Heap} {x C T d:Addr} {fl:Value} (t:fw h x C T (some d) fl):ED x C d h:=by
 obtain⟨oe,vs,oT,ts,q1,q2,q3,q4,_⟩:=t
 exact⟨oe,q1,q2,q3,by unfold PySem.W.notCls;rw [q4]⟩
def CU (i:Nat) (D:fN):fN:={ nx:=fun σ H=>D.nx (σ.set i none) H,rt:=D.rt,bk:=fun σ H=>D.bk (σ.set i none) H,ct:=fun σ H=>D.ct (σ.set i none) H }
def EN (N:List Str) (R:RX) (Ok:Addr->Prop) (tb th:TS):TS:=fun D σ H=>tb D σ H/\∀ C dx H',R C dx H'->Ok C/\th D (eK N) H'
def rR (N:List Str) (i:Nat) (R:RX) (Ok:Addr->Prop) (tb th:TS):TS:=fun D σ H=>tb D σ H/\∀ C dx H',R C dx H'->Ok C/\∃ d,dx=some d/\∀ a,H' a=none->th (CU i D) ((eK N).set i (some (.ref a))) (upd H' a (xn a C d))
section
variable {X:Cx} {R:RX} {body:List Stmt} {b₀:Stmt} {suite:List Stmt} {x:Str} {p hpos pos:Pos} {u:Value} {tb th:TS}
theorem yH {M:Model} {h:Heap} {a C T:Addr} {dx:Option Addr} {fl:Value} (t:fw h a C T dx fl):PySem.W.Looks M h (typeOf (.ref a)) (.ref C):=by
 obtain⟨oe,_,_,_,q1,q2,_⟩:=t
 rw [← q2]
 exact (PySem.W.Looks.ld q1).andThen .now
theorem tQ {i:Nat} {n:Str} (hex:X.ex=[]) (hst:X.stack=X.env :: X.outer) (hfr:X.env.frame=some X.env.locals) (hg:Gl X x) (hm:X.mg x=some u) (hN:X.N.Nodup) (hi:X.N[i]?=some n) (hn:X.env.scope.names.lookup n=some .local)
  (hb:∀ pins,lD (fL X pins R) body tb) (hs:∀ e,lD (jQ X e) (b₀ :: suite) th) (hd:(x == ("__debug__" : Str))=false:=by decide) :
  PS X (.Try body [.ExceptHandler (some (.Name x p)) (some n) (b₀ :: suite) hpos] [] [] pos) (rR X.N i R (fun C=>PySem.W.exmOne X.K (.ref C) u=some true) tb th):=by
 intro pins s σ H D I ⟨h1,h2⟩
 refine wpAny_Try_except (wpAny_mono (hb pins [] s σ H D (yM I) h1) (fun f s1 q=>?_) fun e s1 q=>?_)
 ·have q':=SP.ofTryD q
  cases f with
  | next=>exact wpAny_execs_nil q'
  | brk=>exact q'
  | cont=>exact q'
  | ret u=>exact q'
 ·obtain⟨a,C,T,dx,H1,rfl,I1,ha,na,hT,nT,tr,hR⟩:=q
  obtain⟨hk,d,rfl,hth⟩:=h2 C dx H1 hR
  refine AG rfl I1 hex hst hfr ha na hT nT tr fun s2 T2 I2 nT2 hT2 tr2=>?_
  refine wpAny_handleBy_cons (codeAny_handlers_test ?_) (by intro z;cases z)
  refine ir (X:=jQ X a) (xP I2) hg hm ?_ hd
  refine PySem.W.Looks.here (s:=s2) (PySem.W.exm_one (M:=model X.prog X.w) I2.kIn (yH tr2) hk) ?_
  refine codeAny_handlers_suite_as ?_
  refine AR I2 hT2 nT2 tr2 fun s3 I3 tr3=>?_
  have I4:L2.Inv X pins (eK X.N) (upd H1 a (xn a C d)) s3:=B.Inv.adopt I3 na ha hex (AS tr3.er)
  refine dQ (X:=jQ X a) (xP I4) hN hi (.inl hn) (v:=.ref a) (u:=.ref a) rfl (fun s5 I5=>?_) (.inr hn)
  refine wpAny_mono (hs a pins s5 _ _ (CU i D) I5 (hth a ha)) (fun f s6 q6=>?_) fun _ _ z=>z.elim
  cases f with
  | next=>obtain⟨σ',H',J,q⟩:=q6;exact fh (oX I.ok J) hN hi hn fun s' J'=>⟨_,_,J',q⟩
  | brk=>obtain⟨σ',H',J,q⟩:=q6;exact fh (oX I.ok J) hN hi hn fun s' J'=>⟨_,_,J',q⟩
  | cont=>obtain⟨σ',H',J,q⟩:=q6;exact fh (oX I.ok J) hN hi hn fun s' J'=>⟨_,_,J',q⟩
  | ret u=>obtain⟨v,σ',H',J,r,q⟩:=q6;exact fh (oX I.ok J) hN hi hn fun s' J'=>⟨v,_,_,J',r,q⟩
end
def Cg (K:Fg):List V->Hp->VK->Prop:=fun xs H Q=>∃ (a C d:Addr) (fs:List (Str×V)) (bm:List Value) (c:V) (b:Bool),xs=[.ref a,c]/\H a=some (xn a C d)/\H d=some (dO d fs)/\fO K C bm/\oB K C∧
 ((∃ n,c=.ty n/\PySem.W.kitOne K (.ref C) (.type n)=some b)∨(∃ D,c=.ref D/\PySem.W.kitOne K (.ref C) (.ref D)=some b)∨
  ∃ (p:Addr) (cs:List Addr),c=.ref p/\H p=some (.tup (cs.map V.ref))/\PySem.W.kitAny K (.ref C) (cs.map Value.ref)=some b)/\Q (.bl b) H
theorem jB:∀ {cs:List Addr} {us:List Value},aT (cs.map V.ref) us->us=cs.map Value.ref
 | [],_,.nil=>rfl
 | c :: cs,_,.cons r q=>by
  rw [List.map_cons,jB q,(show _=Value.ref c from r)]
theorem u9 {X:Cx}:b8 X (.builtin "isinstance") (Cg X.K):=by
 intro pins s σ H xs us Q I r h
 obtain⟨a,C,d,fs,bm,c,b,rfl,ea,ed,cl,gx,k,q⟩:=h
 obtain⟨u,u2,rfl,rx,ry⟩:=jD r
 obtain rfl:u=Value.ref a:=rx
 obtain⟨oe,h1,h2,h3,h4⟩:=(show ObjOk X.prog X.w H s.heap a (xn a C d) from I.hok a _ ea).1
 obtain⟨mA,⟨od,es,ep,h5,_⟩,_⟩:=(show ObjOk X.prog X.w H s.heap d (dO d fs) from I.hok d _ ed).1
 have J:PySem.W.InstAt s.heap a oe C (some od):=⟨h1,h2,h4,by rw [h3];exact h5⟩
 rcases k with ⟨n,rfl,e⟩ | ⟨D,rfl,e⟩ | ⟨p,cs,rfl,hp,e⟩
 ·obtain rfl:u2=Value.type n:=ry
  exact PySem.W.kia_one (iX cl gx) I.kIn J e (fun z=>nomatch z) fun tk=>⟨.bl b,H,I.tok tk,rfl,q⟩
 ·obtain rfl:u2=Value.ref D:=ry
  exact PySem.W.kia_one (iX cl gx) I.kIn J e (fun z=>nomatch z) fun tk=>⟨.bl b,H,I.tok tk,rfl,q⟩
 ·obtain rfl:u2=Value.ref p:=ry
  obtain⟨_,its,rv,o,ho,hc,n,hd⟩:=(show ObjOk X.prog X.w H s.heap p (.tup (cs.map V.ref)) from I.hok p _ hp)
  rw [jB rv] at hd
  obtain⟨oc,odd,oda,osl⟩:=o
  dsimp only at hc hd
  subst hc;subst hd
  exact PySem.W.kia_tup (iX cl gx) I.kIn J ho e (fun z=>nomatch z) fun tk=>⟨.bl b,H,I.tok tk,rfl,q⟩
theorem je {X:Cx} {K:Fg} (h:X.K=K):b8 X (.builtin "isinstance") (Cg K):=by
 subst h;exact u9
def m8 (H:Hp) (a C d:Addr):Prop:=H a=some (xn a C d)∨H a=some (gi a C (some d))
section
variable {X:Cx} {pins:bo} {σ:L2.St} {H:Hp} {s:Shared} {a C d:Addr} {fs:List (Str×V)}
theorem m8.inst (I:L2.Inv X pins σ H s) (h:m8 H a C d) (ed:H d=some (dO d fs)):∃ (oe od:Obj) (mA:Str->Option Value),PySem.W.InstAt s.heap a oe C (some od)/\(∀ name,PySem.W.lookIn name od=some (mA name))/\∀ f,eF (fs.lookup f) (mA f):=by
 obtain⟨mA,hn,r⟩:=(show ObjOk X.prog X.w H s.heap d (dO d fs) from I.hok d _ ed).1
 obtain⟨od,ho,hl⟩:=jN hn
 rcases h with h | h
 ·obtain⟨oe,h1,h2,h3,h4⟩:=(show ObjOk X.prog X.w H s.heap a (xn a C d) from I.hok a _ h).1
  exact⟨oe,od,mA,⟨h1,h2,h4,by rw [h3];exact ho⟩,hl,r⟩
 ·obtain⟨t,h1⟩:=(show ObjOk X.prog X.w H s.heap a (gi a C (some d)) from I.hok a _ h).1
  exact⟨_,od,mA,⟨h1,rfl,rfl,ho⟩,hl,r⟩
end
def xT (K:Fg) (ta:TE) (f:Str):TE:=fun σ H Q=>ta σ H fun x H1=>∃ a C d fs bm v,x=.ref a/\m8 H1 a C d/\H1 d=some (dO d fs)/\fO K C bm/\oB K C/\dn K C f/\fs.lookup f=some v/\Q v H1
theorem wz {X:Cx} {e:Expr} {f:Str} {pos:Pos} {ta:TE} {K:Fg} (hK:X.K=K) (he:PE X e ta) (hb:attributeBase e f X.env (eval e X.env)=eval e X.env):PE X (.Attribute e f pos) (xT K ta f):=by
 subst hK
 intro pins s σ H Q I h
 refine xB hb (bF (he pins s σ H _ I h) fun u s1 ⟨x,H1,I1,rx,a,C,d,fs,bm,v,ex,ea,ed,c,g,n,l,q⟩=>?_)
 subst ex
 obtain rfl:u=Value.ref a:=rx
 obtain⟨oe,od,mA,J,hl,r⟩:=m8.inst I1 ea ed
 obtain⟨u',hu,ru⟩:=eF.some_of (v:=v) (o:=mA f) (by rw [← l];exact r f)
 unfold getAttr
 refine wpAny_bind (wpAny_mkText ?_)
 refine mO (s:={ s1 with toks:=s1.toks+1 }) I1.kIn J g ?_
 refine xm (s:={ s1 with toks:=s1.toks+1 }) I1.kIn J c (PySem.W.findObj_own c.hd n rfl (by rw [hl,hu])) ?_
 exact⟨u',rfl,qJ ru,v,H1,I1.tok _,ru,q⟩
def F0 (K:Fg):List V->Hp->VK->Prop:=fun xs H Q=>∃ (a C d:Addr) (fs:List (Str×V)) (bm:List Value) (c:V) (b:Bool),xs=[.ref a,c]/\m8 H a C d/\H d=some (dO d fs)/\fO K C bm/\oB K C∧
 ((∃ n,c=.ty n/\PySem.W.kitOne K (.ref C) (.type n)=some b)∨(∃ D,c=.ref D/\PySem.W.kitOne K (.ref C) (.ref D)=some b)∨
  ∃ (p:Addr) (cs:List Addr),c=.ref p/\H p=some (.tup (cs.map V.ref))/\PySem.W.kitAny K (.ref C) (cs.map Value.ref)=some b)/\Q (.bl b) H
def D4 (C:Addr) (sp:Sp) (t:TA):TE:=fun σ H Q=>t σ H fun vs H1=>vs.length≤sizeLine/\∀ a,H1 a=none->sp (.ref a :: vs) (upd H1 a (gi a C none)) (fun v H2=>v=.non/\Q (.ref a) H2) E0
theorem ik {X:Cx} {pins:bo} {σ:L2.St} {H:Hp} {s:Shared} {h':Heap} {t':Nat} {fp:List Addr} (I:Inv X pins σ H s)
  (k:∀ b o,b∉fp->s.heap.get? b=some o->h'.get? b=some o) (hf:∀ b∈fp,gg X pins H b):Inv X pins σ H { s with heap:=h',toks:=t' }:=by
 have off:∀ b u,H b=some u->b∉fp:=fun b u e z=>by rw [(hf b z).1] at e;cases e
 refine I.step (g':=s.gens) (d':=s.drawn) (ch:=fp) (fun b hb=>?_) (fun b o _ _ hc e _=>k b o hc e) (fun b o _ _ hc e _=>⟨o.slots,k b o hc e⟩) (fun _ _ _ _ n=>n)
  (fun b o hc e=>⟨o,k b o hc e⟩) (fun _ _ e=>e) (fun _ _ _ e=>e) (fun b ps e=>⟨#[],by rw [e];simp⟩) (fun m hm=>?_) (fun b u e=>?_) I.bare
 ·obtain⟨_,f1,_,f3,f4,f5⟩:=hf b hb
  exact⟨f3,f1,f4,f5⟩
 ·obtain⟨o,es,ep,ho,r⟩:=hm
  exact⟨o,es,ep,k _ o (fun z=>(hf _ z).2.1 rfl) ho,r⟩
 ·refine (I.hok b u e).stay (fun c v hc q=>k c v ?_ q) (fun _ q=>q) fun _ _ q=>q
  rcases hc with z | z
  ·rw [z];exact off b u e
  ·exact off c _ z
section
variable {prog:Program} {w:World} {A:Around} {E:bu} {s:Shared}
theorem wO {j t:Addr} {k:Nat} {ys:Array Value} {v:Value} {G:bu} (a:s.heap.IsTupleIter j t k) (b:s.heap.IsTuple t ys) (c:ys[k]?=some v)
  (g:∀ h',h'.IsTupleIter j t (k+1)->Heap.SameBut j s.heap h'->G v { s with heap:=h' }):wpAny (model prog w) A (Builtin.SmallTypes.nextOf (.ref j)) G E s:=by
 obtain⟨o,e1,e2,e3⟩:=id a
 obtain⟨q,f1,_,n,f2⟩:=b
 unfold Builtin.SmallTypes.nextOf
 refine wpAny_bind (wpAny_callSpecial?_slot (name:=Str.ofString "__next__") a.typeIs F.slot_tuple_iterator_next
  (wpAny_call_entry F.slot_tuple_iterator_next a.typeIs F.entry_tuple_iterator_next ?_ (F.args_tuple_iterator_next_1 _)))
 show wpAny (model prog w) _ (field (.ref j) 0 >>= _) _ _ s
 refine wpAny_bind (wpAny_field e1 e3 (x:=.ref t) rfl ?_)
 show wpAny (model prog w) _ (if (Value.ref t == Value.none)=true then _ else _) _ _ s
 rw [if_neg (fun z=>Bool.noConfusion z:¬ ((Value.ref t == Value.none)=true))]
 show wpAny (model prog w) _ (field (.ref j) 1 >>= _) _ _ s
 refine wpAny_bind (wpAny_field e1 e3 (x:=.int k 0) rfl ?_)
 show wpAny (model prog w) _ (seqItems? (.ref t) >>= _) _ _ s
 refine wpAny_bind (wpAny_seqItems f1 f2 ?_)
 simp only [c,Int.toNat_natCast]
 refine wpAny_bind (wpAny_setField e1 e3 (by simp) (wpAny_pure ⟨v,rfl,wpAny_pure (g _ ?_ (Heap.SameBut.update ..))⟩))
 refine⟨_,Heap.get?_update_self _ e1 (Obj.isFreed_of_fields (Obj.data_mapFields e3 _)),(Obj.cls_mapFields ..).trans e2,?_⟩
 rw [Obj.data_mapFields e3];simp [rawInt]
theorem uC {j t:Addr} {k:Nat} {ys:Array Value} {G:bu} (hh:A.handled=none) (a:s.heap.IsTupleIter j t k) (b:s.heap.IsTuple t ys) (c:ys[k]?=none)
  (g:∀ h' e,Heap.ExtBut j s.heap h'->(∃ o,h'.get? e=some o/\o.cls=.type "StopIteration")->E (.ref e) { s with heap:=h' }):wpAny (model prog w) A (Builtin.SmallTypes.nextOf (.ref j)) G E s:=by
 obtain⟨o,e1,e2,e3⟩:=id a
 obtain⟨q,f1,_,n,f2⟩:=b
 unfold Builtin.SmallTypes.nextOf
 refine wpAny_bind (wpAny_callSpecial?_slot (name:=Str.ofString "__next__") a.typeIs F.slot_tuple_iterator_next
  (wpAny_call_entry F.slot_tuple_iterator_next a.typeIs F.entry_tuple_iterator_next ?_ (F.args_tuple_iterator_next_1 _)))
 show wpAny (model prog w) _ (field (.ref j) 0 >>= _) _ _ s
 refine wpAny_bind (wpAny_field e1 e3 (x:=.ref t) rfl ?_)
 show wpAny (model prog w) _ (if (Value.ref t == Value.none)=true then _ else _) _ _ s
 rw [if_neg (fun z=>Bool.noConfusion z:¬ ((Value.ref t == Value.none)=true))]
 show wpAny (model prog w) _ (field (.ref j) 1 >>= _) _ _ s
 refine wpAny_bind (wpAny_field e1 e3 (x:=.int k 0) rfl ?_)
 show wpAny (model prog w) _ (seqItems? (.ref t) >>= _) _ _ s
 refine wpAny_bind (wpAny_seqItems f1 f2 ?_)
 simp only [c,Int.toNat_natCast]
 refine wpAny_bind (wpAny_rule (wpAny_bind (wpAny_setField e1 e3 (by simp) ?_)))
 show wpAny (model prog w) _ (newExc (.type "StopIteration") [] >>= _) _ _ _
 refine wpAny_bind ?_
 simp only [newTuple,newExc]
 refine wpAny_bind (wpAny_newObj_type ?_ (by size_fits))
 refine wpAny_bind (m:=firstArgMember _ _) (wpAny_of_eq (a:=Value.none) (by first | rfl | (simp only [firstArgMember] <;> rfl)) ?_)
 refine wpAny_newObj_type ?_ (by size_fits)
 simp only [raiseNew]
 refine wpAny_bind (wpAny_handled ?_)
 first | rw [hh] | rw [show A.in1.handled=none from hh]
 refine wpAny_bind (wpAny_pure (wpAny_throw (g _ _ (((Heap.SameBut.update ..).extBut.push _).push _) ⟨_,Heap.get?_push_size _ rfl,rfl⟩)))
structure xN (z TI TO i1 i2:Addr):Prop where
 a1:TI≠z
 a2:TO≠z
 a3:i1≠z
 a4:i2≠z
 a5:TI≠TO
 a6:TI≠i1
 a7:TI≠i2
 a8:TO≠i1
 a9:TO≠i2
 b1:i1≠i2
theorem rH {z TI TO i1 i2:Addr} {x y a b:Value} {A1 A2:Heap->Prop} {G:bu} (D:xN z TI TO i1 i2)
  (hz:IsZip s.heap z TI TO .none) (hI:IsPair s.heap TI (.ref i1) (.ref i2)) (hO:IsPair s.heap TO a b)
  (N1:∀ (s':Shared) (G:bu) (E:bu),(∀ c o,c≠z->s.heap.get? c=some o->s'.heap.get? c=some o)->(∀ h',A1 h'->Heap.SameBut i1 s'.heap h'->G x { s' with heap:=h' })->wpAny (model prog w) A (Builtin.SmallTypes.nextOf (.ref i1)) G E s')
  (N2:∀ (s':Shared) (G:bu) (E:bu),(∀ c o,c≠z->c≠TO->c≠i1->s.heap.get? c=some o->s'.heap.get? c=some o)->(∀ h',A2 h'->Heap.SameBut i2 s'.heap h'->G y { s' with heap:=h' })->wpAny (model prog w) A (Builtin.SmallTypes.nextOf (.ref i2)) G E s')
  (l1:i1 < s.heap.objs.size) (l2:i2 < s.heap.objs.size)
  (g:∀ h₁ h₂ h',A1 h₁->A2 h₂->(∀ c o,c≠z->c≠TO->c≠i2->h₁.get? c=some o->h'.get? c=some o)->(∀ c o,c≠z->c≠TO->h₂.get? c=some o->h'.get? c=some o)→
   IsZip h' z TI TO (rawInt s.heap.objs.size)->IsPair h' TO x y->IsPair h' s.heap.objs.size x y->h'.objs.size=s.heap.objs.size+1→
   (∀ c o,c∉[z,TO,i1,i2]->s.heap.get? c=some o->h'.get? c=some o)->G (.ref s.heap.objs.size) { s with heap:=h' }) :
  wpAny (model prog w) A (Builtin.«zip.__next__» ⟨[.ref z],[]⟩) (fun fin s'=>∃ v,fin=.done (.ret v)/\G v s') E s:=by
 show wpAny (model prog w) _ (field (.ref z) 2 >>= _) _ _ _
 refine wpAny_bind (wpAny_field hz rfl (x:=.bool false) rfl ?_)
 show wpAny (model prog w) _ (field (.ref z) 3 >>= _) _ _ _
 refine wpAny_bind (wpAny_field hz rfl (x:=.ref TI) rfl ?_)
 refine wpAny_bind (wpAny_seqItems hI rfl ?_)
 show wpAny (model prog w) _ (Builtin.SmallTypes.ownedTupleIsFree (.ref z) >>= _) _ _ _
 refine wpAny_bind ?_
 unfold Builtin.SmallTypes.ownedTupleIsFree
 refine wpAny_bind (wpAny_field hz rfl (x:=.none) rfl (wpAny_pure ?_))
 simp only [if_true]
 refine wpAny_bind (wpAny_rule ?_)
 refine wpAny_bind (wpAny_field hz rfl (x:=.ref TO) rfl ?_)
 refine wpAny_bind (wpAny_setField_rec hz (by simp) fun g1 z1 s1=>?_)
 replace z1:IsZip g1 z TI TO .ellipsis:=z1
 refine wpAny_bind ?_
 simp only [List.zipIdx_nil,List.zipIdx_cons,List.forIn_nil,List.forIn_cons]
 refine wpAny_bind (wpAny_bind (wpAny_onRaise ?_))
 show wpAny (model prog w) _ (Builtin.SmallTypes.nextOf (.ref i1) >>= _) _ _ _
 refine wpAny_bind (N1 _ _ _ (fun c o n e=>s1.extBut c o n e) fun g2 q1 s2=>wpAny_pure ?_)
 have O2:IsPair g2 TO a b:=s2.extBut _ _ D.a8 (s1.extBut _ _ D.a2 hO)
 refine wpAny_bind (wpAny_seqItems O2 rfl ?_)
 refine wpAny_bind (wpAny_updateSeq_pair O2 fun g3 O3 s3=>?_)
 replace O3:IsPair g3 TO x b:=O3
 refine wpAny_bind (wpAny_letGo (wpAny_pure ?_))
 refine wpAny_bind (wpAny_bind (wpAny_onRaise ?_))
 show wpAny (model prog w) _ (Builtin.SmallTypes.nextOf (.ref i2) >>= _) _ _ _
 refine wpAny_bind (N2 _ _ _ (fun c o n m k e=>s3.extBut _ _ m (s2.extBut _ _ k (s1.extBut c o n e))) fun g4 q2 s4=>wpAny_pure ?_)
 have O4:IsPair g4 TO x b:=s4.extBut _ _ D.a9 O3
 refine wpAny_bind (wpAny_seqItems O4 rfl ?_)
 refine wpAny_bind (wpAny_updateSeq_pair O4 fun g5 O5 s5=>?_)
 replace O5:IsPair g5 TO x y:=O5
 refine wpAny_bind (wpAny_letGo (wpAny_pure (wpAny_pure ?_)))
 refine wpAny_bind (wpAny_seqItems O5 rfl ?_)
 refine wpAny_bind (wpAny_newTuple ?_)
 have sz:g5.objs.size=s.heap.objs.size:=by rw [s5.1,s4.1,s3.1,s2.1,s1.1]
 have z5:IsZip g5 z TI TO .ellipsis:=s5.extBut _ _ D.a2.symm (s4.extBut _ _ D.a4.symm (s3.extBut _ _ D.a2.symm (s2.extBut _ _ D.a3.symm z1)))
 have zl:z < g5.objs.size:=Heap.lt_size z5
 show wpAny (model prog w) _ (Builtin.SmallTypes.ownedTupleHandOut (.ref z) (.ref g5.objs.size) >>= _) _ _ _
 refine wpAny_bind ?_
 unfold Builtin.SmallTypes.ownedTupleHandOut
 have z6:IsZip (g5.push { cls:=.type "tuple", data:=.seq #[x,y] }) z TI TO .ellipsis:=Heap.get?_push_of_some _ z5
 refine wpAny_bind (wpAny_setField_rec z6 (by simp) fun g7 z7 s7=>?_)
 replace z7:IsZip g7 z TI TO (rawInt g5.objs.size):=z7
 refine wpAny_setField_rec z7 (by simp) fun g8 z8 s8=>?_
 replace z8:IsZip g8 z TI TO (rawInt g5.objs.size):=z8
 have up:∀ c o,c≠z->g5.get? c=some o->g8.get? c=some o:=fun c o n e=>s8.extBut _ _ n (s7.extBut _ _ n (Heap.get?_push_of_some _ e))
 have t8:IsPair g8 g5.objs.size x y:=s8.extBut _ _ (Nat.ne_of_gt zl) (s7.extBut _ _ (Nat.ne_of_gt zl) (Heap.get?_push_size _ rfl))
 have sz8:g8.objs.size=g5.objs.size+1:=by rw [s8.1,s7.1,Heap.size_push]
 rw [sz] at z8 t8 sz8
 refine wpAny_pure ⟨_,rfl,?_⟩
 show G (.ref g5.objs.size) _
 rw [sz]
 refine g g2 g4 g8 q1 q2 (fun c o n m k e=>up c o n (s5.extBut _ _ m (s4.extBut _ _ k (s3.extBut _ _ m e)))) (fun c o n m e=>up c o n (s5.extBut _ _ m e)) z8 (up _ _ D.a2 O5) t8 sz8 fun c o n e=>?_
 simp only [List.mem_cons,List.not_mem_nil,or_false,not_or] at n
 exact up c o n.1 (s5.extBut _ _ n.2.1 (s4.extBut _ _ n.2.2.2 (s3.extBut _ _ n.2.1 (s2.extBut _ _ n.2.2.1 (s1.extBut _ _ n.1 e)))))
theorem rG {z TI TO i1 i2:Addr} {a b:Value} {G:Fin->Shared->Prop} (D:xN z TI TO i1 i2)
  (hz:IsZip s.heap z TI TO .none) (hI:IsPair s.heap TI (.ref i1) (.ref i2)) (hO:IsPair s.heap TO a b)
  (N:(∀ (s':Shared) (G:bu) (E:bu),(∀ c o,c≠z->s.heap.get? c=some o->s'.heap.get? c=some o)→
    (∀ h' e,Heap.ExtBut i1 s'.heap h'->(∃ o,h'.get? e=some o/\o.cls=.type "StopIteration")->E (.ref e) { s' with heap:=h' })->wpAny (model prog w) A (Builtin.SmallTypes.nextOf (.ref i1)) G E s')∨
   ((∃ x,∀ (s':Shared) (G:bu) (E:bu),(∀ c o,c≠z->s.heap.get? c=some o->s'.heap.get? c=some o)->(∀ h',Heap.SameBut i1 s'.heap h'->G x { s' with heap:=h' })->wpAny (model prog w) A (Builtin.SmallTypes.nextOf (.ref i1)) G E s')∧
    ∀ (s':Shared) (G:bu) (E:bu),(∀ c o,c≠z->c≠TO->c≠i1->s.heap.get? c=some o->s'.heap.get? c=some o)→
    (∀ h' e,Heap.ExtBut i2 s'.heap h'->(∃ o,h'.get? e=some o/\o.cls=.type "StopIteration")->E (.ref e) { s' with heap:=h' })->wpAny (model prog w) A (Builtin.SmallTypes.nextOf (.ref i2)) G E s'))
  (g:∀ h' e,(∀ c o,c∉[z,TO,i1,i2]->s.heap.get? c=some o->h'.get? c=some o)->(∃ o,h'.get? e=some o/\o.cls=.type "StopIteration")->E (.ref e) { s with heap:=h' }) :
  wpAny (model prog w) A (Builtin.«zip.__next__» ⟨[.ref z],[]⟩) G E s:=by
 show wpAny (model prog w) _ (field (.ref z) 2 >>= _) _ _ _
 refine wpAny_bind (wpAny_field hz rfl (x:=.bool false) rfl ?_)
 show wpAny (model prog w) _ (field (.ref z) 3 >>= _) _ _ _
 refine wpAny_bind (wpAny_field hz rfl (x:=.ref TI) rfl ?_)
 refine wpAny_bind (wpAny_seqItems hI rfl ?_)
 show wpAny (model prog w) _ (Builtin.SmallTypes.ownedTupleIsFree (.ref z) >>= _) _ _ _
 refine wpAny_bind ?_
 unfold Builtin.SmallTypes.ownedTupleIsFree
 refine wpAny_bind (wpAny_field hz rfl (x:=.none) rfl (wpAny_pure ?_))
 simp only [if_true]
 refine wpAny_bind (wpAny_rule ?_)
 refine wpAny_bind (wpAny_field hz rfl (x:=.ref TO) rfl ?_)
 refine wpAny_bind (wpAny_setField_rec hz (by simp) fun g1 z1 s1=>?_)
 replace z1:IsZip g1 z TI TO .ellipsis:=z1
 refine wpAny_bind ?_
 simp only [List.zipIdx_nil,List.zipIdx_cons,List.forIn_nil,List.forIn_cons]
 refine wpAny_bind (wpAny_bind (wpAny_onRaise ?_))
 show wpAny (model prog w) _ (Builtin.SmallTypes.nextOf (.ref i1) >>= _) _ _ _
 rcases N with N | ⟨⟨x,N⟩,N'⟩
 ·refine wpAny_bind (N _ _ _ (fun c o n e=>s1.extBut c o n e) fun g2 e s2 he=>?_)
  obtain⟨oe,he,hc⟩:=he
  have z2:IsZip g2 z TI TO .ellipsis:=s2 _ _ D.a3.symm z1
  have ne:e≠z:=fun q=>by subst q;rw [z2] at he;cases he;simp at hc
  refine wpAny_setField_rec z2 (by simp) fun g3 _ s3=>g g3 e (fun c o n q=>?_) ⟨oe,s3.extBut _ _ ne he,hc⟩
  simp only [List.mem_cons,List.not_mem_nil,or_false,not_or] at n
  exact s3.extBut _ _ n.1 (s2 _ _ n.2.2.1 (s1.extBut _ _ n.1 q))
 ·refine wpAny_bind (N _ _ _ (fun c o n e=>s1.extBut c o n e) fun g2 s2=>wpAny_pure ?_)
  have O2:IsPair g2 TO a b:=s2.extBut _ _ D.a8 (s1.extBut _ _ D.a2 hO)
  refine wpAny_bind (wpAny_seqItems O2 rfl ?_)
  refine wpAny_bind (wpAny_updateSeq_pair O2 fun g3 O3 s3=>?_)
  refine wpAny_bind (wpAny_letGo (wpAny_pure ?_))
  refine wpAny_bind (wpAny_bind (wpAny_onRaise ?_))
  show wpAny (model prog w) _ (Builtin.SmallTypes.nextOf (.ref i2) >>= _) _ _ _
  refine wpAny_bind (N' _ _ _ (fun c o n m k e=>s3.extBut _ _ m (s2.extBut _ _ k (s1.extBut c o n e))) fun g4 e s4 he=>?_)
  obtain⟨oe,he,hc⟩:=he
  have z4:IsZip g4 z TI TO .ellipsis:=s4 _ _ D.a4.symm (s3.extBut _ _ D.a2.symm (s2.extBut _ _ D.a3.symm z1))
  have ne:e≠z:=fun q=>by subst q;rw [z4] at he;cases he;simp at hc
  refine wpAny_setField_rec z4 (by simp) fun g5 _ s5=>g g5 e (fun c o n q=>?_) ⟨oe,s5.extBut _ _ ne he,hc⟩
  simp only [List.mem_cons,List.not_mem_nil,or_false,not_or] at n
  exact s5.extBut _ _ n.1 (s4 _ _ n.2.2.2 (s3.extBut _ _ n.2.1 (s2.extBut _ _ n.2.2.1 (s1.extBut _ _ n.1 q))))
end
theorem ij {X:Cx} {pins:bo} {σ:L2.St} {H:Hp} {s:Shared} {h':Heap} {t':Nat} {fp:List Addr} {p:Addr} {v:HO} (I:Inv X pins σ H s)
  (k:∀ b o,b∉fp->s.heap.get? b=some o->h'.get? b=some o) (hf:∀ b∈fp,gg X pins H b) (hp:s.heap.objs.size≤p) (new:ObjOk X.prog X.w (upd H p v) h' p v) :
  Inv X pins σ (upd H p v) { s with heap:=h',toks:=t' }:=by
 have off:∀ b u,H b=some u->b∉fp:=fun b u e z=>by rw [(hf b z).1] at e;cases e
 have hn:H p=none:=I.hok.fresh hp
 have old:∀ b u,H b=some u->upd H p v b=some u:=fun b u e=>by rw [aw (aM e hn)];exact e
 refine I.step (g':=s.gens) (d':=s.drawn) (ch:=fp) (fun b hb=>?_) (fun b o _ _ hc e _=>k b o hc e) (fun b o _ _ hc e _=>⟨o.slots,k b o hc e⟩) (fun b o _ e n=>?_)
  (fun b o hc e=>⟨o,k b o hc e⟩) (fun b xs e=>old b _ e) (fun b o u e=>old b _ e) (fun b ps e=>⟨#[],by rw [old b _ e];simp⟩) (fun m hm=>?_) (fun b u e=>?_) I.bare
 ·obtain⟨_,f1,_,f3,f4,f5⟩:=hf b hb
  exact⟨f3,f1,f4,f5⟩
 ·rw [aw (Nat.ne_of_lt (Nat.lt_of_lt_of_le (Heap.lt_size e) hp))];exact n
 ·obtain⟨o,es,ep,ho,r⟩:=hm
  exact⟨o,es,ep,k _ o (fun z=>(hf _ z).2.1 rfl) ho,r⟩
 ·by_cases hb:b=p
  ·subst hb;rw [ai] at e;cases e;exact new
  ·rw [aw hb] at e
   refine (I.hok b u e).stay (fun c v hc q=>k c v ?_ q) (fun c q=>old c _ q) fun c xs q=>old c _ q
   rcases hc with z | z
   ·rw [z];exact off b u e
   ·exact off c _ z
theorem oJ {X:Cx} {pins:bo} {σ:L2.St} {H:Hp} {s:Shared} {a b:Addr} {xs:List V} (I:Inv X pins σ H s) (h:aV X.K H a xs) (f:gg X pins H b):a≠b:=fun z=>by
 subst z
 rcases h with (h | ⟨o,h⟩) | ⟨o,its,n,hk,_⟩
 ·rw [f.1] at h;cases h
 ·rw [f.1] at h;cases h
 ·have e:=I.ok.mod.kin a o hk
  rcases f.2.2.2.1 with z | z
  ·exact I.ok.noex a o e z
  ·rw [(I.ok.bs a o e).1] at z;cases z
def Gk (K:Fg) (a b:Addr):It:=
 ⟨fun i H=>∃ xs ys x y,aV K H a xs/\aV K H b ys/\xs[i]?=some x/\ys[i]?=some y,
  fun i H v H'=>∃ p x y,H p=none/\v=.ref p/\H'=upd H p (.tup [x,y])/\(∀ xs,aV K H a xs->xs[i]?=some x)/\∀ ys,aV K H b ys->ys[i]?=some y,
  fun i H=>∃ xs ys,aV K H a xs/\aV K H b ys/\(xs.length≤i∨ys.length≤i)⟩
def GL (z TI TO i1 i2 a b:Addr) (i:Nat) (h:Heap):Prop:=IsZip h z TI TO .none/\IsPair h TI (.ref i1) (.ref i2)/\(∃ u v,IsPair h TO u v)/\h.IsTupleIter i1 a i/\h.IsTupleIter i2 b i
theorem fC {h h':Heap} {i a:Addr} {n:Nat} (x:h.IsTupleIter i a n) (k:∀ o,h.get? i=some o->h'.get? i=some o):h'.IsTupleIter i a n:=let ⟨o,e,r⟩:=x;⟨o,k o e,r⟩
theorem rP {h h':Heap} {a:Addr} {ys:Array Value} (x:h.IsTuple a ys) (k:∀ o,h.get? a=some o->h'.get? a=some o):h'.IsTuple a ys:=let ⟨o,e,r⟩:=x;⟨o,k o e,r⟩
abbrev zA (h:Heap) (a:Addr):Heap:=h.push { cls:=.type "tuple_iterator", data:=.fields #[.ref a,.int 0 0] }
abbrev zB (h:Heap) (a b:Addr):Heap:=zA (zA h a) b
abbrev zC (h:Heap) (a b:Addr):Heap:=(zB h a b).push { cls:=.type "tuple", data:=.seq #[.ref h.objs.size,.ref (zA h a).objs.size] }
abbrev zD (h:Heap) (a b:Addr):Heap:=(zC h a b).push { cls:=.type "tuple", data:=.seq #[.none,.none] }
abbrev zE (h:Heap) (a b:Addr):Heap:=(zD h a b).push { cls:=.type "zip", data:=.fields #[.none,.bool false,.bool false,.ref (zB h a b).objs.size,.ref (zC h a b).objs.size] }
theorem uS (n:Nat):xN (n+4) (n+2) (n+3) n (n+1):=by constructor <;> (intro q;have:(_:Nat)=_:=q;omega)
def F4 (K:Fg) (ta:TA):TI:=fun σ H R=>ta σ H fun vs H1=>∃ a b,vs=[.ref a,.ref b]/\(∃ xs,aV K H1 a xs)/\(∃ ys,aV K H1 b ys)/\R (Gk K a b) H1
theorem qP {prog:Program} {w:World} {A:Around} (hh:A.handled=none) (it a:Addr) (ne:a≠it) (items:Array Value) :
  Draws prog w A it [it,a] items.size (fun i v=>items[i]?=some v) (fun i h=>h.IsTupleIter it a i/\h.IsTuple a items) where
 live:=fun _ _ st=>let ⟨o,ho,_⟩:=st.1;⟨o,ho⟩
 frame:=fun _ _ _ st hk=>⟨fC st.1 fun o e=>hk it (by simp) o e,rP st.2 fun o e=>hk a (by simp) o e⟩
 item:=fun i s Q E hi st hQ=>by
  have hx:items[i]?=some (items[i]'hi):=Array.getElem?_eq_getElem hi
  exact wO st.1 st.2 hx fun h' i' sb=>hQ _ h' s.toks hx ⟨i',rP st.2 fun o e=>sb.extBut _ _ ne e⟩ sb
 done:=fun s Q E st hE=>uC hh st.1 st.2 (by simp) hE
theorem qO (a:Addr) (xs:Array Value):Meets (Builtin.«enumerate.__new__» ⟨[.type "enumerate", .ref a],[]⟩) (fun _ R s=>s.heap.IsTuple a xs∧
   R (.ok (.ret (.ref (zA s.heap a).objs.size))) { s with heap:=(zA s.heap a).push { cls:=.type "enumerate", data:=.fields #[.none,.bool false,.ref s.heap.objs.size,rawInt 0,.none,.none] } }):=
 .of_wp fun prog w A R s h=>by
  obtain⟨hp,g,d,tk,os⟩:=s;obtain⟨hl,h⟩:=h
  obtain⟨⟨c,dct,dt,sl⟩,ho,hc,n,hd⟩:=id hl
  replace hc:c=.type "tuple" := hc
  replace hd:dt=.seq xs n:=hd
  subst hc hd
  have hsub:=sub_enumerate
  have L:Heap.IsTuple (Shared.heap ⟨hp,g,d,tk,os⟩) a xs:=hl
  wp_walk using AutoSeq1.wpAny_loadPart' ho
  refine wpAny_stack_any fun st=>wpAny_pure ?_
  split
  ·rename_i c _ _ _ _ _
   cases (c == Value.type "enumerate")
   ·wp_walk using AutoSeq1.wpAny_loadPart' ho,wpAny_pyIter_tuple L
    exact⟨_,rfl,h⟩
   ·wp_walk using AutoSeq1.wpAny_loadPart' ho,wpAny_pyIter_tuple L
    exact⟨_,rfl,h⟩
  ·wp_walk using AutoSeq1.wpAny_loadPart' ho,wpAny_pyIter_tuple L
   exact⟨_,rfl,h⟩
theorem ot {prog:Program} {w:World} {A:Around} {E:bu} {s:Shared} {a:Addr} {items:Array Value} {Q:bu} (hL:s.heap.IsTuple a items)
  (h:∀ h',IsEnum h' (s.heap.objs.size+1) s.heap.objs.size 0 .none->h'.IsTupleIter s.heap.objs.size a 0->h'.objs.size=s.heap.objs.size+2→
   (∀ b o,s.heap.get? b=some o->h'.get? b=some o)->Q (.ref (s.heap.objs.size+1)) { s with heap:=h' }) :
  wpAny (model prog w) A (call (.type "enumerate") [.ref a]) Q E s:=by
 refine callType_new F.called_enumerate (by decide) (F.typeCall_enumerate_1 _) (F.newCall_enumerate_1 _) (fun obj=>F.args_object_init_2 obj _) F.entry_enumerate_new
  (qO a items) ⟨hL,?_⟩
 have hz:(zA s.heap a).objs.size=s.heap.objs.size+1:=Heap.size_push ..
 show _/\_
 rw [hz]
 have he:IsEnum ((zA s.heap a).push { cls:=.type "enumerate", data:=.fields #[.none,.bool false,.ref s.heap.objs.size,rawInt 0,.none,.none] }) (s.heap.objs.size+1) s.heap.objs.size 0 .none:=by
  have:=Heap.get?_push_size (zA s.heap a) (o:={ cls:=.type "enumerate", data:=.fields #[.none,.bool false,.ref s.heap.objs.size,rawInt 0,.none,.none] }) rfl
  rw [hz] at this;exact this
 refine⟨⟨_,he,rfl⟩,h _ he ⟨_,Heap.get?_push_of_some _ (Heap.get?_push_size _ rfl),rfl,rfl⟩ (by rw [Heap.size_push,hz]) fun b o x=>Heap.get?_push_of_some _ (Heap.get?_push_of_some _ x)⟩
theorem eY {X:Cx} {pins:bo} {σ:L2.St} {H:Hp} {s:Shared} {a b:Addr} {xs:List V} (I:Inv X pins σ H s) (h:aQ X.K H a xs) (f:gg X pins H b):a≠b:=fun z=>by
 subst z
 rcases h with (h | ⟨o,h⟩) | ⟨o,its,n,hk,_⟩
 ·rw [f.1] at h;cases h
 ·rw [f.1] at h;cases h
 ·have e:=I.ok.mod.kin a o hk
  rcases f.2.2.2.1 with z | z
  ·exact I.ok.noex a o e z
  ·rw [(I.ok.bs a o e).1] at z;cases z
theorem bD {h h':Heap} {i a:Addr} {n:Nat} (x:h.IsListIter i a n) (k:∀ o,h.get? i=some o->h'.get? i=some o):h'.IsListIter i a n:=x.at k
def vm (K:Fg) (a:Addr):It:=
 ⟨fun i H=>∃ xs x,aV K H a xs/\xs[i]?=some x,
  fun i H v H'=>∃ p x,H p=none/\v=.ref p/\H'=upd H p (.tup [.int i,x])/\∀ xs,aV K H a xs->xs[i]?=some x,
  fun i H=>∃ xs,aV K H a xs/\xs.length≤i⟩
theorem rM {P:Program} {w:World} {K:Fg} {elts:List Expr} {x1} {pos:Pos} {e it a:Addr} (hei:e≠it) :
  m5 P w K (.Tuple elts x1 pos) (vm K a) [e,it] e (fun i h=>(∃ old,IsEnum h e it (i:Nat) old)/\h.IsTupleIter it a i) where
 mem:=by simp
 obj:=fun i h st c hc=>by
  obtain⟨⟨old,h1⟩,⟨o2,h2,c2,d2⟩⟩:=st
  simp only [List.mem_cons,List.not_mem_nil,or_false] at hc
  rcases hc with rfl | rfl
  ·exact⟨_,h1,fun v q=>by cases (show Data.fields _=Data.cell v from q)⟩
  ·exact⟨o2,h2,fun v q=>by rw [d2] at q;cases q⟩
 keep:=fun i h h' st k=>by
  obtain⟨⟨old,h1⟩,h2⟩:=st
  exact⟨⟨old,k e (by simp) _ h1⟩,fC h2 fun o q=>k it (by simp) o q⟩
 item:=by
  intro X hP hw hK hc i pins s σ H E I hf st hg
  subst hP hw hK
  obtain⟨xs,x,q1,hx⟩:=hg
  obtain⟨its,rv,p1,z1⟩:=I.tuple q1
  obtain⟨u,hu,ru⟩:=rv.get hx
  have off:∀ c∈[e,it],a≠c:=fun c hc=>oJ I q1 (hf c hc)
  obtain⟨⟨old,h1⟩,h2⟩:=st
  have hh:X.A.in1.handled=none:=I.ok.hd hc
  have na:a≠it:=off it (by simp)
  have ne:e∉[it,a]:=fun q=>by
   simp only [List.mem_cons,List.not_mem_nil,or_false] at q
   rcases q with q | q
   ·exact hei q
   ·exact off e (by simp) q.symm
  have hi:i < its.toArray.size:=by have:=(List.getElem?_eq_some_iff.mp hu).1;simpa using this
  have el:e < s.heap.objs.size:=Heap.lt_size h1
  have il:it < s.heap.objs.size:=by obtain⟨o2,q2,_⟩:=h2;exact Heap.lt_size q2
  refine wpAny_pyNext_enum_itemD (qP hh it a na its.toArray) h1 ⟨h2,p1⟩ hi hei ne fun v h' tk hv eo st' tup hz hk=>⟨_,rfl,wpAny_letOwnedTupleGo_enum eo fun h'' e2 sb=>?_⟩
  have ev:v=u:=by
   have:its.toArray[i]?=some u:=by simpa using hu
   rw [this] at hv
   exact (Option.some.inj hv).symm
  subst ev
  have nt:s.heap.objs.size≠e:=Nat.ne_of_gt el
  have ni:s.heap.objs.size≠it:=Nat.ne_of_gt il
  have P:ObjOk X.prog X.w (upd H s.heap.objs.size (.tup [.int i,x])) h'' s.heap.objs.size (.tup [.int i,x]):=
   ⟨by show 2≤sizeLine;decide,[.int i tk,v],.cons ⟨_,rfl⟩ (.cons ru .nil),⟨_,sb.extBut _ _ nt tup,rfl,_,rfl⟩⟩
  have I2:Inv X pins σ (upd H s.heap.objs.size (.tup [.int i,x])) { s with heap:=h'',toks:=tk+1 }:=ij I (fun c o' n q=>by
   have n1:c≠e:=fun r=>n (by simp [r])
   have n2:c≠it:=fun r=>n (by simp [r])
   exact sb.extBut _ _ n1 (hk c o' n1 n2 q)) hf (Nat.le_refl _) P
  refine⟨.ref s.heap.objs.size,_,I2,rfl,⟨_,x,I.fresh,rfl,rfl,fun ys hy=>by rw [I.tuple_inj hy q1];exact hx⟩,⟨⟨_,by simpa using e2⟩,fC st'.1 fun o q=>sb.extBut _ _ hei.symm q⟩,fun c hc=>?_⟩
  have lt:c < s.heap.objs.size:=by
   simp only [List.mem_cons,List.not_mem_nil,or_false] at hc
   rcases hc with rfl | rfl
   ·exact el
   ·exact il
  rw [aw (Nat.ne_of_lt lt)]
  exact (hf c hc).1
 done:=by
  intro X hP hw hK hc i pins s σ H E I hf st hg
  subst hP hw hK
  obtain⟨xs,q1,hx⟩:=hg
  obtain⟨its,rv,p1,z1⟩:=I.tuple q1
  have off:∀ c∈[e,it],a≠c:=fun c hc=>oJ I q1 (hf c hc)
  obtain⟨⟨old,h1⟩,h2⟩:=st
  have hh:X.A.in1.handled=none:=I.ok.hd hc
  have hl:=rv.length
  have nn:its.toArray[i]?=none:=by rw [Array.getElem?_eq_none_iff];simp;omega
  have hT:s.TypeIs (.ref e) "enumerate" := ⟨_,h1,rfl⟩
  unfold pyNext
  refine wpAny_bind (wpAny_attempt (wpAny_callSpecial?_slot (name:=Str.ofString "__next__") hT F.slot_enumerate_next
   (wpAny_call_entry F.slot_enumerate_next hT F.entry_enumerate_next ?_ (F.args_enumerate_next_1 _))))
  show wpAny _ _ (field (.ref e) 2 >>= _) _ _ _
  refine wpAny_bind (wpAny_field h1 rfl (x:=.ref it) rfl ?_)
  refine wpAny_bind (uC hh h2 p1 nn fun h' x he' hx'=>?_)
  obtain⟨o,ho,hcl⟩:=hx'
  refine wpAny_bind (wpAny_isInstance (T := "StopIteration") (b:=true) ⟨o,ho,hcl⟩ isSubtype_stop ?_)
  refine wpAny_pure ⟨rfl,?_⟩
  exact ik (t':=s.toks) I (fun c o' n q=>he' c o' (fun r=>n (by simp [r])) q) hf
 self:=fun A i s Q E st h=>by
  obtain⟨⟨old,h1⟩,_⟩:=st
  exact wpAny_pyIter_enum h1 h
def CN (K:Fg) (ta:TA):TI:=fun σ H R=>ta σ H fun vs H1=>∃ a,vs=[.ref a]/\(∃ xs,aV K H1 a xs)/\R (vm K a) H1
theorem wm {X:Cx} {elts:List Expr} {x1} {tp p pos:Pos} {a:Expr} {ta:TA} (hg:Gl X "enumerate") (hm:X.mg "enumerate" = none) (ha:PA X [a] ta) (hs:starEach [a] X.env=[(false,eval a X.env)]:=by rfl) :
  PI X (.Tuple elts x1 tp) (.Call (.Name "enumerate" p) [a] [] pos) (CN X.K ta):=by
 intro pins s σ H R I h
 refine Call_ (eU I hg hm (show bootBuiltins "enumerate" = some (.type "enumerate") by kernel_rfl) (PyProof.Rows.callWith_type1 (bF (ha pos pins s σ H _ I h) fun us s1 ⟨vs,H1,I1,r1,q1⟩=>?_) hs rfl))
 obtain⟨a,e,⟨xs,hx⟩,q⟩:=q1
 subst e
 obtain⟨u,rfl,ru⟩:=r1.one
 cases ru
 obtain⟨its,_,p1,_⟩:=I1.tuple hx
 refine ot p1 fun h' he hi sz kk=>wpAny_pyIter_enum he ?_
 have I2:Inv X pins σ H1 { s1 with heap:=h' }:=I1.kept (t':=s1.toks) kk
 refine⟨_,[s1.heap.objs.size+1,s1.heap.objs.size],_,_,H1,rfl,I2,rM (a:=a) (Nat.succ_ne_self _),⟨⟨_,he⟩,hi⟩,fun c hc=>?_,q⟩
 have le:s1.heap.objs.size≤c:=by
  simp only [List.mem_cons,List.not_mem_nil,or_false] at hc
  rcases hc with h | h
  ·rw [h];exact Nat.le_succ _
  ·rw [h];exact Nat.le_refl _
 exact I1.fpOk le (I1.hok.fresh le)
theorem f8 {K:Fg} {a:Addr} {xs:List V} {g:TG} {tb:TS} {D:fN} {σ:L2.St} {H:Hp} (Pv:Nat->L2.St->Hp->Prop) (h0:Pv 0 σ H)
  (hl:∀ i σ H,i≤xs.length->Pv i σ H->aV K H a xs)
  (hs:∀ i x p σ H,xs[i]?=some x->Pv i σ H->H p=none->g (.ref p) σ (upd H p (.tup [.int i,x])) fun σ2 H2=>tb { D with nx:=Pv (i+1),ct:=Pv (i+1),bk:=D.nx } σ2 H2) (hd:∀ σ H,Pv xs.length σ H->D.nx σ H) :
  ∃ W:Nat->Nat->L2.St->Hp->Prop,(∃ m,W 0 m σ H)/\∀ i m σ H,W i m σ H→
   ((vm K a).stop i H/\D.nx σ H)∨((vm K a).go i H/\∃ N:L2.St->Hp->Prop,(∀ σ' H',N σ' H'->∃ m',m' < m/\W (i+1) m' σ' H')/\∀ x H',(vm K a).yld i H x H'->g x σ H' fun σ2 H2=>tb { D with nx:=N,ct:=N,bk:=D.nx } σ2 H2):=by
 refine⟨fun i m σ H=>m=xs.length - i/\i≤xs.length/\Pv i σ H,⟨_,rfl,Nat.zero_le _,h0⟩,?_⟩
 rintro i m σ H ⟨rfl,hi,p⟩
 have q:=hl i σ H hi p
 by_cases hlt:i < xs.length
 ·refine .inr ⟨⟨xs,_,q,List.getElem?_eq_getElem hlt⟩,Pv (i+1),fun σ' H' p'=>⟨xs.length - (i+1),by omega,rfl,hlt,p'⟩,fun x H' y=>?_⟩
  obtain⟨pp,v,hp,rfl,rfl,hv⟩:=y
  exact hs i v pp σ _ (hv xs q) p hp
 ·have e:i=xs.length:=by omega
  subst e
  exact .inl ⟨⟨xs,q,Nat.le_refl _⟩,hd σ H p⟩
def Bd (K:Fg) (a:Addr):It:=
 ⟨fun i H=>∃ xs x,aQ K H a xs/\xs[i]?=some x,
  fun i H v H'=>∃ p x,H p=none/\v=.ref p/\H'=upd H p (.tup [.int i,x])/\∀ xs,aQ K H a xs->xs[i]?=some x,
  fun i H=>∃ xs,aQ K H a xs/\xs.length≤i⟩
theorem rN {P:Program} {w:World} {K:Fg} {elts:List Expr} {x1} {pos:Pos} {e it a:Addr} (hei:e≠it) :
  m5 P w K (.Tuple elts x1 pos) (Bd K a) [e,it] e (fun i h=>(∃ old,IsEnum h e it (i:Nat) old)/\h.IsListIter it a i) where
 mem:=by simp
 obj:=fun i h st c hc=>by
  obtain⟨⟨old,h1⟩,⟨o2,h2,c2,d2⟩⟩:=st
  simp only [List.mem_cons,List.not_mem_nil,or_false] at hc
  rcases hc with rfl | rfl
  ·exact⟨_,h1,fun v q=>by cases (show Data.fields _=Data.cell v from q)⟩
  ·exact⟨o2,h2,fun v q=>by rw [d2] at q;cases q⟩
 keep:=fun i h h' st k=>by
  obtain⟨⟨old,h1⟩,h2⟩:=st
  exact⟨⟨old,k e (by simp) _ h1⟩,bD h2 fun o q=>k it (by simp) o q⟩
 item:=by
  intro X hP hw hK hc i pins s σ H E I hf st hg
  subst hP hw hK
  obtain⟨xs,x,q1,hx⟩:=hg
  obtain⟨its,rv,p1,z1⟩:=I.list q1
  obtain⟨u,hu,ru⟩:=rv.get hx
  have off:∀ c∈[e,it],a≠c:=fun c hc=>eY I q1 (hf c hc)
  obtain⟨⟨old,h1⟩,h2⟩:=st
  have hh:X.A.in1.handled=none:=I.ok.hd hc
  have na:a≠it:=off it (by simp)
  have ne:e∉[it,a]:=fun q=>by
   simp only [List.mem_cons,List.not_mem_nil,or_false] at q
   rcases q with q | q
   ·exact hei q
   ·exact off e (by simp) q.symm
  have hi:i < its.toArray.size:=by have:=(List.getElem?_eq_some_iff.mp hu).1;simpa using this
  have el:e < s.heap.objs.size:=Heap.lt_size h1
  have il:it < s.heap.objs.size:=by obtain⟨o2,q2,_⟩:=h2;exact Heap.lt_size q2
  refine wpAny_pyNext_enum_itemD (Draws.list hh it a na its.toArray) h1 ⟨h2,p1.isList⟩ hi hei ne fun v h' tk hv eo st' tup hz hk=>⟨_,rfl,wpAny_letOwnedTupleGo_enum eo fun h'' e2 sb=>?_⟩
  have ev:v=u:=by
   have:its.toArray[i]?=some u:=by simpa using hu
   rw [this] at hv
   exact (Option.some.inj hv).symm
  subst ev
  have nt:s.heap.objs.size≠e:=Nat.ne_of_gt el
  have ni:s.heap.objs.size≠it:=Nat.ne_of_gt il
  have P:ObjOk X.prog X.w (upd H s.heap.objs.size (.tup [.int i,x])) h'' s.heap.objs.size (.tup [.int i,x]):=
   ⟨by show 2≤sizeLine;decide,[.int i tk,v],.cons ⟨_,rfl⟩ (.cons ru .nil),⟨_,sb.extBut _ _ nt tup,rfl,_,rfl⟩⟩
  have I2:Inv X pins σ (upd H s.heap.objs.size (.tup [.int i,x])) { s with heap:=h'',toks:=tk+1 }:=ij I (fun c o' n q=>by
   have n1:c≠e:=fun r=>n (by simp [r])
   have n2:c≠it:=fun r=>n (by simp [r])
   exact sb.extBut _ _ n1 (hk c o' n1 n2 q)) hf (Nat.le_refl _) P
  refine⟨.ref s.heap.objs.size,_,I2,rfl,⟨_,x,I.fresh,rfl,rfl,fun ys hy=>by rw [I.list_inj hy q1];exact hx⟩,⟨⟨_,by simpa using e2⟩,bD st'.1 fun o q=>sb.extBut _ _ hei.symm q⟩,fun c hc=>?_⟩
  have lt:c < s.heap.objs.size:=by
   simp only [List.mem_cons,List.not_mem_nil,or_false] at hc
   rcases hc with rfl | rfl
   ·exact el
   ·exact il
  rw [aw (Nat.ne_of_lt lt)]
  exact (hf c hc).1
 done:=by
  intro X hP hw hK hc i pins s σ H E I hf st hg
  subst hP hw hK
  obtain⟨xs,q1,hx⟩:=hg
  obtain⟨its,rv,p1,z1⟩:=I.list q1
  have off:∀ c∈[e,it],a≠c:=fun c hc=>eY I q1 (hf c hc)
  obtain⟨⟨old,h1⟩,h2⟩:=st
  have hh:X.A.in1.handled=none:=I.ok.hd hc
  have hl:=rv.length
  have nn:its.toArray[i]?=none:=by rw [Array.getElem?_eq_none_iff];simp;omega
  have hT:s.TypeIs (.ref e) "enumerate" := ⟨_,h1,rfl⟩
  unfold pyNext
  refine wpAny_bind (wpAny_attempt (wpAny_callSpecial?_slot (name:=Str.ofString "__next__") hT F.slot_enumerate_next
   (wpAny_call_entry F.slot_enumerate_next hT F.entry_enumerate_next ?_ (F.args_enumerate_next_1 _))))
  show wpAny _ _ (field (.ref e) 2 >>= _) _ _ _
  refine wpAny_bind (wpAny_field h1 rfl (x:=.ref it) rfl ?_)
  refine wpAny_bind (wpAny_nextOf_list_end hh h2 p1.isList nn fun h' x he' hx'=>?_)
  obtain⟨o,ho,hcl⟩:=hx'
  refine wpAny_bind (wpAny_isInstance (T := "StopIteration") (b:=true) ⟨o,ho,hcl⟩ isSubtype_stop ?_)
  refine wpAny_pure ⟨rfl,?_⟩
  exact ik (t':=s.toks) I (fun c o' n q=>he' c o' (fun r=>n (by simp [r])) q) hf
 self:=fun A i s Q E st h=>by
  obtain⟨⟨old,h1⟩,_⟩:=st
  exact wpAny_pyIter_enum h1 h
def CO (K:Fg) (ta:TA):TI:=fun σ H R=>ta σ H fun vs H1=>∃ a,vs=[.ref a]/\(∃ xs,aQ K H1 a xs)/\R (Bd K a) H1
theorem ua {X:Cx} {elts:List Expr} {x1} {tp p pos:Pos} {a:Expr} {ta:TA} (hg:Gl X "enumerate") (hm:X.mg "enumerate" = none) (ha:PA X [a] ta) (hs:starEach [a] X.env=[(false,eval a X.env)]:=by rfl) :
  PI X (.Tuple elts x1 tp) (.Call (.Name "enumerate" p) [a] [] pos) (CO X.K ta):=by
 intro pins s σ H R I h
 refine Call_ (eU I hg hm (show bootBuiltins "enumerate" = some (.type "enumerate") by kernel_rfl) (PyProof.Rows.callWith_type1 (bF (ha pos pins s σ H _ I h) fun us s1 ⟨vs,H1,I1,r1,q1⟩=>?_) hs rfl))
 obtain⟨a,e,⟨xs,hx⟩,q⟩:=q1
 subst e
 obtain⟨u,rfl,ru⟩:=r1.one
 cases ru
 obtain⟨its,_,p1,_⟩:=I1.list hx
 refine call_enumerate_list p1.isList fun h' he hi sz kk=>wpAny_pyIter_enum he ?_
 have I2:Inv X pins σ H1 { s1 with heap:=h' }:=I1.kept (t':=s1.toks) kk
 refine⟨_,[s1.heap.objs.size+1,s1.heap.objs.size],_,_,H1,rfl,I2,rN (a:=a) (Nat.succ_ne_self _),⟨⟨_,he⟩,hi⟩,fun c hc=>?_,q⟩
 have le:s1.heap.objs.size≤c:=by
  simp only [List.mem_cons,List.not_mem_nil,or_false] at hc
  rcases hc with h | h
  ·rw [h];exact Nat.le_succ _
  ·rw [h];exact Nat.le_refl _
 exact I1.fpOk le (I1.hok.fresh le)
section
variable {prog:Program} {w:World} {A:Around} {E:bu}
end
def F5 (K:Fg) (n:Nat) (t:rl):TG:=fun v σ H Q=>∃ a xs,v=.ref a/\aQ K H a xs/\xs.length=n/\t xs σ H Q
section
variable {prog:Program} {w:World} {A:Around} {E:bu} {s:Shared}
open HT in
theorem lJ {t sl:Addr} {items:Array Value} {vl vu:Value} {lo hi:Option Int} {Q:bu} (ht:IsTup s.heap t items) (hs:s.heap.IsSliceOf sl vl vu .none) (pl:IsPart vl lo) (pu:IsPart vu hi)
  (h1:sIx items.size 0 lo=0) (h2:sIx items.size items.size hi=items.size) (h:Q (.ref t) s):wpAny (model prog w) A (getItem (.ref t) (.ref sl)) Q E s:=by
 obtain⟨os,hos,hcs,hds⟩:=id hs
 have hTs:s.TypeIs (.ref sl) "slice" := ⟨os,hos,hcs⟩
 unfold getItem
 try with_reducible refine wpAny_holding ?_
 first | refine wpAny_bind (wpAny_pure ?_) | skip
 refine wpAny_bind (wpAny_sequenceKey ht.typeIs (by decide) ?_)
 refine wpAny_bind (wpAny_callSpecial?_slot (name:=Str.ofString "__getitem__") ht.typeIs PyProof.Rows.slot_tuple_getitem
  (wpAny_call_entry PyProof.Rows.slot_tuple_getitem ht.typeIs entry_tuple_getitem ?_ (args_tuple_getitem _ _)))
 show wpAny _ _ (Builtin.Tuple.tupleItemsOf (.ref t) >>= _) _ _ s
 refine wpAny_bind (tupleItemsOf_ ht ?_)
 refine wpAny_bind (wpAny_typeOf hTs ?_)
 rw [if_pos (by decide)]
 refine wpAny_bind (dS hs pl pu ?_)
 have hyes:((((sIx items.size 0 lo:Nat):Int) == 0 && (1:Int) == 1 && (sIx items.size items.size hi - sIx items.size 0 lo) == items.size)=true):=by
  rw [h1,h2];simp
 show wpAny _ _ (if (((sIx items.size 0 lo:Nat):Int) == 0 && (1:Int) == 1 && (sIx items.size items.size hi - sIx items.size 0 lo) == items.size)=true then _ else _) _ _ s
 rw [if_pos hyes]
 refine wpAny_bind ?_
 unfold Builtin.Tuple.tupleIsExact
 refine wpAny_bind (wpAny_typeOf ht.typeIs ?_)
 refine wpAny_pure ?_
 rw [if_pos (by decide)]
 exact wpAny_bind (wpAny_rule (wpAny_pure ⟨_,rfl,wpAny_pure h⟩))
end
def BW (K:Fg):V->Option Int->Option Int->Hp->VK->Prop:=fun x lo hi H Q=>∃ a xs,x=.ref a/\aV K H a xs/\HT.sIx xs.length 0 lo=0/\HT.sIx xs.length xs.length hi=xs.length/\Q (.ref a) H
theorem vJ {X:Cx}:rD X (BW X.K):=by
 intro pins s σ H x v vl vu lo hi sl Q I rx hs pl pu h
 obtain⟨a,xs,rfl,hx,h1,h2,q⟩:=h
 cases rx
 obtain⟨its,r,ht,hz⟩:=I.tuple hx
 have hlen:its.toArray.size=xs.length:=by rw [List.size_toArray];exact r.length.symm
 refine⟨"tuple", _,PyProof.Rows.slot_tuple_getitem.lookup,ht.typeIs,?_⟩
 exact lJ ht hs pl pu (by rw [hlen];exact h1) (by rw [hlen];exact h2) ⟨.ref a,H,I,rfl,q⟩
theorem vK {X:Cx}:rD X (fun x lo hi H Q=>BW X.K x lo hi H Q∨BX X.K x lo hi H Q):=rD.or vJ yU
end B
namespace B
theorem AI {a b c d:Int} (hb:0 < b) (hd:0 < d) (e:a * d=c * b):eJ a b=eJ c d:=by
 have hr:=kN (a:=c) hd
 have hc:=jM (a:=c) hd
 generalize eJ c d=m at hr hc ⊢
 refine eS hb hr.pos hr.cop ?_
 refine Int.eq_of_mul_eq_mul_right (show d≠0 by omega) ?_
 have e1:m.1 * b * d=m.1 * d * b:=by ac_rfl
 have e2:a * m.2 * d=a * d * m.2:=by ac_rfl
 rw [e1,hc,e2,e]
 ac_rfl
structure Bq (D N:Nat) (r:R):Prop where
 pos:0 < r.2
 cop:Int.gcd r.1 r.2=1
 dvd:r.2∣(D:Int)
 le:r.1.natAbs≤N * r.2.natAbs
theorem Bq.red {D N:Nat} {r:R} (h:Bq D N r):lC r:=⟨h.pos,h.cop⟩
theorem m3 {D N:Nat} {a b:Int} (hb:0 < b) (hd:b∣(D:Int)) (hl:a.natAbs≤N * b.natAbs):Bq D N (eJ a b):=by
 obtain⟨g,x,y,e0,gp,e1,e2,c⟩:=fm (a:=a) hb
 have yp:=iN hb gp e2
 have e:eJ a b=(x,y):=by
  unfold eJ
  rw [e0,show a / g=x by rw [e1];exact Int.mul_ediv_cancel_left _ (by omega),show b / g=y by rw [e2];exact Int.mul_ediv_cancel_left _ (by omega)]
 rw [e]
 refine⟨yp,c,Int.dvd_trans ⟨g,by rw [e2,Int.mul_comm]⟩ hd,?_⟩
 rw [e1,e2,Int.natAbs_mul,Int.natAbs_mul] at hl
 have gn:0 < g.natAbs:=by omega
 refine Nat.le_of_mul_le_mul_left (c:=g.natAbs) ?_ gn
 show g.natAbs * x.natAbs≤g.natAbs * (N * y.natAbs)
 rw [Nat.mul_left_comm]
 exact hl
theorem Bq.mono {D N D' N':Nat} {r:R} (h:Bq D N r) (hd:D∣D') (hn:N≤N'):Bq D' N' r:=
 ⟨h.pos,h.cop,Int.dvd_trans h.dvd (Int.ofNat_dvd.mpr hd),Nat.le_trans h.le (Nat.mul_le_mul_right _ hn)⟩
theorem Bq.plus {D N M:Nat} {r q:R} (hD:0 < D) (h:Bq D N r) (k:Bq D M q):Bq D (N+M) (ci r q):=by
 obtain⟨y,ey⟩:=h.dvd
 obtain⟨v,ev⟩:=k.dvd
 have dp:(0:Int) < (D:Int):=by omega
 have e:ci r q=eJ (r.1 * y+q.1 * v) (D:Int):=by
  unfold ci
  refine AI (Int.mul_pos h.pos k.pos) dp ?_
  rw [Int.add_mul,Int.add_mul]
  have a1:r.1 * q.2 * (D:Int)=r.1 * y * (r.2 * q.2):=by rw [ey];ac_rfl
  have a2:q.1 * r.2 * (D:Int)=q.1 * v * (r.2 * q.2):=by rw [ev];ac_rfl
  rw [a1,a2]
 rw [e]
 refine m3 dp (Int.dvd_refl _) ?_
 have b1:(r.1 * y).natAbs≤N * D:=by
  have:(D:Int).natAbs=r.2.natAbs * y.natAbs:=by rw [ey,Int.natAbs_mul]
  rw [Int.natAbs_mul]
  have z:=Nat.mul_le_mul_right y.natAbs h.le
  rw [Nat.mul_assoc,← this] at z
  simpa using z
 have b2:(q.1 * v).natAbs≤M * D:=by
  have:(D:Int).natAbs=q.2.natAbs * v.natAbs:=by rw [ev,Int.natAbs_mul]
  rw [Int.natAbs_mul]
  have z:=Nat.mul_le_mul_right v.natAbs k.le
  rw [Nat.mul_assoc,← this] at z
  simpa using z
 have b3:=Int.natAbs_add_le (r.1 * y) (q.1 * v)
 have b4:(D:Int).natAbs=D:=Int.natAbs_natCast D
 rw [b4,Nat.add_mul]
 omega
theorem Bq.times {D N E M:Nat} {r q:R} (h:Bq D N r) (k:Bq E M q):Bq (D * E) (N * M) (bG r q):=by
 refine m3 (Int.mul_pos h.pos k.pos) ?_ ?_
 ·rw [Int.natCast_mul];exact Int.mul_dvd_mul h.dvd k.dvd
 ·rw [Int.natAbs_mul,Int.natAbs_mul]
  have z:=Nat.mul_le_mul h.le k.le
  calc r.1.natAbs * q.1.natAbs≤N * r.2.natAbs * (M * q.2.natAbs):=z
   _=N * M * (r.2.natAbs * q.2.natAbs):=by ac_rfl
theorem kO {a b:Int} (ha:0 < a) (hb:0 < b):0 < (eJ a b).1:=Int.ediv_pos_of_pos_of_dvd ha (Int.le_of_lt (bL hb)) (Int.gcd_dvd_left a b)
theorem Bq.bot {D N:Nat} {r:R} (hD:0 < D) (h:Bq D N r):r.2.natAbs≤D:=by
 have:=Int.natAbs_dvd_natAbs.mpr h.dvd
 rw [Int.natAbs_natCast] at this
 exact Nat.le_of_dvd hD this
theorem Bq.wf {D N n:Nat} {r:R} (h:Bq D N r) (hD:0 < D) (h1:D < 2 ^ n) (h2:N * D < 2 ^ n):Wf n r:=
 ⟨h.pos,Nat.lt_of_le_of_lt (Nat.le_trans h.le (Nat.mul_le_mul_left _ (h.bot hD))) h2,Nat.lt_of_le_of_lt (h.bot hD) h1,h.cop⟩
end B
namespace B
open PySem PySem.Spec L2 PyProof.Rows
inductive Rl where
 | pow (k:Int)
 | tab (rows:List (R×R))
def nN:R×R:=((0,1),(0,1))
def yT (lo hi:R×R):R:=ur (kP hi.2 lo.2) (kP hi.1 lo.1)
def Dv (rows:List (R×R)) (k:Nat):R:=yT (rows.getD k nN) (rows.getD (k+1) nN)
def Cu (rows:List (R×R)) (s:R):Nat:=rows.countP fun r=>gY r.1 s
def Cl (rows:List (R×R)) (s:R):Nat:=rows.countP fun r=>!gY s r.1
def CK (rows:List (R×R)) (s:R):R:=if Cu rows s=0 then (0,1) else Dv rows (Cu rows s - 1)
def zu (rows:List (R×R)) (s:R):Option R:=if Cl rows s < rows.length then some (Dv rows (Cl rows s - 1)) else none
def Co (k:Int) (s:R):R:=bG (k,1) (zR s (k - 1).toNat)
def Dw:Rl->R->R×Option R
 | .pow k,s=>(Co k s,some (Co k s))
 | .tab rows,s=>(CK rows s,zu rows s)
def Gn (rows:List (R×R)):Prop:=rows.Pairwise fun a b=>gY a.1 b.1=true
def Gu (rows:List (R×R)):Prop:=∀ r∈rows,0 < r.1.2
abbrev D0:Nat:=5822723907000000000
abbrev N0:Nat:=1000000007
abbrev N1:Nat:=17179869184
abbrev NR:Nat:=11000000077
abbrev N2:Nat:=1180591620717411303424
structure A9 (rows:List (R×R)):Prop where
 n2:2≤rows.length
 n12:rows.length≤12
 inc:Gn rows
 zero:∃ y,rows[0]?=some ((0,1),y)
 sp:∀ r∈rows,Bq D0 NR r.1
 pw:∀ r∈rows,Bq (D0 * D0) N2 r.2
def Ge:Rl->Prop
 | .pow k=>2≤k/\k≤4
 | .tab rows=>A9 rows
structure Gb (s:R):Prop where
 bq:Bq (D0 * 2) N1 s
 nn:0≤s.1
def Fv:Rl->R->Prop
 | .pow _,_=>True
 | .tab rows,s=>∃ r,rows[rows.length - 1]?=some r/\gY r.1 s=false
def GF (rows:List (R×R)) (s:R) (i:Nat):R:=if 0 < Cu rows s/\Cu rows s - 1 < i then Dv rows (Cu rows s - 1) else (0,1)
def GE (rows:List (R×R)) (s:R) (i:Nat):Option R:=if 0 < Cl rows s/\Cl rows s - 1 < i then some (Dv rows (Cl rows s - 1)) else none
def Fc (k:Int) (s:R) (j:Nat):R:=eJ (k * s.1 ^ j) (s.2 ^ j)
def Fl (l:R) (r:Option R) (g:R):Bool:=!gY g l && (match r with | none=>true | some x=>!gY x g)
end B
namespace B
def val (r:R):Rat:=(r.1:Rat) / (r.2:Rat)
theorem fg {b:Int} (h:0 < b):(b:Rat)≠0:=fun z=>by
 have:b=0:=Rat.intCast_inj.mp (by rw [z];rfl)
 omega
theorem yG {r:R} {a b:Int} (hr:0 < r.2) (hb:(b:Rat)≠0) (h:r.1 * b=a * r.2):val r=(a:Rat) / (b:Rat):=by
 have h2:(r.1:Rat) * (b:Rat)=(a:Rat) * (r.2:Rat):=by rw [← Rat.intCast_mul,← Rat.intCast_mul,h]
 have h1:=fg hr
 unfold val
 generalize (r.1:Rat)=x at *
 generalize (r.2:Rat)=y at *
 generalize (a:Rat)=u at *
 generalize (b:Rat)=v at *
 grind
theorem rL {a b:Int} (hb:0 < b):val (eJ a b)=(a:Rat) / (b:Rat):=yG (kN hb).pos (fg hb) (jM hb)
theorem lF {r q:R} (hr:0 < r.2) (hq:0 < q.2):val (ci r q)=val r+val q:=by
 unfold ci
 rw [rL (Int.mul_pos hr hq)]
 have h1:=fg hr
 have h2:=fg hq
 unfold val
 rw [Rat.intCast_add,Rat.intCast_mul,Rat.intCast_mul,Rat.intCast_mul]
 generalize (r.1:Rat)=x at *
 generalize (r.2:Rat)=y at *
 generalize (q.1:Rat)=u at *
 generalize (q.2:Rat)=v at *
 grind
theorem vy {r q:R} (hr:lC r) (hq:lC q) (h:val r=val q):r=q:=by
 have h1:=fg hr.pos
 have h2:=fg hq.pos
 have e:r.1 * q.2=q.1 * r.2:=by
  refine Rat.intCast_inj.mp ?_
  rw [Rat.intCast_mul,Rat.intCast_mul]
  unfold val at h
  generalize (r.1:Rat)=x at *
  generalize (r.2:Rat)=y at *
  generalize (q.1:Rat)=u at *
  generalize (q.2:Rat)=v at *
  grind
 have e1:eJ r.1 r.2=(r.1,r.2):=eS hr.pos hr.pos hr.cop rfl
 have e2:eJ r.1 r.2=(q.1,q.2):=eS hr.pos hq.pos hq.cop e.symm
 exact e1.symm.trans e2
end B
namespace B
def GB (rows:List (R×R)) (i:Nat):Rat:=(val (rows.getD (i+1) nN).2 - val (rows.getD i nN).2) / (val (rows.getD (i+1) nN).1 - val (rows.getD i nN).1)
section
variable {s p:Nat->Rat} {n:Nat}
def sl (s p:Nat->Rat) (i:Nat):Rat:=(p (i+1) - p i) / (s (i+1) - s i)
end
end B
namespace B
open PySem PySem.Spec L2 PyProof.Rows
structure QE (X:Cx) (e:Expr) (t:TE):Prop where
 p:PE X e t
structure QT (X:Cx) (e:Expr) (t:TT):Prop where
 p:PT X e t
structure QW (X:Cx) (e:Expr) (t:TT):Prop where
 p:PW X e t
structure QA (X:Cx) (es:List Expr) (t:TA):Prop where
 p:PA X es t
structure QS (X:Cx) (st:Stmt) (t:TS):Prop where
 p:PS X st t
structure cM (X:Cx) (st:List Stmt) (t:TS):Prop where
 p:lD X st t
structure QI (X:Cx) (tg iter:Expr) (wi:TI):Prop where
 p:PI X tg iter wi
structure QG (X:Cx) (target:Expr) (t:TG):Prop where
 p:PG X target t
structure Dc (X:Cx) (ts:List Expr) (t:rl):Prop where
 p:Bo X ts t
theorem cM.ok {X:Cx} {b:List Stmt} {t:TS} {D:fN} {σ:L2.St} {H:Hp} (h:cM X b t) (r:t D σ H):∃ t:TS,lD X b t/\t D σ H:=⟨t,h.p,r⟩
structure QO (X:Cx) (o:Option Expr) (t:L2.TO):Prop where
 p:PO X o t
section
set_option autoImplicit true
set_option relaxedAutoImplicit true
theorem qv  (i:Nat) {x:Str} {pos:Pos} (hN:X.N[i]?=some x:=by rfl) (hv:DG X.env.scope x:=by first | exact Or.inl rfl | exact Or.inr (Or.inl rfl) | exact Or.inr (Or.inr rfl)) (hd:(x == ("__debug__" : Str))=false:=by decide) (hcd:(x == ("__classdict__" : Str))=false:=by decide):QE X (.Name x pos) (yN i):=⟨pv i hN hv hd hcd⟩
theorem ah  {i j pos}:QE X (.Constant (.int i) j pos) (tC (.int i)):=⟨uf ⟩
theorem di  {b j pos}:QE X (.Constant (.bool b) j pos) (tC (.bl b)):=⟨Cs ⟩
theorem kD  {j pos}:QE X (.Constant .none j pos) (tC .non):=⟨Ac ⟩
theorem dh  {x j pos}:QE X (.Constant (.str x) j pos) (tC (.str x)):=⟨zZ ⟩
theorem fb  {x:Str} {v:V} {u:Value} {pos:Pos} (hg:Gl X x) (hm:X.mg x=some u) (r:aU v u) (hd:(x == ("__debug__" : Str))=false:=by decide):QE X (.Name x pos) (tC v):=⟨wy hg hm r hd⟩
theorem ck  {x:Str} {v:V} {u:Value} {pos:Pos} (hg:Gl X x) (hm:X.mg x=none) (hv:bootBuiltins x=some u) (r:aU v u) (hn:x ≠ "__name__" := by decide) (hd:(x == ("__debug__" : Str))=false:=by decide):QE X (.Name x pos) (tC v):=⟨wD hg hm hv r hn hd⟩
theorem gR  {op:UnaryOp} {r:V->Hp->VK->Prop} (ho:DH X (unaryOp op) r) (ha:QE X a ta):QE X (.UnaryOp op a pos) (EM r ta):=⟨yl ho ha.p⟩
theorem tJ  (ha:QE X a ta):QE X (.UnaryOp .Not a pos) (xR ta):=⟨Ab ha.p⟩
theorem aB  {op:Operator} {r:R2} (ho:dN X (binaryOp op) r) (ha:QE X a ta) (hb:QE X b tb):QE X (.BinOp a op b pos) (vC r ta tb):=⟨Cq ho ha.p hb.p⟩
theorem eh  {op} {t:TE} (h:QE X a t):QE X (.BoolOp op [a] pos) t:=⟨Aa h.p⟩
theorem dj {bT:List Expr} (ha:QE X a ta) (hb:QE X (.BoolOp .And (b :: bT) pos) tb):QE X (.BoolOp .And (a :: b :: bT) pos) (xX ta tb):=⟨Af ha.p hb.p⟩
theorem dC  {op:CmpOp} {r:R2} (ho:dN X (compareOp op) r) (ha:QE X a ta) (hb:QE X b tb) (hm:behindInMarks op b=false):QE X (.Compare a [op] [b] pos) (vC r ta tb):=⟨wB ho ha.p hb.p hm⟩
theorem l7  {op op':CmpOp} {r r':R2} (ho:dN X (compareOp op) r) (ho':dN X (compareOp op') r') (ha:QE X a ta) (hb:QE X b tb) (hc:QE X c tc) (hm:lastMarks [op,op'] [b,c]=false:=by with_unfolding_all rfl):QE X (.Compare a [op,op'] [b,c] pos) (kg r r' ta tb tc):=⟨ui ho ho' ha.p hb.p hc.p hm⟩
theorem bH  (h:QA X es t):QE X (.List es pos) (BG t):=⟨Ae h.p⟩
theorem aP  {x1} (h:QA X es t):QE X (.Tuple es x1 pos) (Bz t):=⟨zY h.p⟩
theorem bU {lo hi:Option Expr} {r:V->Option Int->Option Int->Hp->VK->Prop} (hr:rD X r) (he:QE X e te) (hl:QO X lo tl) (hu:QO X hi th):QE X (.Subscript e (.Slice lo hi none p2) pos) (EO r te tl th):=⟨ud hr he.p hl.p hu.p⟩
theorem cA   : QO X none oI:=⟨wc ⟩
theorem cz  (h:QE X e te):QO X (some e) (xQ te):=⟨v9 h.p⟩
theorem bP  {r:R2} (hr:Br X r) (ha:QE X a ta) (hb:QE X b tb) (hs:lA b):QE X (.Subscript a b pos) (vC r ta tb):=⟨Cr hr ha.p hb.p hs⟩
theorem c6  (F:bh X.prog X.w X.K X.mg X.base CX k f fd ps sp) (hr:cc k X.A) (hg:Gl X x) (hm:X.mg x=some (.ref f)) (hk:PySem.W.keepIn X.K (.ref f)=true) (hb:aS X.K fd ps ds) (hd:aT dvs ds) (hx:jo CX X E) (ha:QA X (e :: es) t) (hdb:(x == ("__debug__" : Str))=false:=by decide) (he:starEach (e :: es) X.env=(false,eval e X.env) :: starEach es X.env:=by rfl) (hpl:(backTo pos (starEach es X.env)).any (·.1)=false:=by rfl):QE X (.Call (.Name x p) (e :: es) [] pos) (rW sp dvs E t):=⟨wC F hr hg hm hk hb hd hx ha.p hdb he hpl⟩
theorem ar {id:String} (hc:b8 X (.builtin id) r) (hg:Gl X x) (hm:X.mg x=none) (hv:bootBuiltins x=some (.builtin id)) (ha:QA X (e :: es) t) (hn:x ≠ "__name__" := by decide) (hdb:(x == ("__debug__" : Str))=false:=by decide) (he:starEach (e :: es) X.env=(false,eval e X.env) :: starEach es X.env:=by rfl) (hpl:(backTo pos (starEach es X.env)).any (·.1)=false:=by rfl):QE X (.Call (.Name x p) (e :: es) [] pos) (Dr r t):=⟨uj hc hg hm hv ha.p hn hdb he hpl⟩
theorem bJ  (hc:b8 X (.type T) r) (hg:Gl X x) (hm:X.mg x=none) (hv:bootBuiltins x=some (.type T)) (ha:QA X (e :: es) t) (hn:x ≠ "__name__" := by decide) (hdb:(x == ("__debug__" : Str))=false:=by decide) (he:starEach (e :: es) X.env=(false,eval e X.env) :: starEach es X.env:=by rfl) (hpl:(backTo pos (starEach es X.env)).any (·.1)=false:=by rfl):QE X (.Call (.Name x p) (e :: es) [] pos) (Dr r t):=⟨qm hc hg hm hv ha.p hn hdb he hpl⟩
theorem l9 {id:String} (pa:PlainAttrs T) (slot:Slot T name id) (hty:typeOf (.builtin id)=pure (.type "method_descriptor")) (hm:Dg X id r) (ho:QE X o to) (ha:QA X (e :: es) t) (hbase:attributeBase o name X.env (eval o X.env)=eval o X.env:=by rfl) (hfew:((backTo cpos (starEach (e :: es) X.env)).all (fun x=>!x.1) && (backToKw cpos (keywordEach [] X.env)).all (fun x=>x.1.isSome)
   && decide ((e :: es).length+([]:List Keyword).length+(if ([]:List Keyword).isEmpty then 0 else 1) < 30))=true:=by rfl) (hline:(apos.endLine == cpos.line)=true:=by rfl) (hs:starEach (e :: es) X.env=(false,eval e X.env) :: starEach es X.env:=by rfl) (hplain:(backTo cpos (starEach es X.env)).any (·.1)=false:=by rfl):QE X (.Call (.Attribute o name apos) (e :: es) [] cpos) (D9 X.K T r to t):=⟨ym pa slot hty hm ho.p ha.p hbase hfew hline hs hplain⟩
theorem ag   : QA X [] BF:=⟨Aj ⟩
theorem ad  (ha:QE X e te) (hr:QA X es t) (hs:starEach (e :: es) X.env=(false,eval e X.env) :: starEach es X.env:=by rfl):QA X (e :: es) (xW te t):=⟨wH ha.p hr.p hs⟩
theorem aE  {op:CmpOp} {r:R2} (ho:dN X (compareOp op) r) (ha:QE X a ta) (hb:QE X b tb) (hm:behindInMarks op b=false):QT X (.Compare a [op] [b] pos) (oG (vC r ta tb)):=⟨vZ ho ha.p hb.p hm⟩
theorem tD  {op op':CmpOp} {r r':R2} (ho:dN X (compareOp op) r) (ho':dN X (compareOp op') r') (ha:QE X a ta) (hb:QE X b tb) (hc:QE X c tc) (hm:lastMarks [op,op'] [b,c]=false:=by with_unfolding_all rfl):QT X (.Compare a [op,op'] [b,c] pos) (oG (kg r r' ta tb tc)):=⟨tN ho ho' ha.p hb.p hc.p hm⟩
theorem cf  {e:Expr} {t:TE} (h:QE X e t) (he:∀ whole,isTrue e X.env whole=(do let v ← whole;standAt e.pos;holding [v] (truthy v)):=by intro _;rfl):QT X e (tB t):=⟨zK h.p he⟩
theorem cF  (ha:QT X a tA):QT X (.UnaryOp .Not a pos) (BE tA):=⟨zL ha.p⟩
theorem kB {bT:List Expr} (ha:QT X a tA) (hb:QW X (.BoolOp .And (b :: bT) pos) tB'):QW X (.BoolOp .And (a :: b :: bT) pos) (BJ tA tB'):=⟨zI ha.p hb.p⟩
theorem kA  (ha:QT X a tA):QW X (.BoolOp .And [a] pos) tA:=⟨vW ha.p⟩
theorem dA {bT:List Expr} (ha:QT X a tA) (hb:QW X (.BoolOp .Or (b :: bT) pos) tB'):QW X (.BoolOp .Or (a :: b :: bT) pos) (ET tA tB'):=⟨Cm ha.p hb.p⟩
theorem fH  (ha:QT X a tA):QW X (.BoolOp .Or [a] pos) tA:=⟨zH ha.p⟩
theorem fx  {X:Cx} {e:Expr} {t:TT} (h:QW X e t):QT X e t:=⟨PW.pt h.p⟩
theorem zx  {i:Nat} {x:Str} {e:Expr} {te:TE} {pos':Pos} (hN:X.N.Nodup) (hi:X.N[i]?=some x) (hx:xM X.env.scope x) (he:QE X e te) (hs:swapsWith e (some (.Name x pos')) pos.line X.env=pure false:=by rfl) (hf:X.fn x=true∨X.env.scope.names.lookup x=some .local:=by first | exact .inl rfl | exact .inr rfl | assumption):QS X (.Assign [.Name x pos'] e pos) (nw te (i4 i)):=⟨zM hN hi hx he.p hs hf⟩
theorem zy  {i j:Nat} {x y:Str} {a b:Expr} {ta:TA} {px py pt:Pos} {kt k2 pt2} (hc:X.calm=true) (hN:X.N.Nodup) (hi:X.N[i]?=some x) (hj:X.N[j]?=some y) (hij:i≠j) (hx:X.env.scope.names.lookup x=some .local) (hy:X.env.scope.names.lookup y=some .local) (ha:QA X [a,b] ta) (hw:swappedStores [.Tuple [.Name x px,.Name y py] kt pt] (.Tuple [a,b] k2 pt2) X.env=pure (some [x,y])) (hs:swapsWithSole [.Tuple [.Name x px,.Name y py] kt pt] (.Tuple [a,b] k2 pt2) pos.line X.env=pure false:=by rfl):QS X (.Assign [.Tuple [.Name x px,.Name y py] kt pt] (.Tuple [a,b] k2 pt2) pos) (BD i j ta):=⟨zO hc hN hi hj hij hx hy ha.p hw hs⟩
theorem fJ  {tg e:Expr} {te:TE} {g:TG} (he:QE X e te) (hg:QG X tg g) (hs:swapsWithSole [tg] e pos.line X.env=pure false:=by rfl) (hw:swappedStores [tg] e X.env=pure none:=by rfl) (h1:(assignEach [tg] X.env).map (·.2)=[assign tg X.env]:=by rfl):QS X (.Assign [tg] e pos) (nw te g):=⟨zQ he.p hg.p hs hw h1⟩
theorem be  {c:Expr} {a b:List Stmt} {tc:TT} (hc:QT X c tc) (ha:cM X a t) (hb:cM X b u):QS X (.If c a b pos) (BH tc t u):=⟨Cn hc.p ha.p hb.p⟩
theorem iL  {c:Expr} {body:List Stmt} {tc:TT} {tb:TS} (hp:PassesOwn (model X.prog X.w) X.A X.env X.xe) (hc:QT X c tc) (hb:cM X body tb):QS X (.While c body [] pos) (rQ tc tb):=⟨tP hp hc.p hb.p⟩
theorem bX  {iter:Expr} {body:List Stmt} {wi:TI} {g:TG} {tb:TS} {pos:Pos} (hp:PassesOwn (model X.prog X.w) X.A X.env X.xe) (hc:X.calm=true) (hi:QI X tg iter wi) (hg:QG X tg g) (hb:cM X body tb) (hs:∀ x,foldedSetIterable iter X.env x=pure x:=by intro _;rfl):QS X (.For tg iter body [] pos) (BI wi g tb):=⟨zP hp hc hi.p hg.p hb.p hs⟩
theorem aD  (he:QE X e te):QS X (.Return (some e) pos) (BC te):=⟨zN he.p⟩
theorem fY  (he:QE X e te) (hs:swapsWith e none pos.line X.env=pure false:=by rfl):QS X (.Expr e pos) (xU te):=⟨v6 he.p hs⟩
theorem iM {st:Stmt}  : QS X st rS:=⟨tR ⟩
theorem aO   : cM X [] xS:=⟨v3 ⟩
theorem am {st:Stmt} (h1:QS X st t):cM X [st] t:=⟨v0 h1.p⟩
theorem tE {st:Stmt} {bT:List Stmt} (h1:QS X st t) (h2:cM X bT u):cM X (st :: bT) (yO t u):=⟨tO h1.p h2.p⟩
theorem bK  {a:Expr} {ta:TA} {p pos:Pos} (hg:Gl X "range") (hm:X.mg "range" = none) (ha:QA X [a] ta) (hs:starEach [a] X.env=[(false,eval a X.env)]:=by rfl):QI X tg (.Call (.Name "range" p) [a] [] pos) (yq ta):=⟨ql hg hm ha.p hs⟩
theorem qg  {a b:Expr} {ta:TA} {p pos:Pos} (hg:Gl X "range") (hm:X.mg "range" = none) (ha:QA X [a,b] ta) (hs:starEach [a,b] X.env=[(false,eval a X.env),(false,eval b X.env)]:=by rfl) (hs2:starEach [b] X.env=[(false,eval b X.env)]:=by rfl):QI X tg (.Call (.Name "range" p) [a,b] [] pos) (yo ta):=⟨qk hg hm ha.p hs hs2⟩
theorem dB {tg:Expr} {l:Expr} {tl:TE} (hl:QE X l tl):QI X tg l (yr X.K tl):=⟨wj hl.p⟩
theorem dH  {l:Expr} {tl:TE} (hl:QE X l tl):QI X tg l (wZ X.K tl):=⟨t0 hl.p⟩
theorem ay  {i:Nat} {x:Str} (hN:X.N.Nodup) (hi:X.N[i]?=some x) (hx:xM X.env.scope x) (hf:X.fn x=true∨X.env.scope.names.lookup x=some .local:=by first | exact .inl rfl | exact .inr rfl | assumption):QG X (.Name x pos) (i4 i):=⟨wx hN hi hx hf⟩
theorem ef  {es:List Expr} {k:Nat} {t:rl} {n:Nat} (hc:X.calm=true) (h:Dc X es t) (hn:(assignEach es X.env).length=n:=by rfl) (hst:(assignEach es X.env).findIdx? (·.1)=none:=by rfl):QG X (.Tuple es k pos) (xg X.K n t):=⟨uc hc h.p hn hst⟩
theorem kC  {o i:Expr} {to ti:TE} {t:vh} (ho:QE X o to) (hi:QE X i ti) (hs:Ba X t) (ha:∀ v,assign (.Subscript o i pos) X.env v=(do
   let ov ← holding [v] (eval o X.env)
   let iv ← holding [v,ov] (eval i X.env)
   standAt pos
   holding [v,ov,iv] (setItem ov iv v)
   release [v,ov,iv] []):=by intro _;rfl):QG X (.Subscript o i pos) (CW to ti t):=⟨zW ho.p hi.p hs ha⟩
theorem bZ   : Dc X [] CY:=⟨wo ⟩
theorem aR  {e:Expr} {es:List Expr} {t:TG} {u:rl} (h1:QG X e t) (h2:Dc X es u) (hs:(assignEach (e :: es) X.env).map (·.2)=assign e X.env :: (assignEach es X.env).map (·.2):=by rfl):Dc X (e :: es) (yu t u):=⟨ub h1.p h2.p hs⟩
end
structure DK (X:Cx) (ifs:List Expr) (t:TT):Prop where
 p:Bn X ifs t
section
set_option autoImplicit true
set_option relaxedAutoImplicit true
theorem bQ  {X:Cx}:DK X [] By:=⟨vY ⟩
theorem d9  {X:Cx} {c:Expr} {t:TT} (h:QT X c t):DK X [c] t:=⟨vX h.p⟩
theorem bC  (hc:X.calm=true) (hi:QI X tg iter wi) (hg:∀ C fp pins s H,QG (ix X N' scope cl C fp pins s H) tg g) (ht:∀ C fp pins s H,DK (ix X N' scope cl C fp pins s H) ifs tt) (he:∀ C fp pins s H,QE (ix X N' scope cl C fp pins s H) elt te) (hfree:cq X scope cl N' src) (hclos:closureFor scope X.env=pure cl) (hcell:∀ x∈scope.names,x.2≠.cell) (hkind:scope.kind=.function) (hnames:∀ x∈scope.names,x.2=.local->scope.names.lookup x.1=some .local) (hcl:dF X scope cl) (hs:∀ x,foldedSetIterable iter X.env x=pure x:=by intro _;rfl):QE X (.ListComp elt [⟨tg,iter,ifs,0⟩] scope pos) (lK wi src g tt te):=⟨ue hc hi.p (fun z0 z1 z2 z3 z4=>(hg z0 z1 z2 z3 z4).p) (fun z0 z1 z2 z3 z4=>(ht z0 z1 z2 z3 z4).p) (fun z0 z1 z2 z3 z4=>(he z0 z1 z2 z3 z4).p) hfree hclos hcell hkind hnames hcl hs⟩
theorem ee  {i:Nat} {x:Str} {pos' pos2:Pos} (hN:X.N.Nodup) (hi':X.N[i]?=some x) (hx:xM X.env.scope x) (hc:X.calm=true) (hi:QI X tg iter wi) (hg:∀ C fp pins s H,QG (ix X N' scope cl C fp pins s H) tg g) (ht:∀ C fp pins s H,DK (ix X N' scope cl C fp pins s H) ifs tt) (he:∀ C fp pins s H,QE (ix X N' scope cl C fp pins s H) elt te) (hfree:cq X scope cl N' src) (hclos:closureFor scope X.env=pure cl) (hcell:∀ x∈scope.names,x.2≠.cell) (hkind:scope.kind=.function) (hnames:∀ x∈scope.names,x.2=.local->scope.names.lookup x.1=some .local) (hcl:dF X scope cl) (hs:∀ x,foldedSetIterable iter X.env x=pure x:=by intro _;rfl) (hsw:swapsWith (.ListComp elt [⟨tg,iter,ifs,0⟩] scope pos) (some (.Name x pos')) pos2.line X.env=pure true:=by rfl) (hf:X.fn x=true∨X.env.scope.names.lookup x=some .local:=by first | exact .inl rfl | exact .inr rfl | assumption):QS X (.Assign [.Name x pos'] (.ListComp elt [⟨tg,iter,ifs,0⟩] scope pos) pos2) (nw (lK wi src g tt te) (i4 i)):=⟨v4 hN hi' hx hc hi.p (fun z0 z1 z2 z3 z4=>(hg z0 z1 z2 z3 z4).p) (fun z0 z1 z2 z3 z4=>(ht z0 z1 z2 z3 z4).p) (fun z0 z1 z2 z3 z4=>(he z0 z1 z2 z3 z4).p) hfree hclos hcell hkind hnames hcl hs hsw hf⟩
end
section
variable {X:Cx} {K:Fg}
theorem ww {es:List Expr} {k:Nat} {t:rl} {n:Nat} {pos:Pos} (hK:X.K=K) (hc:X.calm=true) (h:Bo X es t)
  (hn:(assignEach es X.env).length=n:=by rfl) (hst:(assignEach es X.env).findIdx? (·.1)=none:=by rfl):PG X (.Tuple es k pos) (xg K n t):=hK ▸ uc hc h hn hst
theorem wg {l tg:Expr} {tl:TE} (hK:X.K=K) (hl:PE X l tl):PI X tg l (wZ K tl):=hK ▸ t0 hl
theorem bj (hK:X.K=K):Br X (zw K):=hK ▸ av
def Ee (K:Fg):List V->Hp->VK->Prop:=fun xs H Q=>∃ p ys,xs=[.ref p]/\(aQ K H p ys∨aV K H p ys)/\Q (.int ys.length) H
theorem qY (hK:X.K=K):b8 X (.builtin "len") (Ee K):=hK ▸ aC
end
theorem aJ {a b:Expr} {op:Operator} {pos:Pos} {es:List Expr} {env:Env}:starEach (.BinOp a op b pos :: es) env=(false,eval (.BinOp a op b pos) env) :: starEach es env:=rfl
end B
namespace B
open PySem
section
variable {es:List Expr} {env:Env}
theorem aZ {a b c}:starEach (.Tuple a b c :: es) env=(false,eval (.Tuple a b c) env) :: starEach es env:=rfl
theorem sd {a b}:starEach (.List a b :: es) env=(false,eval (.List a b) env) :: starEach es env:=rfl
theorem aG {a b c}:starEach (.Subscript a b c :: es) env=(false,eval (.Subscript a b c) env) :: starEach es env:=rfl
theorem ax {a b c d}:starEach (.Call a b c d :: es) env=(false,eval (.Call a b c d) env) :: starEach es env:=rfl
theorem af {a b}:starEach (.Name a b :: es) env=(false,eval (.Name a b) env) :: starEach es env:=rfl
theorem aq {a b c}:starEach (.Constant a b c :: es) env=(false,eval (.Constant a b c) env) :: starEach es env:=rfl
theorem im {a b c}:starEach (.UnaryOp a b c :: es) env=(false,eval (.UnaryOp a b c) env) :: starEach es env:=rfl
theorem se {a b c d}:starEach (.Compare a b c d :: es) env=(false,eval (.Compare a b c d) env) :: starEach es env:=rfl
theorem lM {a b c}:starEach (.Attribute a b c :: es) env=(false,eval (.Attribute a b c) env) :: starEach es env:=rfl
theorem cN {a b c d}:starEach (.ListComp a b c d :: es) env=(false,eval (.ListComp a b c d) env) :: starEach es env:=rfl
end
end B
namespace B
open PySem L2 PyProof.Rows
inductive cv {α:Type} (P:V->α->Prop):List V->List α->Prop where
 | nil:cv P [] []
 | cons {x:V} {d:α} {xs:List V} {ds:List α} (h:P x d) (t:cv P xs ds):cv P (x :: xs) (d :: ds)
theorem cv.len {α:Type} {P:V->α->Prop}:∀ {xs:List V} {ds:List α},cv P xs ds->xs.length=ds.length
 | _,_,.nil=>rfl
 | _,_,.cons _ t=>congrArg (·+1) t.len
theorem cv.mono {α:Type} {P P':V->α->Prop} (m:∀ v d,P v d->P' v d):∀ {xs:List V} {ds:List α},cv P xs ds->cv P' xs ds
 | _,_,.nil=>.nil
 | _,_,.cons h t=>.cons (m _ _ h) (t.mono m)
theorem cv.snoc {α:Type} {P:V->α->Prop} {x:V} {d:α} (k:P x d):∀ {xs:List V} {ds:List α},cv P xs ds->cv P (xs++[x]) (ds++[d])
 | _,_,.nil=>.cons k .nil
 | _,_,.cons h t=>.cons h (t.snoc k)
theorem cv.at {α:Type} {P:V->α->Prop}:∀ {xs:List V} {ds:List α},cv P xs ds->∀ {i:Nat} {x:V},xs[i]?=some x->∃ d,ds[i]?=some d/\P x d
 | _,_,.cons h _,0,x,e=>by
  rw [List.getElem?_cons_zero] at e
  cases e
  exact⟨_,rfl,h⟩
 | _,_,.cons _ t,i+1,x,e=>t.at (i:=i) (by rw [List.getElem?_cons_succ] at e;exact e)
 | _,_,.nil,_,_,e=>by cases e
theorem cv.deep {α:Type} {K:Fg} {H:Hp} {P:V->α->Prop} {f:α->PyData} (m:∀ v d,P v d->aW K H v (f d)):∀ {xs:List V} {ds:List α},cv P xs ds->aH K H xs (ds.map f)
 | _,_,.nil=>.nil
 | _,_,.cons h t=>.cons (m _ _ h) (t.deep m)
end B
namespace B
open PySem PySem.Spec L2 PyProof.Rows
section
set_option autoImplicit true
set_option relaxedAutoImplicit true
theorem zF  {X:Cx} {tg l:Expr} {tl:TE} (hl:QE X l tl):QI X tg l (CM X.K tl):=⟨zV hl.p⟩
theorem fZ {K:Fg} {es:List Expr} {k:Nat} {t:rl} {n:Nat} {pos:Pos} (hK:X.K=K) (hc:X.calm=true) (h:Dc X es t) (hn:(assignEach es X.env).length=n:=by rfl) (hst:(assignEach es X.env).findIdx? (·.1)=none:=by rfl):QG X (.Tuple es k pos) (xg K n t):=⟨ww hK hc h.p hn hst⟩
theorem vV {K:Fg} {l tg:Expr} {tl:TE} (hK:X.K=K) (hl:QE X l tl):QI X tg l (wZ K tl):=⟨wg hK hl.p⟩
end
def Ei (K:Fg):R2:=fun x y H Q=>∃ d d',aW K H x d/\aW K H y d'/\d.canLay0=true/\d'.canLay0=true/\d.depth≤32/\Q (.bl (PyData.eqv d d')) H
theorem uu {X:Cx} {k:Nat} (hr:cc k X.A):dN X (compareOp .Eq) (Ei X.K):=by
 intro pins s σ H x y v u Q I rx ry h
 obtain⟨d,d',hd,hd',c,c',dp,q⟩:=h
 obtain⟨as,ra⟩:=aW.reads I hd rx
 obtain⟨bs,rb⟩:=aW.reads I hd' ry
 exact SeqAt.compareEq_reads ra rb c c' (by have:=hr.units;omega) ⟨.bl _,H,I,rfl,q⟩
theorem pj {r q:R}:PyData.eqv (dR r) (dR q)=decide (r=q):=by
 by_cases h:r=q
 ·rw [decide_eq_true h,h];exact uV q
 ·rw [decide_eq_false h]
  cases c:PyData.eqv (dR r) (dR q) with
  | false=>rfl
  | true=>exact absurd (AU c) h
def Cf (K:Fg):List V->Hp->VK->Prop:=fun xs H Q=>∃ a ys n b,xs=[.ref a,.ty n]/\aV K H a ys/\f6 "tuple" n=some b/\Q (.bl b) H
theorem qZ {X:Cx}:b8 X (.builtin "isinstance") (Cf X.K):=by
 intro pins s σ H xs us Q I r h
 obtain⟨a,ys,n,b,rfl,hS,e,q⟩:=h
 obtain⟨u,u2,rfl,rx,ry⟩:=jD r
 obtain rfl:u2=Value.type n:=ry
 cases (show u=Value.ref a from rx)
 obtain⟨its,_,⟨o,h1,h2,_⟩,_⟩:=I.tuple hS
 exact PySem.W.kia_one PySem.W.kitx_tuple I.kIn ⟨o,h1,h2⟩ (oi e) (fun z=>nomatch z) fun tk=>⟨.bl b,H,I.tok tk,rfl,q⟩
section
set_option autoImplicit true
set_option relaxedAutoImplicit true
theorem oN  {X:Cx} {e:Expr} {f:Str} {pos:Pos} {ta:TE} {K:Fg} (hK:X.K=K) (he:QE X e ta) (hb:attributeBase e f X.env (eval e X.env)=eval e X.env):QE X (.Attribute e f pos) (xT K ta f):=⟨wz hK he.p hb⟩
theorem oM  (hex:X.ex=[]) (ha:QE X o ta) (hv:QE X value tv) (hs:swapsWith value (some (.Attribute o f pos')) pos.line X.env=pure false):QS X (.Assign [.Attribute o f pos'] value pos) (yd X.K ta tv f):=⟨v5 hex ha.p hv.p hs⟩
theorem eZ  {x:Str} {p cpos pos:Pos} {e:Expr} {es:List Expr} {t:TA} {E:XK} (M:XC X.K C f bm) (hbase:bm.contains (.type "BaseException")=true) (hex:X.ex=[]) (tk:oy X E) (F:bh X.prog X.w X.K X.mg X.base cZ k f fd ps sp) (hr:cc (k+1) X.A) (hb:aS X.K fd ps []) (hg:Gl X x) (hm:X.mg x=some (.ref C)) (ha:QA X (e :: es) t) (hdb:(x == ("__debug__" : Str))=false:=by decide) (he:starEach (e :: es) X.env=(false,eval e X.env) :: starEach es X.env:=by rfl) (hpl:(backTo cpos (starEach es X.env)).any (·.1)=false:=by rfl):QS X (.Raise (some (.Call (.Name x p) (e :: es) [] cpos)) none pos) (oH C sp E t):=⟨qi M hbase hex tk F hr hb hg hm ha.p hdb he hpl⟩
theorem tF {R:RX} {suite:List Stmt} {i:Nat} {n:Str} (hex:X.ex=[]) (hst:X.stack=X.env :: X.outer) (hfr:X.env.frame=some X.env.locals) (hg:Gl X x) (hm:X.mg x=some u) (hN:X.N.Nodup) (hi:X.N[i]?=some n) (hn:X.env.scope.names.lookup n=some .local) (hb:∀ pins,cM (fL X pins R) body tb) (hs:∀ e,cM (jQ X e) (b₀ :: suite) th) (hd:(x == ("__debug__" : Str))=false:=by decide):QS X (.Try body [.ExceptHandler (some (.Name x p)) (some n) (b₀ :: suite) hpos] [] [] pos) (rR X.N i R (fun C=>PySem.W.exmOne X.K (.ref C) u=some true) tb th):=⟨tQ hex hst hfr hg hm hN hi hn (fun z0=>(hb z0).p) (fun z0=>(hs z0).p) hd⟩
end
end B
namespace L2
open PySem PySem.Spec PyProof.Rows
section
variable {κ:Type} [DecidableEq κ]
def fQ (kvs:List (κ×V)) (k:κ):Option V:=(kvs.find? fun kv=>decide (kv.1=k)).map (·.2)
def cX (kvs:List (κ×V)) (k:κ) (v:V):List (κ×V):=
 if (kvs.any fun kv=>decide (kv.1=k))=true then kvs.map (fun kv=>if kv.1=k then (kv.1,v) else kv) else kvs++[(k,v)]
def Fk (kvs:List (κ×V)) (k:κ):List (κ×V):=kvs.filter fun kv=>decide (kv.1≠k)
theorem dg {p:κ×V} {r:List (κ×V)} {k:κ} (e:p.1=k):fQ (p :: r) k=some p.2:=by simp [fQ,List.find?_cons,e]
theorem cQ {p:κ×V} {r:List (κ×V)} {k:κ} (e:¬ p.1=k):fQ (p :: r) k=fQ r k:=by simp [fQ,List.find?_cons,e]
theorem lH (k:κ):∀ kvs:List (κ×V),(kvs.any fun kv=>decide (kv.1=k))=(fQ kvs k).isSome
 | []=>rfl
 | p :: r=>by
  rw [List.any_cons]
  by_cases e:p.1=k
  ·simp only [dg e,decide_eq_true e,Bool.true_or,Option.isSome_some]
  ·rw [cQ e,decide_eq_false e,Bool.false_or];exact lH k r
theorem eT (kvs:List (κ×V)) (k:κ) (v:V):(cX kvs k v).length≤kvs.length+1:=by
 unfold cX
 split
 ·rw [List.length_map];omega
 ·rw [List.length_append,List.length_cons,List.length_nil];omega
theorem eF.isSome_eq {o:Option V} {u:Option Value} (r:eF o u):o.isSome=u.isSome:=by
 cases o with
 | none=>cases u with
  | none=>rfl
  | some _=>exact (show False from r).elim
 | some _=>cases u with
  | none=>exact (show False from r).elim
  | some _=>rfl
theorem eF.getD {o:Option V} {u:Option Value} {d:V} {d':Value} (r:eF o u) (rd:aU d d'):aU (o.getD d) (u.getD d'):=by
 cases o with
 | none=>cases u with
  | none=>exact rd
  | some _=>exact (show False from r).elim
 | some _=>cases u with
  | none=>exact (show False from r).elim
  | some _=>exact r
theorem KV.val {kvs:List (κ×V)} {vs:List (κ×Value)} (r:KV kvs vs) (k:κ):eF (fQ kvs k) (valueAt vs k):=by
 unfold KV at r
 induction r with
 | nil=>exact True.intro
 | @cons p q ps qs h t ih=>
  obtain⟨h1,h2⟩:=h
  by_cases e:p.1=k
  ·have e':q.1=k:=h1.symm.trans e
   have b:valueAt (q :: qs) k=some q.2:=by simp [valueAt,List.find?_cons,e']
   rw [dg e,b];exact h2
  ·have e':¬ q.1=k:=fun z=>e (h1.trans z)
   have b:valueAt (q :: qs) k=valueAt qs k:=by simp [valueAt,List.find?_cons,e']
   rw [cQ e,b];exact ih
theorem KV.any {kvs:List (κ×V)} {vs:List (κ×Value)} (r:KV kvs vs) (k:κ):(kvs.any fun kv=>decide (kv.1=k))=vs.any fun kv=>decide (kv.1=k):=by
 unfold KV at r
 induction r with
 | nil=>rfl
 | cons h t ih=>rw [List.any_cons,List.any_cons,ih,h.1]
theorem KV.repl {kvs:List (κ×V)} {vs:List (κ×Value)} (r:KV kvs vs) (k:κ) {y:V} {u:Value} (ry:aU y u) :
  KV (kvs.map fun kv=>if kv.1=k then (kv.1,y) else kv) (vs.map fun kv=>if kv.1=k then (kv.1,u) else kv):=by
 unfold KV at r ⊢
 induction r with
 | nil=>exact .nil
 | @cons p q ps qs h t ih=>
  rw [List.map_cons,List.map_cons]
  refine .cons ?_ ih
  obtain⟨h1,h2⟩:=h
  by_cases e:p.1=k
  ·rw [if_pos e,if_pos (h1.symm.trans e)];exact⟨h1,ry⟩
  ·rw [if_neg e,if_neg (fun z=>e (h1.trans z))];exact⟨h1,h2⟩
theorem KV.put {kvs:List (κ×V)} {vs:List (κ×Value)} (r:KV kvs vs) (k:κ) {y:V} {u:Value} (ry:aU y u):KV (cX kvs k y) (stored vs k u):=by
 unfold cX stored
 rw [r.any k]
 by_cases e:(vs.any fun kv=>decide (kv.1=k))=true
 ·rw [if_pos e,if_pos e];exact r.repl k ry
 ·rw [if_neg e,if_neg e];exact Paired.snoc r ⟨rfl,ry⟩
theorem KV.length {kvs:List (κ×V)} {vs:List (κ×Value)} (r:KV kvs vs):kvs.length=vs.length:=Paired.length r
end
theorem o6 {P:Program} {w:World} {k:bS} {u:Value} (r:aU (kV k) u):(bi P w).is k u=true:=by
 cases k with
 | inl i=>obtain⟨t,e⟩:=(show ∃ t,u=Value.int i t from r);subst e;exact mw P w i t
 | inr x=>obtain⟨t,e⟩:=(show ∃ t,u=Value.str x t from r);subst e;exact mv P w x t
theorem jO {P:Program} {w:World}:∀ {ks:List bS} {us:List Value},aT (ks.map kV) us->ItemsAre (bi P w) ks us
 | [],_,r=>by rw [List.map_nil] at r;cases r;exact .nil
 | k :: ks,_,r=>by
  rw [List.map_cons] at r
  cases r with
  | cons h t=>exact .cons (o6 h) (jO t)
abbrev KT (H:Hp):List (List bS×V)->List (List bS×Addr×Value)->Prop:=Paired fun p q=>p.1=q.1/\H q.2.1=some (.tup (p.1.map kV))/\aU p.2 q.2.2
theorem KT.val {H:Hp} {kvs:List (List bS×V)} {xs:List (List bS×Addr×Value)} (r:KT H kvs xs) (k:List bS):eF (fQ kvs k) ((atKey xs k).map (·.2)):=by
 induction r with
 | nil=>exact True.intro
 | @cons p q ps qs h t ih=>
  obtain⟨h1,_,h2⟩:=h
  by_cases e:p.1=k
  ·have e':q.1=k:=h1.symm.trans e
   have b:atKey (q :: qs) k=some q.2:=by simp [atKey,List.find?_cons,e']
   rw [dg e,b];exact h2
  ·have e':¬ q.1=k:=fun z=>e (h1.trans z)
   have b:atKey (q :: qs) k=atKey qs k:=by simp [atKey,List.find?_cons,e']
   rw [cQ e,b];exact ih
theorem KT.repl {H:Hp} {kvs:List (List bS×V)} {xs:List (List bS×Addr×Value)} (r:KT H kvs xs) (k:List bS) {y:V} {u:Value} (ry:aU y u) :
  KT H (kvs.map fun kv=>if kv.1=k then (kv.1,y) else kv) (xs.map (putAt k u)):=by
 induction r with
 | nil=>exact .nil
 | @cons p q ps qs h t ih=>
  rw [List.map_cons,List.map_cons]
  refine .cons ?_ ih
  obtain⟨h1,h2,h3⟩:=h
  unfold putAt
  by_cases e:p.1=k
  ·rw [if_pos e,if_pos (h1.symm.trans e)];exact⟨h1,h2,ry⟩
  ·rw [if_neg e,if_neg (fun z=>e (h1.trans z))];exact⟨h1,h2,h3⟩
theorem KT.put {H:Hp} {kvs:List (List bS×V)} {xs:List (List bS×Addr×Value)} (r:KT H kvs xs) (k:List bS) {b:Addr} {y:V} {u:Value} (hb:H b=some (.tup (k.map kV))) (ry:aU y u) :
  KT H (cX kvs k y) (storedH xs k b u):=by
 have e:(kvs.any fun kv=>decide (kv.1=k))=(atKey xs k).isSome:=by
  rw [lH,(r.val k).isSome_eq,Option.isSome_map]
 unfold cX storedH
 rw [e]
 by_cases q:(atKey xs k).isSome=true
 ·rw [if_pos q,if_pos q];exact r.repl k ry
 ·rw [if_neg q,if_neg q];exact Paired.snoc r ⟨rfl,hb,ry⟩
theorem KT.keeps {H H':Hp} {kvs:List (List bS×V)} {xs:List (List bS×Addr×Value)} (r:KT H kvs xs) (ht:∀ b ys,H b=some (.tup ys)->H' b=some (.tup ys)):KT H' kvs xs:=
 Paired.mapP r fun _ _ z=>⟨z.1,ht _ _ z.2.1,z.2.2⟩
section
variable {P:Program} {w:World} {H:Hp} {h:Heap} {a:Addr}
theorem yf {u:HO} (ok:fA P w H h) (e:Rd H a u):ObjOk P w H h a u:=e.ok ok
theorem u0 {kvs:List (bS×V)} (ok:fA P w H h) (e:Rd H a (.dK kvs)):kvs.length≤sizeLine/\(a == sysModules)=false/\∃ vs,KV kvs vs/\h.DictOf (bi P w) a vs:=
 show ObjOk P w H h a (.dK kvs) from yf ok e
theorem u3 {kvs:List (bS×V)} (ok:fA P w H h) (e:H a=some (.dK kvs)):kvs.length≤sizeLine/\(a == sysModules)=false/\∃ vs,KV kvs vs/\h.DictOf (bi P w) a vs:=u0 ok (.inl e)
theorem oj {ks:List bS} (ok:fA P w H h) (e:H a=some (.tup (ks.map kV))):(tupleKind (bi P w)).is h ks a:=by
 obtain⟨_,its,r,o,h1,h2,n,h3⟩:=(show ObjOk P w H h a (.tup (ks.map kV)) from ok a _ e)
 exact⟨o,its.toArray,n,h1,h2,h3,by simpa using jO r⟩
theorem uY {kvs:List (List bS×V)} (ok:fA P w H h) (e:Rd H a (.dT kvs)):kvs.length≤sizeLine/\(a == sysModules)=false∧
  ∃ xs,KT H kvs xs/\h.DictOfH (tupleKind (bi P w)) a xs:=by
 obtain⟨z,y,xs,r,o,es,ep,h1,h2,h3,h4,h5⟩:=(show ObjOk P w H h a (.dT kvs) from yf ok e)
 refine⟨z,y,xs,r,o,es,ep,h1,h2,h3,h4,fun x hx=>?_,h5⟩
 have all:∀ {l:List (List bS×V)} {m:List (List bS×Addr×Value)},KT H l m->∀ x∈m,(tupleKind (bi P w)).is h x.1 x.2.1:=by
  intro l m q
  induction q with
  | nil=>intro x hx;exact nomatch hx
  | @cons p q ps qs hq t ih=>
   intro x hx
   rcases List.mem_cons.mp hx with e | hx
   ·subst e
    exact oj ok (by rw [← hq.1];exact hq.2.1)
   ·exact ih x hx
 exact all r x hx
theorem C3 {kvs:List (List bS×V)} (ok:fA P w H h) (e:H a=some (.dT kvs)):kvs.length≤sizeLine/\(a == sysModules)=false∧
  ∃ xs,KT H kvs xs/\h.DictOfH (tupleKind (bi P w)) a xs:=uY ok (.inl e)
end
def jq (H:Hp) (a:Addr) (y:V) (r:Option V):Prop:=
 (∃ kvs k,Rd H a (.dK kvs)/\y=kV k/\r=fQ kvs k)∨∃ kvs k b,Rd H a (.dT kvs)/\y=.ref b/\H b=some (.tup (k.map kV))/\r=fQ kvs k
def rq (H:Hp) (a:Addr) (y v:V) (H':Hp):Prop:=
 (∃ kvs k,H a=some (.dK kvs)/\y=kV k/\kvs.length < sizeLine/\H'=upd H a (.dK (cX kvs k v)))∨
 ∃ kvs k b,H a=some (.dT kvs)/\y=.ref b/\H b=some (.tup (k.map kV))/\kvs.length < sizeLine/\H'=upd H a (.dT (cX kvs k v))
theorem jq.k {H:Hp} {a:Addr} {kvs:List (bS×V)} {k:bS} (e:H a=some (.dK kvs)):jq H a (kV k) (fQ kvs k):=.inl ⟨kvs,k,.inl e,rfl,rfl⟩
theorem rq.k {H:Hp} {a:Addr} {kvs:List (bS×V)} {k:bS} {v:V} (e:H a=some (.dK kvs)) (hl:kvs.length < sizeLine):rq H a (kV k) v (upd H a (.dK (cX kvs k v))):=.inl ⟨kvs,k,e,rfl,hl,rfl⟩
section
variable {X:Cx} {pins:bo} {σ:St} {H:Hp} {s:Shared} {a:Addr} {y v:V} {u r:Value} {o:Option V} {A:Around} {E:bu}
theorem Inv.big (I:Inv X pins σ H s):sysModules < s.heap.objs.size:=by
 have h:mainGlobals < s.heap.objs.size:=(I.mod.glob.keeps I.bk).lt
 exact Nat.lt_trans (by decide) h
theorem iw {h':Heap} {t':Nat} {ob:HO} (I:Inv X pins σ H s) (mu:Df (H a)) (hs:Heap.SameBut a s.heap h') (he:∃ q,h'.get? a=some q) (new:ObjOk X.prog X.w (upd H a ob) h' a ob) :
  Inv X pins σ (upd H a ob) { s with heap:=h',toks:=t' }:=
 I.write (x:=a) (e:=a) mu (.inl rfl) (fun b q hb z=>(hs.2 b hb).trans z) he new
theorem u4 {P:Program} {w:World} {H':Hp} {h':Heap} {kvs:List (bS×V)} {vs:List (bS×Value)} (z:kvs.length≤sizeLine) (hd:(a == sysModules)=false) (rel:KV kvs vs) (dd:h'.DictOf (bi P w) a vs) :
  ObjOk P w H' h' a (.dK kvs):=⟨z,hd,vs,rel,dd⟩
theorem qR {H':Hp} {Q:Unit->Shared->Prop} (hu:A.units+1 < cLine) (I:Inv X pins σ H s) (g:rq H a y v H') (ry:aU y u) (rv:aU v r) (h:∀ s',Inv X pins σ H' s'->Q () s') :
  wpAny (model X.prog X.w) A (setItem (.ref a) u r) Q E s:=by
 rcases g with ⟨kvs,k,e,ey,l,eH⟩ | ⟨kvs,k,b,e,ey,eb,l,eH⟩
 ·subst ey eH
  obtain⟨z,hd,vs,rel,dd⟩:=u3 I.hok e
  have hz:vs.length≤sizeLine:=by rw [← rel.length];exact z
  have hl:(cX kvs k v).length≤sizeLine:=by have:=eT kvs k v;omega
  refine wpAny_setItem_pairs (hsz:=hz) (o6 ry) dd fun h' dd' hs=>h _ ?_
  have he:∃ q,h'.get? a=some q:=let ⟨q,_,_,hq,_⟩:=dd';⟨q,hq⟩
  exact iw I (by rw [e];exact True.intro) hs he (u4 hl hd (rel.put k rv) dd')
 ·subst ey eH
  cases (show u=Value.ref b from ry)
  obtain⟨z,hd,xs,rel,dd⟩:=C3 I.hok e
  have hz:xs.length≤sizeLine:=by rw [← Paired.length rel];exact z
  have hl:(cX kvs k v).length≤sizeLine:=by have:=eT kvs k v;omega
  refine wpAny_setItem_heap (hsz:=hz) (tupleKind_room_in1 hu) (oj I.hok eb) dd fun h' dd' hs=>h _ ?_
  obtain⟨q,es,ep,hq,h2,h3,h4,_,h5⟩:=dd'
  refine iw I (by rw [e];exact True.intro) hs ⟨q,hq⟩ ⟨hl,hd,_,(rel.put k eb rv).keeps fun c ys ec=>?_,q,es,ep,hq,h2,h3,h4,h5⟩
  rw [aw (CJ ec e (fun z=>nomatch z))]
  exact ec
end
section
variable {X:Cx} {pins:bo} {σ:St} {H:Hp} {s:Shared} {a:Addr} {kvs:List (bS×V)} {k:bS} {u:Value} {A:Around} {E:bu}
end
def Gh (i:Expr):Prop:=∀ ov iv,subscripted i false ov iv=operate [ov,iv] (getItem ov iv)
def EX (td ty:TE):TE:=fun σ H Q=>td σ H fun x H1=>ty σ H1 fun y H2=>∃ a v,x=.ref a/\jq H2 a y (some v)/\Q v H2
def FL (ty td:TE):TE:=fun σ H Q=>ty σ H fun y H1=>td σ H1 fun x H2=>∃ a o,x=.ref a/\jq H2 a y o/\Q (.bl o.isSome) H2
def Dp (ty td:TE):TE:=fun σ H Q=>ty σ H fun y H1=>td σ H1 fun x H2=>∃ a o,x=.ref a/\jq H2 a y o/\Q (.bl (!o.isSome)) H2
def ye (td ty tv:TE):TS:=fun D σ H=>tv σ H fun v H1=>td σ H1 fun x H2=>ty σ H2 fun y H3=>∃ a H4,x=.ref a/\rq H3 a y v H4/\D.nx σ H4
def E5 (td ty tv:TE) (rd:V->V->Hp->VK->Prop):TS:=fun D σ H=>td σ H fun x H1=>ty σ H1 fun y H2=>∃ a v,x=.ref a/\jq H2 a y (some v)∧
 tv σ H2 fun y2 H3=>rd v y2 H3 fun z H4=>∃ H5,rq H4 a y z H5/\D.nx σ H5
section
variable {X:Cx} {o i e value:Expr} {pos pos' tpos:Pos} {td ty tv:TE}
theorem v7 (hu:X.A.units+1 < cLine) (ho:PE X o td) (hi:PE X i ty) (hv:PE X value tv) (hs:swapsWith value (some (.Subscript o i pos')) pos.line X.env=pure false) :
  PS X (.Assign [.Subscript o i pos'] value pos) (ye td ty tv):=by
 intro pins s σ H D I h
 refine wpAny_Assign_Subscript (bF (hv pins s σ H _ I h) fun r s1 ⟨v,H1,I1,rv,q1⟩=>bF (ho pins s1 σ H1 _ I1 q1) fun u s2 ⟨x,H2,I2,rx,q2⟩=>bF (hi pins s2 σ H2 _ I2 q2) fun iv s3 ⟨y,H3,I3,ry,a,H4,ex,g,q3⟩=>?_) hs
 subst ex
 obtain rfl:u=Value.ref a:=rx
 exact qR hu I3 g ry rv fun s4 I4=>⟨σ,H4,I4,q3⟩
end
theorem mR {P:Program} {w:World} {H:Hp} (h:Heap) (hb:sysModules < h.objs.size):ObjOk P w H (h.push { cls:=.type "dict", data:=.dict #[] }) h.objs.size (.dK []):=
 ⟨Nat.zero_le _,beq_eq_false_iff_ne.mpr (Ne.symm (Nat.ne_of_lt hb)),[],.nil,Heap.DictOf.new h⟩
def rT:TE:=fun _ H Q=>∀ p,H p=none->Q (.ref p) (upd H p (.dK []))
section
variable {X:Cx} {pos:Pos}
theorem ug:PE X (.Dict [] [] pos) rT:=fun pins s σ H Q I h=>
 wpAny_Dict_empty ⟨.ref s.heap.objs.size,_,I.laid (a:=s.heap.objs.size) (o:=.dK []) (t':=s.toks) (fun _ _ q=>Heap.get?_push_of_some _ q) (Nat.le_refl _) (mR s.heap I.big),rfl,h _ (I.hok.fresh (Nat.le_refl _))⟩
end
def nv:List (TE×TE)->St->Hp->(List (V×V)->Hp->Prop)->Prop
 | [],_,H,Q=>Q [] H
 | (tk,tv) :: r,σ,H,Q=>tk σ H fun x H1=>tv σ H1 fun y H2=>nv r σ H2 fun ps H3=>Q ((x,y) :: ps) H3
abbrev VV:List (V×V)->List (Value×Value)->Prop:=Paired fun p q=>aU p.1 q.1/\aU p.2 q.2
def DM (X:Cx) (pos:Pos) (keys:List (Option Expr)) (values:List Expr) (trs:List (TE×TE)):Prop:=
 ∀ (pins:bo) (s:Shared) (σ:St) (H:Hp) (Q:List (V×V)->Hp->Prop),Inv X pins σ H s->nv trs σ H Q→
  wpAny (model X.prog X.w) X.A (evalPairs (pairTrees keys values X.env pos)) (fun vs s'=>∃ ps H',Inv X pins σ H' s'/\VV ps vs/\Q ps H') X.xe s
theorem v8 {X:Cx} {pos:Pos}:DM X pos [] [] []:=fun pins s σ H Q I h=>pairTrees_nil_walk ⟨[],H,I,.nil,h⟩
theorem md {X:Cx} {pos:Pos} {k v:Expr} {ks:List (Option Expr)} {vs:List Expr} {tk tv:TE} {trs:List (TE×TE)} (hk:PE X k tk) (hv:PE X v tv) (hr:DM X pos ks vs trs) :
  DM X pos (some k :: ks) (v :: vs) ((tk,tv) :: trs):=fun pins s σ H Q I h=>
 pairTrees_cons_walk (bF (hk pins s σ H _ I h) fun u s1 ⟨x,H1,I1,rx,q1⟩=>bF (hv pins s1 σ H1 _ I1 q1) fun w2 s2 ⟨y,H2,I2,ry,q2⟩=>
  bF (hr pins s2 σ H2 _ I2 q2) fun ws s3 ⟨ps,H3,I3,rel,q3⟩=>⟨(x,y) :: ps,H3,I3,.cons ⟨rx,ry⟩ rel,q3⟩)
def dm (kvs more:List (bS×V)):List (bS×V):=more.foldl (fun acc kv=>cX acc kv.1 kv.2) kvs
theorem KV.merge:∀ {more:List (bS×V)} {rs:List (bS×Value)} {kvs:List (bS×V)} {vs:List (bS×Value)},KV more rs->KV kvs vs->KV (dm kvs more) (merged vs rs):=by
 intro more rs kvs vs r
 unfold KV at r
 induction r generalizing kvs vs with
 | nil=>intro q;exact q
 | @cons p q ps qs h t ih=>
  intro r0
  have e:KV (cX kvs p.1 p.2) (stored vs q.1 q.2):=by
   have:=r0.put p.1 h.2
   rw [← h.1];exact this
  exact ih e
theorem fy:∀ (more kvs:List (bS×V)),(dm kvs more).length≤kvs.length+more.length
 | [],kvs=>by show kvs.length≤kvs.length+0;omega
 | p :: r,kvs=>by
  have h1:=fy r (cX kvs p.1 p.2)
  have h2:=eT kvs p.1 p.2
  show (dm (cX kvs p.1 p.2) r).length≤_
  rw [List.length_cons];omega
theorem jd {P:Program} {w:World}:∀ {kvs:List (bS×V)} {ws:List (Value×Value)},VV (kvs.map fun kv=>(kV kv.1,kv.2)) ws->∃ rs,Carries (bi P w) ws rs/\KV kvs rs
 | [],_,r=>by rw [List.map_nil] at r;cases r;exact⟨[],True.intro,.nil⟩
 | p :: kvs,_,r=>by
  rw [List.map_cons] at r
  cases r with
  | @cons a b as bs h t=>
   obtain⟨rs,c,q⟩:=jd (P:=P) (w:=w) t
   obtain⟨b1,b2⟩:=b
   exact⟨(p.1,b2) :: rs,⟨o6 h.1,rfl,c⟩,.cons ⟨rfl,h.2⟩ q⟩
def xV (trs:List (TE×TE)):TE:=fun σ H Q=>∀ p,H p=none->nv trs σ (upd H p (.dK [])) fun ps H2=>H2 p=some (.dK [])/\∃ kvs:List (bS×V),ps=kvs.map (fun kv=>(kV kv.1,kv.2))/\kvs.length≤15/\Q (.ref p) (upd H2 p (.dK (dm [] kvs)))
theorem wA {X:Cx} {pos:Pos} {keys:List (Option Expr)} {values:List Expr} {trs:List (TE×TE)} (h:DM X pos keys values trs) (hall:keys.all (·.isSome)=true) (hl:keys.length=values.length) (h0:keys≠[])
  (h15:keys.length≤15):PE X (.Dict keys values pos) (xV trs):=by
 intro pins s σ H Q I q
 have hn:=I.hok.fresh (Nat.le_refl s.heap.objs.size)
 have I1:=I.laid (a:=s.heap.objs.size) (o:=.dK []) (h':=s.heap.push { cls:=.type "dict", data:=.dict #[] }) (t':=s.toks) (fun _ _ q=>Heap.get?_push_of_some _ q) (Nat.le_refl _) (mR s.heap I.big)
 refine wpAny_Dict_walk (knd:=bi X.prog X.w) hall hl h0 h15 (bF (h pins _ σ _ _ I1 (q _ hn)) fun ws s2 ⟨ps,H2,I2,rel,e,kvs,ep,lk,q2⟩=>?_)
 subst ep
 obtain⟨rs,c,rk⟩:=jd (P:=X.prog) (w:=X.w) rel
 obtain⟨z,hd,vs0,r0,dd⟩:=u3 I2.hok e
 cases r0
 refine⟨rs,c,dd,fun h' dd' hs=>⟨.ref s.heap.objs.size,_,?_,rfl,q2⟩⟩
 have hz:(dm [] kvs).length≤sizeLine:=by
  have h1:=fy kvs []
  rw [List.length_nil] at h1
  rw [sizeLine_eq];omega
 have he:∃ q,h'.get? s.heap.objs.size=some q:=let ⟨q,_,_,hq,_⟩:=dd';⟨q,hq⟩
 exact iw I2 (by rw [e];exact True.intro) hs he (u4 hz hd (rk.merge .nil) dd')
structure M1 (X:Cx) (o:Expr) (m:Str) (apos:Pos) (e:Expr) (cpos:Pos):Prop where
 base:attributeBase o m X.env (eval o X.env)=eval o X.env
 few:((backTo cpos (starEach [e] X.env)).all (fun x=>!x.1) && (backToKw cpos (keywordEach [] X.env)).all (fun x=>x.1.isSome)
  && decide (([e]:List Expr).length+([]:List Keyword).length+(if ([]:List Keyword).isEmpty then 0 else 1) < 30))=true
 line:(apos.endLine == cpos.line)=true
 trees:backTo cpos (starEach [e] X.env)=[(false,eval e X.env)]
structure M2 (X:Cx) (o:Expr) (m:Str) (apos:Pos) (e f:Expr) (cpos:Pos):Prop where
 base:attributeBase o m X.env (eval o X.env)=eval o X.env
 few:((backTo cpos (starEach [e,f] X.env)).all (fun x=>!x.1) && (backToKw cpos (keywordEach [] X.env)).all (fun x=>x.1.isSome)
  && decide (([e,f]:List Expr).length+([]:List Keyword).length+(if ([]:List Keyword).isEmpty then 0 else 1) < 30))=true
 line:(apos.endLine == cpos.line)=true
 trees:backTo cpos (starEach [e,f] X.env)=[(false,eval e X.env),(false,eval f X.env)]
def EB (H:Hp) (a:Addr):Prop:=(∃ kvs,Rd H a (.dK kvs))∨∃ kvs,Rd H a (.dT kvs)
theorem uF {X:Cx} {pins:bo} {σ:St} {H:Hp} {s:Shared} {a:Addr} (I:Inv X pins σ H s) (d:EB H a) :
  s.TypeIs (.ref a) "dict" /\ (∀ b,Value.ref a=.ref b->∃ ob,s.heap.get? b=some ob/\ob.dict=none)/\(a == sysModules)=false:=by
 rcases d with ⟨kvs,e⟩ | ⟨kvs,e⟩
 ·obtain⟨_,hd,vs,_,dd⟩:=u0 I.hok e
  refine⟨dd.typeIs,fun b q=>?_,hd⟩
  cases q
  obtain⟨ob,_,_,h1,h2,_⟩:=dd
  exact⟨ob,h1,h2.2.1⟩
 ·obtain⟨_,hd,xs,_,dd⟩:=uY I.hok e
  refine⟨dd.typeIs,fun b q=>?_,hd⟩
  cases q
  obtain⟨ob,_,_,h1,h2,_⟩:=dd
  exact⟨ob,h1,h2.2.1⟩
section
variable {X:Cx} {pins:bo} {σ:St} {H:Hp} {s:Shared} {a:Addr} {y d:V} {u r:Value} {o:Option V} {A:Around} {E:bu}
theorem AX {Q:bu} (hu:A.units+1 < cLine) (I:Inv X pins σ H s) (g:jq H a y o) (ry:aU y u) (rd:aU d r) (h:∀ w' s',Inv X pins σ H s'->aU (o.getD d) w'->Q w' s') :
  wpAny (model X.prog X.w) A (call (.builtin "dict.get") [.ref a,u,r]) Q E s:=by
 rcases g with ⟨kvs,k,e,ey,l⟩ | ⟨kvs,k,b,e,ey,eb,l⟩
 ·subst ey
  obtain⟨z,hd,vs,rel,dd⟩:=u0 I.hok e
  refine call_meetsIn PySem.F.slot_dict_get dd.typeIs PySem.F.entry_dict_get (PySem.F.args_dict_get_3 _ _ _) (meets_dict_get_default (bi X.prog X.w) a (o6 ry) hd r) ⟨_,dd.mapOf,h _ _ (I.tok _) ?_⟩
  rw [l]
  exact (rel.val k).getD rd
 ·subst ey
  cases (show u=Value.ref b from ry)
  obtain⟨z,hd,xs,rel,dd⟩:=uY I.hok e
  refine call_meetsIn PySem.F.slot_dict_get dd.typeIs PySem.F.entry_dict_get (PySem.F.args_dict_get_3 _ _ _) (meetsH_dict_get_default (tupleKind (bi X.prog X.w)) a b hd r) ⟨tupleKind_room_in1 hu,k,xs,oj I.hok eb,dd,h _ _ (I.tok _) ?_⟩
  rw [l]
  exact (rel.val k).getD rd
end
def D5 (td ty:TE):TE:=fun σ H Q=>td σ H fun x H1=>∃ a,x=.ref a/\EB H1 a/\ty σ H1 fun y H2=>∃ o,jq H2 a y o/\Q (o.getD .non) H2
def rV (td ty tx:TE):TE:=fun σ H Q=>td σ H fun x H1=>∃ a,x=.ref a/\EB H1 a/\ty σ H1 fun y H2=>tx σ H2 fun z H3=>∃ o,jq H3 a y o/\Q (o.getD z) H3
section
variable {X:Cx} {o e f:Expr} {apos cpos:Pos} {td ty tx:TE}
theorem uh (hu:X.A.units+1 < cLine) (ho:PE X o td) (he:PE X e ty) (hf:PE X f tx) (m:M2 X o "get" apos e f cpos):PE X (.Call (.Attribute o "get" apos) [e,f] [] cpos) (rV td ty tx):=by
 intro pins s σ H Q I h
 refine wpAny_Call_method m.base m.few m.line PySem.F.plainAttrs_dict PySem.F.slot_dict_get PySem.F.type_dict_get (bF (ho pins s σ H _ I h) fun u s1 ⟨x,H1,I1,rx,a,ex,d,q1⟩=>?_)
 subst ex
 obtain rfl:u=Value.ref a:=rx
 obtain⟨t1,t2,_⟩:=uF I1 d
 refine⟨t1,t2,?_⟩
 rw [m.trees]
 refine Calls.callWith_builtin rfl (Calls.evalArgs_plain (Calls.spliced_cons (bF (he pins s1 σ H1 _ I1 q1) fun iv s2 ⟨y,H2,I2,ry,q2⟩=>
  Calls.spliced_cons (bF (hf pins s2 σ H2 _ I2 q2) fun fv s3 ⟨z,H3,I3,rz,ov,g,q3⟩=>Calls.spliced_nil ?_))))
 exact AX hu I3 g ry rz fun w' s4 I4 rw'=>⟨_,H3,I4,rw',q3⟩
end
end L2
namespace B
open PySem PySem.Spec L2 PyProof.Rows
theorem de {α β:Type} {K:Fg} {H:Hp} {D a:Addr} {xs:List V} {ds:List α} {P:Hp->V->β->Prop} {f:α->β} {src:List (Option Nat)} {σ:L2.St} {g:TG} {tt:TT} {te:TE} {Q:Hp->Prop}
  (mono:∀ H H' v d,aI K H H'->P H v d->P H' v d) (hD:H D=none) (hS:aV K H a xs) (hl:xs.length=ds.length) (hn:ds.length≤1000)
  (turn:∀ (i:Nat) (x:V) (d:α) (H':Hp),xs[i]?=some x->ds[i]?=some d->aA H H'->∀ (R:VK) (E:Hp->Prop),(∀ v H'',aA H' H''->P H'' v (f d)->R v H'')→
   g x (bw src σ) H' fun σ2 H2=>dz (bw src σ) σ2/\tt σ2 H2 fun ok H3=>if ok=true then te σ2 H3 R else E H3)
  (fin:∀ H' ys,aA H H'->H' D=some (.lst ys)->cv (P H') ys (ds.map f)->Q H') :
  ∃ W:Nat->Nat->List V->Hp->Prop,(∃ m,W 0 m [] (upd H D (.lst [])))/\∀ i m ys H,W i m ys H->((vq K a).stop i H/\Q H)∨((vq K a).go i H/\∀ x H',(vq K a).yld i H x H'→
   g x (bw src σ) H' fun σ2 H2=>dz (bw src σ) σ2/\tt σ2 H2 fun ok H3=>
    if ok=true then te σ2 H3 fun y H4=>H4 D=some (.lst ys)/\ys.length < sizeLine/\∃ m',m' < m/\W (i+1) m' (ys++[y]) (upd H4 D (.lst (ys++[y]))) else ∃ m',m' < m/\W (i+1) m' ys H3):=by
 refine⟨fun i m ys H'=>i≤ds.length/\m=ds.length - i/\H' D=some (.lst ys)/\aA H H'/\cv (P H') ys ((ds.take i).map f),⟨_,Nat.zero_le _,rfl,ai,ak hD _,.nil⟩,?_⟩
 rintro i m ys H1 ⟨hi,rfl,d1,s1,al1⟩
 have hS1:aV K H1 a xs:=aI.same s1 _ _ hS
 by_cases hix:i < ds.length
 ·have hx0:xs[i]?=some (xs[i]'(by omega)):=List.getElem?_eq_getElem _
  refine .inr ⟨⟨xs,_,hS1,hx0⟩,?_⟩
  rintro x H2 ⟨rfl,hy⟩
  have hx:=hy xs hS1
  obtain⟨d,hd⟩:∃ d,ds[i]?=some d:=⟨_,List.getElem?_eq_getElem hix⟩
  refine turn i x d _ hx hd s1 _ _ fun v H3 s3 p3=>?_
  have d3:H3 D=some (.lst ys):=s3 _ _ d1
  have tm:aI K H2 (upd H3 D (.lst (ys++[v]))):=(aI.same s3).trans (aI.up d3 _)
  refine⟨d3,bA (by rw [al1.len,List.length_map,List.length_take];omega),ds.length - (i+1),by omega,hix,rfl,ai,fun b o q=>?_,?_⟩
  ·rw [aw (aM q hD)]
   exact s3 _ _ (s1 _ _ q)
  ·rw [List.take_add_one,hd,List.map_append]
   exact (al1.mono fun v d p=>mono _ _ _ _ tm p).snoc (mono _ _ _ _ (aI.up d3 _) p3)
 ·have e:i=ds.length:=by omega
  subst e
  rw [List.take_length] at al1
  exact .inl ⟨⟨xs,hS1,by omega⟩,fin H1 ys s1 d1 al1⟩
def ii:PyData->String
 | .none => "NoneType"
 | .bool _ => "bool"
 | .int _ => "int"
 | .str _ => "str"
 | .list _ => "list"
 | .tuple _ => "tuple"
 | .dict _ => "dict"
def yi (K:Fg):List V->Hp->VK->Prop:=fun xs H Q=>∃ v d n b,xs=[v,.ty n]/\aW K H v d/\f6 (ii d) n=some b/\Q (.bl b) H
theorem bW {X:Cx}:b8 X (.builtin "isinstance") (yi X.K):=by
 intro pins s σ H xs us Q I r h
 obtain⟨v,d,n,b,rfl,hD,e,q⟩:=h
 cases hD with
 | non=>exact dX pins s σ H _ us Q I r ⟨_,n,_,b,rfl,.non,e,q⟩
 | bl c=>exact dX pins s σ H _ us Q I r ⟨_,n,_,b,rfl,.bl c,e,q⟩
 | int i=>exact dX pins s σ H _ us Q I r ⟨_,n,_,b,rfl,.int i,e,q⟩
 | str x=>exact dX pins s σ H _ us Q I r ⟨_,n,_,b,rfl,.str x,e,q⟩
 | @tup a ys ds hS hA=>exact qZ pins s σ H _ us Q I r ⟨a,ys,n,b,rfl,hS,e,q⟩
 | @lst a ys ds hS hA=>
  obtain⟨u,u2,rfl,rx,ry⟩:=jD r
  obtain rfl:u2=Value.type n:=ry
  cases (show u=Value.ref a from rx)
  obtain⟨its,_,⟨o,k,h1,h2,_⟩,_⟩:=I.list hS
  exact PySem.W.kia_one PySem.W.kitx_list I.kIn ⟨o,h1,h2⟩ (oi e) (fun z=>nomatch z) fun tk=>⟨.bl b,H,I.tok tk,rfl,q⟩
def cV:PyData->Bool
 | .int _=>true
 | _=>false
def fS (n:Nat):PyData->Bool
 | .tuple xs=>decide (xs.length=n)
 | _=>false
def eG:PyData->Bool
 | .tuple [.int a,.int b]=>decide (1≤b) && decide (Int.gcd a b=1)
 | _=>false
def Fd:PyData->Bool
 | .tuple [x,y]=>eG x && eG y
 | _=>false
theorem o8 {K:Fg} {H:Hp} {v:V} {d:PyData} (h:aW K H v d):∃ b c,f6 (ii d) "int" = some b/\f6 (ii d) "bool" = some c/\cV d=(b && !c):=by
 cases h with
 | non=>exact⟨false,false,by simp only [ii];decide +kernel,by simp only [ii];decide +kernel,rfl⟩
 | bl b=>exact⟨true,true,by simp only [ii];decide +kernel,by simp only [ii];decide +kernel,rfl⟩
 | int i=>exact⟨true,false,by simp only [ii];decide +kernel,by simp only [ii];decide +kernel,rfl⟩
 | str x=>exact⟨false,false,by simp only [ii];decide +kernel,by simp only [ii];decide +kernel,rfl⟩
 | lst e t=>exact⟨false,false,by simp only [ii];decide +kernel,by simp only [ii];decide +kernel,rfl⟩
 | tup e t=>exact⟨false,false,by simp only [ii];decide +kernel,by simp only [ii];decide +kernel,rfl⟩
theorem fk {K:Fg} {H:Hp} {v:V} {d:PyData} (h:aW K H v d):(f6 (ii d) "tuple" = some true/\∃ a xs ds,v=.ref a/\d=.tuple ds/\aV K H a xs/\aH K H xs ds)∨(f6 (ii d) "tuple" = some false/\∀ ds,d≠.tuple ds):=by
 cases h with
 | non=>exact .inr ⟨by simp only [ii];decide +kernel,fun _ z=>nomatch z⟩
 | bl b=>exact .inr ⟨by simp only [ii];decide +kernel,fun _ z=>nomatch z⟩
 | int i=>exact .inr ⟨by simp only [ii];decide +kernel,fun _ z=>nomatch z⟩
 | str x=>exact .inr ⟨by simp only [ii];decide +kernel,fun _ z=>nomatch z⟩
 | lst e t=>exact .inr ⟨by simp only [ii];decide +kernel,fun _ z=>nomatch z⟩
 | tup e t=>exact .inl ⟨by simp only [ii];decide +kernel,_,_,_,rfl,rfl,e,t⟩
theorem vA {d:PyData} {n:Nat} (h:∀ ds,d≠.tuple ds):fS n d=false:=by
 cases d <;> first | rfl | exact absurd rfl (h _)
theorem aH.len {K:Fg} {H:Hp}:∀ {xs:List V} {ds:List PyData},aH K H xs ds->xs.length=ds.length
 | _,_,.nil=>rfl
 | _,_,.cons _ t=>congrArg Nat.succ t.len
theorem aW.two {K:Fg} {H:Hp} {v:V} {d:PyData} (h:aW K H v d) (c:fS 2 d=true):∃ a x y dx dy,v=.ref a/\d=.tuple [dx,dy]/\aV K H a [x,y]/\aW K H x dx/\aW K H y dy:=by
 cases h with
 | @tup a xs ds e t=>
  have l:ds.length=2:=of_decide_eq_true c
  cases t with
  | nil=>cases l
  | cons hx t=>cases t with
   | nil=>cases l
   | cons hy t=>cases t with
    | nil=>exact⟨a,_,_,_,_,rfl,rfl,e,hx,hy⟩
    | cons hz t=>simp at l
 | _=>cases c
theorem vQ {d:PyData} (h:fS 2 d=false):eG d=false:=by
 cases c:eG d with
 | false=>rfl
 | true=>
  unfold eG at c
  split at c
  ·cases h
  ·cases c
structure Sh (k n:Nat) (d:PyData):Prop where
 sh:d.showable=true
 nd:d.hasDict=false
 dp:d.depth≤k
 sz:d.shown.length≤n
theorem Sh.mono {k n k' n':Nat} {d:PyData} (h:Sh k n d) (hk:k≤k') (hn:n≤n'):Sh k' n' d:=⟨h.sh,h.nd,Nat.le_trans h.dp hk,Nat.le_trans h.sz hn⟩
theorem Sh.all {k n:Nat}:∀ {ds:List PyData},(∀ d∈ds,Sh k n d)->PyData.showableAll ds=true/\PyData.hasDictAll ds=false/\PyData.depthAll ds≤k/\((PyData.shownAll ds).map (·.length)).sum≤n * ds.length/\(PyData.shownAll ds).length=ds.length
 | [],_=>⟨rfl,rfl,Nat.zero_le _,Nat.zero_le _,rfl⟩
 | d :: ds,h=>by
  obtain⟨a,b,c,e,f⟩:=Sh.all (ds:=ds) fun x hx=>h x (List.mem_cons_of_mem _ hx)
  have z:=h d List.mem_cons_self
  refine⟨?_,?_,?_,?_,?_⟩
  ·show (d.showable && PyData.showableAll ds)=true
   rw [z.sh,a];rfl
  ·show (d.hasDict || PyData.hasDictAll ds)=false
   rw [z.nd,b];rfl
  ·show max d.depth (PyData.depthAll ds)≤k
   exact Nat.max_le.mpr ⟨z.dp,c⟩
  ·show d.shown.length+((PyData.shownAll ds).map (·.length)).sum≤n * (ds.length+1)
   have:=z.sz
   rw [Nat.mul_succ];omega
  ·show (PyData.shownAll ds).length+1=ds.length+1
   rw [f]
theorem Sh.tup {k n m N:Nat} {ds:List PyData} (h:∀ d∈ds,Sh k n d) (hm:ds.length≤m) (hN:(n+3) * m+8≤N):Sh (k+1) N (.tuple ds):=by
 obtain⟨a,b,c,e,f⟩:=Sh.all h
 refine⟨a,b,Nat.succ_le_succ c,?_⟩
 show (tupleText (PyData.shownAll ds)).length≤N
 have q:=tupleText_len_le (PyData.shownAll ds)
 have l:n * ds.length+3 * ds.length≤(n+3) * m:=by
  rw [← Nat.add_mul]
  exact Nat.mul_le_mul_left _ hm
 omega
theorem Sh.shows {k n:Nat} {d:PyData} (h:Sh k n d) (hk:k≤16) (hn:n≤16777216):vk d:=⟨h.sh,h.nd,Nat.le_trans h.sz (Nat.le_trans hn (by decide)),Nat.le_trans h.dp hk⟩
theorem BP {r:R} {n:Nat} (h:Wf n r) (hn:n≤1900):Sh 1 5000 (dR r):=⟨(lY h hn).sh,rfl,(by show max 0 (max 0 0)+1≤1;decide),(lY h hn).sz⟩
mutual
theorem aW.same {K:Fg} {H H':Hp} (s:aA H H'):∀ {v:V} {d:PyData},aW K H v d->aW K H' v d
 | _,_,.non=>.non
 | _,_,.bl b=>.bl b
 | _,_,.int i=>.int i
 | _,_,.str x=>.str x
 | _,_,.lst e t=>.lst (s.seq e) (aH.same s t)
 | _,_,.tup e t=>.tup (aI.same s _ _ e) (aH.same s t)
theorem aH.same {K:Fg} {H H':Hp} (s:aA H H'):∀ {vs:List V} {ds:List PyData},aH K H vs ds->aH K H' vs ds
 | _,_,.nil=>.nil
 | _,_,.cons h t=>.cons (aW.same s h) (aH.same s t)
end
theorem Al {X:Cx}:dN X (compareOp .Is) (fun x y H Q=>∃ b c,x=.bl b/\y=.bl c/\Q (.bl (decide (b=c))) H):=by
 intro pins s σ H x y v u Q I rx ry h
 obtain⟨b,c,rfl,rfl,q⟩:=h
 obtain rfl:v=Value.bool b:=rx
 obtain rfl:u=Value.bool c:=ry
 refine wpAny_is_plain (by cases b <;> cases c <;> rfl) ⟨.bl _,H,I,?_,q⟩
 cases b <;> cases c <;> rfl
end B
namespace B
open PySem PySem.Spec L2 PyProof.Rows
def Cj (K:Fg):R2:=fun x y H Q=>∃ a b xs ys,x=.ref a/\y=.ref b/\aV K H a xs/\aV K H b ys/\xs.length+ys.length≤sizeLine/\∀ p H',aA H H'->aV K H' p (xs++ys)->Q (.ref p) H'
theorem cO {X:Cx}:dN X (binaryOp .Add) (Cj X.K):=by
 intro pins s σ H x y v u Q I rx ry h
 obtain⟨a,b,xs,ys,rfl,rfl,ha,hb,hz,q⟩:=h
 by_cases hx:xs=[]
 ·subst hx
  cases rx
  cases ry
  obtain⟨its,r1,p1,_⟩:=I.tuple ha
  obtain⟨its2,r2,p2,_⟩:=I.tuple hb
  have e0:its=[]:=r1.nil_iff.mpr rfl
  subst e0
  obtain⟨⟨cls,dd,data,sl⟩,ho,hc,n,hd⟩:=id p1
  obtain⟨⟨cls2,dd2,data2,sl2⟩,ho2,hc2,n2,hd2⟩:=id p2
  simp only at hc hd hc2 hd2
  subst hc hd hc2 hd2
  exact concat_meets ⟨_,ho,rfl⟩ ⟨_,ho2,rfl⟩ noFill_tuple_add seq_tuple_add PySem.F.slot_tuple_add PySem.F.entry_tuple_add (PySem.F.args_tuple_add_2 _ _)
   (tuple_addW0 a b _ _ n n2 dd dd2 sl sl2 (by simp)) ⟨ho,ho2,⟨.ref b,H,I,rfl,q b H (aA.refl H) hb⟩⟩
 ·refine wL pins s σ H _ _ v u Q I rx ry ⟨a,b,xs,ys,rfl,rfl,ha,hb,hx,hz,fun e=>?_,fun _ p hp=>?_⟩
  ·subst e
   exact q a H (aA.refl H) (by rw [List.append_nil];exact ha)
  ·exact q p _ (ak hp _) (aV.of ai)
def Eb (K:Fg):V->Option Int->Option Int->Hp->VK->Prop:=fun x lo hi H Q=>∃ a xs,x=.ref a/\aV K H a xs/\∀ p H',aA H H'->aV K H' p (dw xs lo hi)->Q (.ref p) H'
theorem cE {X:Cx}:rD X (Eb X.K):=by
 intro pins s σ H x v vl vu lo hi sl Q I rx hs pl pu h
 obtain⟨a,xs,rfl,hx,q⟩:=h
 refine vK pins s σ H _ v vl vu lo hi sl Q I rx hs pl pu ?_
 by_cases c:HT.sIx xs.length 0 lo=0/\HT.sIx xs.length xs.length hi=xs.length
 ·refine .inl ⟨a,xs,rfl,hx,c.1,c.2,q a H (aA.refl H) ?_⟩
  have e:dw xs lo hi=xs:=by
   unfold dw
   rw [c.1,c.2,List.drop_zero,Nat.sub_zero,List.take_length]
  rw [e]
  exact hx
 ·exact .inr ⟨a,xs,rfl,hx,c,fun p hp=>q p _ (ak hp _) (aV.of ai)⟩
theorem AY {xs:List V} {n:Nat} (h:n≤xs.length):dw xs none (some (n:Int))=xs.take n:=by
 unfold dw
 rw [HT.sIx_nat,HT.sIx_none,Nat.min_eq_left h,Nat.sub_zero,List.drop_zero]
def Ga (K:Fg) (s:Addr):Prop:=∃ ns:List Int,ns.length≤63/\∀ H:Hp,aQ K H s (ns.map V.int)
structure vg (K:Fg) (H:Hp) (t s:Addr):Prop where
 ex:∃ (ns:List Int) (p q:Int),H t=some (.lst [.ref s,.int p,.int q])/\((Rd H s (.lst (ns.map V.int))/\s≠t)∨∀ H',aQ K H' s (ns.map V.int))/\ns.length≤63/\0≤p/\0≤q
def BL (K:Fg):Sp:=fun vs H Q _=>∃ (a:Addr) (ns:List Int),vs=[.ref a]/\aQ K H a (ns.map V.int)/\ns.length≤63/\∀ (t:Addr) (H':Hp),aA H H'->H t=none->vg K H' t a->Q (.ref t) H'
def BN (K:Fg):Sp:=fun vs H Q _=>∃ (t s:Addr) (m:Int),vs=[.ref t,.int m]/\vg K H t s/\0 < m/\m < 1073741824/\∀ (r:Int) (xs:List V),0≤r->r < m->vg K (upd H t (.lst xs)) t s->Q (.int r) (upd H t (.lst xs))
section
set_option autoImplicit true
set_option relaxedAutoImplicit true
theorem io  {X:Cx} {elts:List Expr} {x1} {tp p pos:Pos} {a:Expr} {ta:TA} (hg:Gl X "enumerate") (hm:X.mg "enumerate" = none) (ha:QA X [a] ta) (hs:starEach [a] X.env=[(false,eval a X.env)]:=by rfl):QI X (.Tuple elts x1 tp) (.Call (.Name "enumerate" p) [a] [] pos) (CN X.K ta):=⟨wm hg hm ha.p hs⟩
theorem l3  {X:Cx} {elts:List Expr} {x1} {tp p pos:Pos} {a:Expr} {ta:TA} (hg:Gl X "enumerate") (hm:X.mg "enumerate" = none) (ha:QA X [a] ta) (hs:starEach [a] X.env=[(false,eval a X.env)]:=by rfl):QI X (.Tuple elts x1 tp) (.Call (.Name "enumerate" p) [a] [] pos) (CO X.K ta):=⟨ua hg hm ha.p hs⟩
end
theorem pd:∀ {ns:List Int} {us:List Value},aT (ns.map V.int) us->IntsAre us ns
 | [],_,.nil=>.nil
 | n :: ns,_,.cons r t=>by
  obtain⟨tk,rfl⟩:=(show ∃ t,_=Value.int n t from r)
  exact .cons _ _ (pd t)
theorem qT {X:Cx} (hc:X.calm=true):b8 X (.builtin "sum") (fun xs H Q=>∃ (p:Addr) (ns:List Int),xs=[.ref p]/\aQ X.K H p (ns.map V.int)/\Q (.int ns.sum) H):=by
 intro pins s σ H xs us Q I r h
 obtain⟨p,ns,rfl,hq,q⟩:=h
 obtain⟨u,rfl,rx⟩:=dP r
 cases rx
 obtain⟨its,rv,pl,hz⟩:=I.list hq
 have hi:=pd rv
 obtain⟨zs,ez⟩:=hi.allInts.items
 have hl:=pl.isList
 rw [ez] at hl
 have en:numsOf its=ns:=hi.numsOf
 rw [show its=its.toArray.toList from rfl,ez,nums_intItems] at en
 refine sum_intListG (I.ok.hd hc) hl fun h' tk t' hk=>?_
 rw [preSum_eq,List.take_of_length_le (by simp),en]
 exact⟨.int ns.sum,H,I.kept (t':=tk) hk,⟨_,rfl⟩,q⟩
theorem m4:∀ {bs:List Bool} {us:List Value},aT (bs.map V.bl) us->∀ {i:Nat} {v:Value},us[i]?=some v->v=.bool (bs.getD i true)
 | [],_,.nil,i,v,e=>by cases e
 | b :: bs,_,.cons r t,0,v,e=>by
  rw [List.getElem?_cons_zero] at e
  cases e
  exact (show _=Value.bool b from r)
 | b :: bs,_,.cons r t,i+1,v,e=>by
  rw [List.getElem?_cons_succ] at e
  exact m4 t e
theorem j6:∀ (bs:List Bool),(List.range bs.length).all (fun i=>bs.getD i true)=bs.all id
 | []=>rfl
 | b :: bs=>by
  rw [List.length_cons,List.range_succ_eq_map,List.all_cons,List.all_map,List.all_cons]
  have:=j6 bs
  show (b && (List.range bs.length).all (fun i=>bs.getD i true))=(id b && bs.all id)
  rw [this];rfl
theorem gH {X:Cx} (hc:X.calm=true):b8 X (.builtin "all") (fun xs H Q=>∃ (p:Addr) (bs:List Bool),xs=[.ref p]/\aQ X.K H p (bs.map V.bl)/\Q (.bl (bs.all id)) H):=by
 intro pins s σ H xs us Q I r h
 obtain⟨p,bs,rfl,hq,q⟩:=h
 obtain⟨u,rfl,rx⟩:=dP r
 cases rx
 obtain⟨its,rv,pl,hz⟩:=I.list hq
 have ne:p≠s.heap.objs.size:=by
  obtain⟨o,ho,_⟩:=pl.isList
  exact Nat.ne_of_lt (Heap.lt_size ho)
 have hlen:its.toArray.size=bs.length:=by rw [List.size_toArray,← rv.length,List.length_map]
 refine call_all_walk (wpAny_pyIter_list pl.isList ?_)
 refine⟨_,_,_,_,_,_,fun i=>bs.getD i true,rfl,Walks.list (A:=X.A.in1) (I.ok.hd hc) _ p ne its.toArray,⟨⟨_,Heap.get?_push_size _ rfl,rfl,rfl⟩,pl.isList.push _⟩,fun i v s' Q' E' hv hQ=>?_,fun h' tk hk=>?_⟩
 ·have e:=m4 rv (i:=i) (v:=v) (by simpa using hv)
  subst e
  exact wpAny_truthy_bool hQ
 ·rw [hlen,j6]
  refine⟨.bl _,H,I.kept (t':=tk) fun b o e=>hk b o (fun z=>?_) (Heap.get?_push_of_some _ e),rfl,q⟩
  rw [List.mem_singleton.mp z] at e
  exact absurd (Heap.lt_size e) (Nat.lt_irrefl _)
section
variable {prog:Program} {w:World} {A:Around} {E:bu} {s:Shared}
end
def Fz (n:Nat):List Int:=(List.range n).map fun i:Nat=>(i:Int)
def ER (ta:TA):TE:=fun σ H Q=>ta σ H fun vs H1=>∃ j:Int,vs=[.int j]/\∀ p,H1 p=none->Q (.ref p) (upd H1 p (.rng 0 j))
def Gm (hi:Int) (n:Nat):It:=⟨fun i _=>i < n,fun i H x H'=>H'=H/\x=.int (hi - i),fun i _=>n≤i⟩
def Fj (ta:TA):TI:=fun σ H R=>ta σ H fun vs H1=>∃ i j:Int,vs=[.int i,.int j,.int (-1)]/\(-1000≤i/\i≤1000/\-1000≤j/\j≤1000)/\R (Gm i (i - j).toNat) H1
section
set_option autoImplicit true
set_option relaxedAutoImplicit true
end
structure DE (J:It) (H:Hp) (n:Nat) (P:Nat->V->Hp->Prop):Prop where
 go:∀ i H',i < n->aA H H'->J.go i H'
 stop:∀ H',aA H H'->J.stop n H'
 yld:∀ i H' x H'',i < n->aA H H'->J.yld i H' x H''->aA H' H''/\P i x H''
theorem oC {K:Fg} {H:Hp} {a:Addr} {xs:List V} (h:aQ K H a xs):DE (pP K a) H xs.length (fun i x _=>xs[i]?=some x) where
 go:=fun i H' hi s=>⟨xs,_,s.seq h,List.getElem?_eq_getElem hi⟩
 stop:=fun H' s=>⟨xs,s.seq h,Nat.le_refl _⟩
 yld:=fun i H' x H'' hi s y=>by obtain⟨rfl,hy⟩:=y;exact⟨aA.refl _,hy xs (s.seq h)⟩
theorem ka {K:Fg} {H:Hp} {a:Addr} {xs:List V} (h:aV K H a xs):DE (vq K a) H xs.length (fun i x _=>xs[i]?=some x) where
 go:=fun i H' hi s=>⟨xs,_,aI.same s _ _ h,List.getElem?_eq_getElem hi⟩
 stop:=fun H' s=>⟨xs,aI.same s _ _ h,Nat.le_refl _⟩
 yld:=fun i H' x H'' hi s y=>by obtain⟨rfl,hy⟩:=y;exact⟨aA.refl _,hy xs (aI.same s _ _ h)⟩
theorem oE {K:Fg} {H:Hp} {a:Addr} {xs:List V} (h:aQ K H a xs):DE (Bd K a) H xs.length (fun i v H'=>∃ p x,v=.ref p/\xs[i]?=some x/\H' p=some (.tup [.int i,x])) where
 go:=fun i H' hi s=>⟨xs,_,s.seq h,List.getElem?_eq_getElem hi⟩
 stop:=fun H' s=>⟨xs,s.seq h,Nat.le_refl _⟩
 yld:=fun i H' x H'' hi s y=>by obtain⟨p,v,hp,rfl,rfl,hy⟩:=y;exact⟨ak hp _,p,v,rfl,hy xs (s.seq h),ai⟩
theorem eB {J:It} {H:Hp} {D:Addr} {n:Nat} {P:Nat->V->Hp->Prop} (w:DE J H n P) (c:Nat->Bool) (f:Nat->V) {src:List (Option Nat)} {σ:L2.St} {g:TG} {tt:TT} {te:TE} {Q:Hp->Prop} (hD:H D=none) (hn:n≤1000)
  (turn:∀ (i:Nat) (x:V) (H':Hp),i < n->aA H H'->P i x H'->∀ (R:VK) (E:Hp->Prop),(c i=true->∀ H'',aA H' H''->R (f i) H'')->(c i=false->∀ H'',aA H' H''->E H'')→
   g x (bw src σ) H' fun σ2 H2=>dz (bw src σ) σ2/\tt σ2 H2 fun ok H3=>if ok=true then te σ2 H3 R else E H3)
  (fin:∀ H',aA H H'->H' D=some (.lst (((List.range n).filter c).map f))->Q H') :
  ∃ W:Nat->Nat->List V->Hp->Prop,(∃ m,W 0 m [] (upd H D (.lst [])))/\∀ i m ys H,W i m ys H->(J.stop i H/\Q H)∨(J.go i H/\∀ x H',J.yld i H x H'→
   g x (bw src σ) H' fun σ2 H2=>dz (bw src σ) σ2/\tt σ2 H2 fun ok H3=>
    if ok=true then te σ2 H3 fun y H4=>H4 D=some (.lst ys)/\ys.length < sizeLine/\∃ m',m' < m/\W (i+1) m' (ys++[y]) (upd H4 D (.lst (ys++[y]))) else ∃ m',m' < m/\W (i+1) m' ys H3):=by
 refine⟨fun i m ys H'=>i≤n/\m=n - i/\ys=((List.range i).filter c).map f/\aA H H'/\H' D=some (.lst ys),⟨_,Nat.zero_le _,rfl,rfl,ak hD _,ai⟩,?_⟩
 rintro i m ys H1 ⟨hi,rfl,rfl,s1,d1⟩
 by_cases hix:i < n
 ·refine .inr ⟨w.go i H1 hix s1,fun x H2 y=>?_⟩
  obtain⟨s2,p⟩:=w.yld i H1 x H2 hix s1 y
  have d2:=s2 _ _ d1
  have len:(((List.range i).filter c).map f).length≤i:=by
   rw [List.length_map]
   exact Nat.le_trans (List.length_filter_le _ _) (by rw [List.length_range];exact Nat.le_refl _)
  refine turn i x H2 hix (s1.trans s2) p _ _ (fun hc H3 s3=>?_) fun hc H3 s3=>?_
  ·have d3:=s3 _ _ d2
   refine⟨d3,bA (by omega),n - (i+1),by omega,hix,rfl,?_,fun b o q=>?_,ai⟩
   ·rw [List.range_succ,List.filter_append,List.map_append]
    simp [hc]
   ·rw [aw (aM q hD)]
    exact s3 _ _ (s2 _ _ (s1 _ _ q))
  ·refine⟨n - (i+1),by omega,hix,rfl,?_,(s1.trans s2).trans s3,s3 _ _ d2⟩
   rw [List.range_succ,List.filter_append,List.map_append]
   simp [hc]
 ·have e:i=n:=by omega
  subst e
  exact .inl ⟨w.stop H1 s1,fin H1 s1 d1⟩
theorem jf {α β:Type} (d:α) (p:α->Bool) (f:α->β):∀ l:List α,((List.range l.length).filter fun i=>p (l.getD i d)).map (fun i=>f (l.getD i d))=(l.filter p).map f
 | []=>rfl
 | x :: l=>by
  have ih:=jf d p f l
  rw [List.length_cons,List.range_succ_eq_map,List.filter_cons,List.filter_cons]
  have e:(((List.range l.length).map Nat.succ).filter fun i=>p ((x :: l).getD i d)).map (fun i=>f ((x :: l).getD i d))=(l.filter p).map f:=by
   rw [List.filter_map,List.map_map]
   exact ih
  show (if p x=true then _ else _:List Nat).map _=_
  cases hp:p x with
  | true=>
   simp only [if_true,List.map_cons]
   rw [e];rfl
  | false=>
   simp only [Bool.false_eq_true,if_false]
   exact e
theorem lg {α β:Type} (d:α) (f:α->β) (l:List α):((List.range l.length).filter fun _=>true).map (fun i=>f (l.getD i d))=l.map f:=by
 have:=jf d (fun _=>true) f l
 rw [this,List.filter_eq_self.mpr (by intros;rfl)]
theorem cm {α:Type} {l:List α} {i:Nat} {x:α} (d:α) (h:l[i]?=some x):l.getD i d=x:=by rw [List.getD_eq_getElem?_getD,h];rfl
section
variable {prog:Program} {w:World} {A:Around} {E:bu} {s:Shared}
end
theorem AO {h:Heap} {x y:Value} {d e:PyData} {as bs:List Addr} (rx:Reads h x d as) (ry:Reads h y e bs) (cd:d.canLay0=true) (ce:e.canLay0=true) (dp:e.depth≤32) (rf:PyData.eqv d d=true):i0 h x d y=PyData.eqv e d:=by
 unfold i0
 by_cases q:y=x
 ·subst q
  rw [if_pos rfl,SeqAt.Reads.unique _ _ _ _ _ ce ry rx,rf]
 ·have z:∃ d',d'.canLay0=true/\d'.depth≤32/\∃ as,Reads h y d' as:=⟨e,ce,dp,bs,ry⟩
  rw [if_neg q,dif_pos z]
  obtain⟨c,_,cs,r⟩:=z.choose_spec
  rw [SeqAt.Reads.unique _ _ _ _ _ ce ry r]
def oA (ds:List PyData):Prop:=∀ e∈ds,e.canLay0=true/\e.depth≤32
theorem mI {X:Cx} {pins:bo} {σ:L2.St} {H:Hp} {s:Shared} (I:Inv X pins σ H s) {v:Value} {d:PyData} {as:List Addr} (rx:Reads s.heap v d as) (cd:d.canLay0=true) (rf:PyData.eqv d d=true) :
  ∀ {xs:List V} {us:List Value} {ds:List PyData},aT xs us->aH X.K H xs ds->oA ds->us.map (i0 s.heap v d)=ds.map fun e=>PyData.eqv e d
 | _,_,_,.nil,.nil,_=>rfl
 | _,_,_,.cons r t,.cons h k,l=>by
  obtain⟨bs,ry⟩:=aW.reads I h r
  obtain⟨ce,dp⟩:=l _ List.mem_cons_self
  rw [List.map_cons,List.map_cons,AO rx ry cd ce dp rf,mI I rx cd rf t k fun e he=>l e (List.mem_cons_of_mem _ he)]
theorem aH.known {K:Fg} {H:Hp}:∀ {xs:List V} {ds:List PyData},aH K H xs ds->oA ds->pO K H xs
 | _,_,.nil,_,x,hx=>by cases hx
 | _,_,.cons h t,l,x,hx=>by
  rcases List.mem_cons.mp hx with rfl | hx
  ·obtain⟨a,b⟩:=l _ List.mem_cons_self
   exact⟨_,h,a,b⟩
  ·exact aH.known t (fun e he=>l e (List.mem_cons_of_mem _ he)) x hx
def Eh (K:Fg):R2:=fun x y H Q=>∃ p xs ds d,y=.ref p/\aQ K H p xs/\aH K H xs ds/\oA ds/\aW K H x d/\d.canLay0=true/\PyData.eqv d d=true/\Q (.bl (ds.any fun e=>PyData.eqv e d)) H
def DA (K:Fg):R2:=fun x y H Q=>∃ p xs ds d,y=.ref p/\aQ K H p xs/\aH K H xs ds/\oA ds/\aW K H x d/\d.canLay0=true/\PyData.eqv d d=true/\Q (.bl (!ds.any fun e=>PyData.eqv e d)) H
theorem jj {α β:Type} {f:α->Bool} {g:β->Bool}:∀ {l:List α} {m:List β},l.map f=m.map g->l.any f=m.any g
 | [],[],_=>rfl
 | [],_ :: _,h=>by simp at h
 | _ :: _,[],h=>by simp at h
 | a :: l,b :: m,h=>by
  rw [List.map_cons,List.map_cons] at h
  injection h with h1 h2
  rw [List.any_cons,List.any_cons,h1,jj h2]
theorem ut {X:Cx} {k:Nat} (hr:cc k X.A):dN X (compareOp .In) (Eh X.K):=by
 intro pins s σ H x y v u Q I rx ry h
 obtain⟨p,xs,ds,d,rfl,hq,hd,ls,hx,cd,rf,q⟩:=h
 cases ry
 obtain⟨its,r,pl,hz⟩:=I.list hq
 obtain⟨as,ra⟩:=aW.reads I hx rx
 refine SeqAt.in_listAt (i0 s.heap v d) pl.isList (fun w hw=>uI ra cd (by show X.A.units+1+32 < cLine;have:=hr.units;omega) (gZ I r (hd.known ls) w (by simpa using hw))) ⟨_,H,I,?_,q⟩
 show Value.bool (its.toArray.any (i0 s.heap v d))=Value.bool (ds.any fun e=>PyData.eqv e d)
 rw [List.any_toArray,jj (mI I ra cd rf r hd ls)]
def Fb (K:Fg):R2:=fun x y H Q=>∃ p xs ds d,y=.ref p/\aV K H p xs/\aH K H xs ds/\oA ds/\aW K H x d/\d.canLay0=true/\PyData.eqv d d=true/\Q (.bl (ds.any fun e=>PyData.eqv e d)) H
def DC (K:Fg):V->List V->Hp->VK->Prop:=fun x vs H Q=>∃ p xs ds w d,x=.ref p/\vs=[w]/\aQ K H p xs/\aH K H xs ds/\oA ds/\aW K H w d/\d.canLay0=true/\PyData.eqv d d=true/\(∃ e∈ds,PyData.eqv e d=true)∧
 ∀ (j:Nat) (e:PyData),ds[j]?=some e->PyData.eqv e d=true->(∀ m f,m < j->ds[m]?=some f->PyData.eqv f d=false)->Q (.int j) H
theorem xh {j:Nat} (h:j≤16777216):Builtin.List.listFitsIndex (j:Int)=true:=by
 unfold Builtin.List.listFitsIndex
 have e:(2:Int) ^ 63=9223372036854775808:=by decide
 rw [e,Bool.and_eq_true,decide_eq_true_iff,decide_eq_true_iff]
 omega
theorem qH (l:Addr) (its:Array Value) (n:Nat) (x:Int) (tk:Tok) (u2:Value) (hc:Builtin.List.listFitsIndex x=true) (hsz:its.size≤sizeLine) :
  Meets (Builtin.«list.insert» ⟨[.ref l,.int x tk,u2],[]⟩) (fun _ R s=>s.heap.get? l=some { cls:=.type "list", dict:=none,data:=.seq its n,slots:=#[] }/\R (.ok (.ret Value.none)) { s with heap:=s.heap.update l (Obj.mapSeq fun xs=>have k:=if x < 0 then (x+((xs.size:Nat):Int)).toNat else min x.toNat xs.size;(xs.extract 0 k).push u2++xs.extract k),toks:=s.toks }):=by
 apply AutoListH.list_insert_list_int_val_1
 ·rw [hc];simp
 ·exact hsz
def vR:V->List V->Hp->VK->Prop:=fun x vs H Q=>∃ (l:Addr) (xs:List V) (j:Nat) (y:V),x=.ref l/\vs=[.int j,y]/\H l=some (.lst xs)/\j≤xs.length/\xs.length < sizeLine/\Q .non (upd H l (.lst (xs.take j++y :: xs.drop j)))
theorem qu {X:Cx}:DN X "list.insert" vR:=by
 intro pins s σ H x vs v us Q I rx rv h
 obtain⟨l,xs,j,y,rfl,rfl,hH,hj,hz,q⟩:=h
 cases rx
 obtain⟨u,u2,rfl,ru,ru2⟩:=jD rv
 obtain⟨tk,rfl⟩:=(show ∃ t,u=Value.int j t from ru)
 obtain⟨z,its,n,r,hl,e⟩:=I.lstM hH
 have hlen:=r.length
 have sl:sizeLine=16777216:=by decide
 have hsz:its.toArray.size≤sizeLine:=by rw [List.size_toArray];omega
 have hfi:Builtin.List.listFitsIndex (j:Int)=true:=xh (show j≤16777216 by omega)
 generalize hx:(j:Int)=x at hfi
 have M:=qH l its.toArray n x tk u2 hfi hsz
 refine call_meets PySem.F.slot_list_insert ⟨_,e,rfl⟩ PySem.F.entry_list_insert (PySem.F.args_list_insert_3 _ _ _) M ⟨e,?_⟩
 have hv:aT (xs.take j++y :: xs.drop j) (its.take j++u2 :: its.drop j):=(r.take j).append (.cons ru2 (r.drop j))
 refine⟨.non,_,I.lset (its':=its.take j++u2 :: its.drop j) hH e ?_ hv ?_,rfl,q⟩
 ·subst hx
  have e1:¬ ((j:Int) < 0):=by omega
  have e2:min j its.length=j:=by omega
  simp [e1,e2,List.take_of_length_le]
 ·rw [List.length_append,List.length_cons,List.length_take,List.length_drop]
  omega
mutual
def DD:PyData->Bool
 | .int i=>decide (i.natAbs < 2 ^ 230)
 | .tuple ds=>iZ ds
 | .list ds=>iZ ds
 | .dict _=>false
 | _=>true
def iZ:List PyData->Bool
 | []=>true
 | d :: ds=>DD d && iZ ds
end
theorem gB:∀ {ds:List PyData},(∀ d∈ds,DD d=true)->iZ ds=true
 | [],_=>rfl
 | d :: ds,h=>by
  show (DD d && iZ ds)=true
  rw [h d List.mem_cons_self,gB fun e he=>h e (List.mem_cons_of_mem _ he)];rfl
theorem fj:∀ {ds:List PyData},(∀ d∈ds,d.canLay0=true)->PyData.canLayAll0 ds=true
 | [],_=>rfl
 | d :: ds,h=>by
  show (d.canLay0 && PyData.canLayAll0 ds)=true
  rw [h d List.mem_cons_self,fj fun e he=>h e (List.mem_cons_of_mem _ he)];rfl
structure Gd (k n:Nat) (d:PyData):Prop where
 sh:Sh k n d
 lay:d.canLay0=true
 bd:DD d=true
theorem Gd.mono {k n k' n':Nat} {d:PyData} (h:Gd k n d) (hk:k≤k') (hn:n≤n'):Gd k' n' d:=⟨h.sh.mono hk hn,h.lay,h.bd⟩
theorem Gd.tup {k n m N:Nat} {ds:List PyData} (h:∀ d∈ds,Gd k n d) (hm:ds.length≤m) (hN:(n+3) * m+8≤N):Gd (k+1) N (.tuple ds):=
 ⟨Sh.tup (fun d hd=>(h d hd).sh) hm hN,fj fun d hd=>(h d hd).lay,gB fun d hd=>(h d hd).bd⟩
theorem Sh.lst {k n m N:Nat} {ds:List PyData} (h:∀ d∈ds,Sh k n d) (hm:ds.length≤m) (hN:(n+3) * m+8≤N):Sh (k+1) N (.list ds):=by
 obtain⟨a,b,c,e,f⟩:=Sh.all h
 refine⟨a,b,Nat.succ_le_succ c,?_⟩
 show (listText (PyData.shownAll ds)).length≤N
 have q:=listText_len_le (PyData.shownAll ds)
 have l:n * ds.length+3 * ds.length≤(n+3) * m:=by
  rw [← Nat.add_mul]
  exact Nat.mul_le_mul_left _ hm
 omega
theorem Gd.lst {k n m N:Nat} {ds:List PyData} (h:∀ d∈ds,Gd k n d) (hm:ds.length≤m) (hN:(n+3) * m+8≤N):Gd (k+1) N (.list ds):=
 ⟨Sh.lst (fun d hd=>(h d hd).sh) hm hN,fj fun d hd=>(h d hd).lay,gB fun d hd=>(h d hd).bd⟩
theorem kX:Gd 0 5000 .none:=⟨⟨rfl,rfl,Nat.le_refl _,by decide⟩,rfl,rfl⟩
theorem kY (b:Bool):Gd 0 5000 (.bool b):=by cases b <;> exact⟨⟨rfl,rfl,Nat.le_refl _,by decide⟩,rfl,rfl⟩
theorem uN {x:Str} (h:(PyData.str x).showable=true) (l:(PyData.str x).shown.length≤5000) (c:(PyData.str x).canLay0=true):Gd 0 5000 (.str x):=⟨⟨h,rfl,Nat.le_refl _,l⟩,c,rfl⟩
theorem uO {r:R} (h:Wf 230 r):Gd 1 5000 (dR r):=⟨BP h (by decide),ja r,by
 show (decide (r.1.natAbs < 2 ^ 230) && (decide (r.2.natAbs < 2 ^ 230) && true))=true
 rw [decide_eq_true h.top,decide_eq_true h.bot];rfl⟩
theorem cH {i:Int} (h:i.natAbs < 2 ^ 230):Gd 0 5000 (.int i):=⟨⟨(show decide (i.natAbs.log2 < 1920)=true from decide_eq_true (kQ h (by decide))),rfl,Nat.le_refl _,Nat.le_trans (iV h (by decide)) (by decide)⟩,rfl,decide_eq_true h⟩
theorem gF {k n N:Nat} {x y:PyData} (hx:Gd k n x) (hy:Gd k n y) (hN:(n+3) * 2+8≤N):Gd (k+1) N (.tuple [x,y]):=Gd.tup (m:=2) (fun d hd=>by
 simp only [List.mem_cons,List.not_mem_nil,or_false] at hd
 rcases hd with rfl | rfl
 ·exact hx
 ·exact hy) (Nat.le_refl _) hN
def u6:PyData->R
 | .tuple [.int a,.int b]=>(a,b)
 | _=>(0,1)
def Es:PyData->R×R
 | .tuple [x,y]=>(u6 x,u6 y)
 | _=>nN
theorem vP {d:PyData} (h:eG d=true):∃ a b,d=.tuple [.int a,.int b]/\0 < b/\Int.gcd a b=1:=by
 unfold eG at h
 split at h
 ·rename_i a b
  rw [Bool.and_eq_true,decide_eq_true_iff,decide_eq_true_iff] at h
  exact⟨a,b,rfl,by omega,h.2⟩
 ·cases h
end B
namespace B
open PySem PySem.Spec L2 PyProof.Rows
theorem gc {J:It} {H:Hp} {D:Addr} {n:Nat} (Pv:Nat->List V->Hp->Prop) {src:List (Option Nat)} {σ:L2.St} {g:TG} {tt:TT} {te:TE} {Q:Hp->Prop} (h0:Pv 0 [] (upd H D (.lst [])))
  (go:∀ i ys H',i < n->Pv i ys H'->J.go i H') (stop:∀ ys H',Pv n ys H'->J.stop n H'/\Q H')
  (turn:∀ i ys H' x H'',i < n->Pv i ys H'->J.yld i H' x H''->∀ (R:VK) (E:Hp->Prop),(∀ y H4,H4 D=some (.lst ys)->ys.length < sizeLine->Pv (i+1) (ys++[y]) (upd H4 D (.lst (ys++[y])))->R y H4)->(∀ H3,Pv (i+1) ys H3->E H3)→
   g x (bw src σ) H'' fun σ2 H2=>dz (bw src σ) σ2/\tt σ2 H2 fun ok H3=>if ok=true then te σ2 H3 R else E H3) :
  ∃ W:Nat->Nat->List V->Hp->Prop,(∃ m,W 0 m [] (upd H D (.lst [])))/\∀ i m ys H,W i m ys H->(J.stop i H/\Q H)∨(J.go i H/\∀ x H',J.yld i H x H'→
   g x (bw src σ) H' fun σ2 H2=>dz (bw src σ) σ2/\tt σ2 H2 fun ok H3=>
    if ok=true then te σ2 H3 fun y H4=>H4 D=some (.lst ys)/\ys.length < sizeLine/\∃ m',m' < m/\W (i+1) m' (ys++[y]) (upd H4 D (.lst (ys++[y]))) else ∃ m',m' < m/\W (i+1) m' ys H3):=by
 refine⟨fun i m ys H'=>i≤n/\m=n - i/\Pv i ys H',⟨_,Nat.zero_le _,rfl,h0⟩,?_⟩
 rintro i m ys H1 ⟨hi,rfl,p⟩
 by_cases hix:i < n
 ·refine .inr ⟨go i ys H1 hix p,fun x H2 y=>?_⟩
  refine turn i ys H1 x H2 hix p y _ _ (fun y H4 a b c=>⟨a,b,n - (i+1),by omega,hix,rfl,c⟩) fun H3 c=>⟨n - (i+1),by omega,hix,rfl,c⟩
 ·have e:i=n:=by omega
  subst e
  exact .inl (stop ys H1 p)
def D6 (t:TS):TS:=fun D σ H=>∃ M:L2.St->Hp->Prop,t { D with nx:=M } σ H/\∀ σ' H',M σ' H'->D.nx σ' H'
theorem nQ {X:Cx} {st:Stmt} {t:TS} (h:QS X st t):QS X st (D6 t):=⟨by
 intro pins s σ H D I q
 obtain⟨M,q,k⟩:=q
 refine bF (h.p pins s σ H _ I q) fun f s' z=>?_
 cases f with
 | next=>obtain⟨σ',H',I',m⟩:=z;exact⟨σ',H',I',k _ _ m⟩
 | brk=>exact z
 | cont=>exact z
 | ret u=>exact z⟩
end B
namespace B
abbrev Ln:=Nat×Nat
inductive xJ (es:List Ln):Nat->Nat->Prop where
 | one {a b:Nat} (h:(a,b)∈es):xJ es a b
 | step {a b c:Nat} (h:(a,b)∈es) (t:xJ es b c):xJ es a c
def Gq (n:Nat) (es:List Ln):Prop:=∀ e∈es,e.1 < n/\e.2 < n
def GR (n:Nat) (es:List Ln) (L:Nat->Nat->Bool):Prop:=∀ i j,i < n->j < n->(L i j=true↔xJ es j i)
def F7 (L:Nat->Nat->Bool) (a b:Nat):Nat->Nat->Bool:=fun i j=>L i j || ((decide (i=b) || L i b) && (decide (j=a) || L a j))
structure Rx (n:Nat) (es:List Ln) (v:Nat->Int) (ps:Nat->Nat) (r k:Nat) (F:Nat->Int):Prop where
 bas:∀ i,i < n->v i≤F i
 att:∀ i,i < n->∃ j,j < n/\(j=i∨xJ es j i)/\F i=v j
 don:∀ i,i < n->ps i < r->∀ j,j < n->(j=i∨xJ es j i)->v j≤F i
 cur:∀ m a b,m < k->es[m]?=some (a,b)->ps b≤r->∀ j,j < n->(j=a∨xJ es j a)->v j≤F b
def FT (F:Nat->Int) (a b:Nat):Nat->Int:=fun i=>if i=b then max (F b) (F a) else F i
structure GM (n:Nat) (es:List Ln) (v:Nat->Int) (F:Nat->Int):Prop where
 up:∀ i j,i < n->j < n->(j=i∨xJ es j i)->v j≤F i
 att:∀ i,i < n->∃ j,j < n/\(j=i∨xJ es j i)/\F i=v j
def GA (es:List Ln):List Ln:=es.map fun e=>(e.2,e.1)
end B
namespace B
open PySem PySem.Spec L2 PyProof.Rows
def Dq (r r' r'':R2) (ta tb tc td:TE):TE:=fun σ H Q=>ta σ H fun x H1=>tb σ H1 fun y H2=>r x y H2 fun z H3=>∃ k,z=.bl k∧
 (if k=true then tc σ H3 fun w' H4=>r' y w' H4 fun z' H5=>∃ k',z'=.bl k'/\(if k'=true then td σ H5 fun u' H6=>r'' w' u' H6 Q else Q (.bl false) H5) else Q (.bl false) H3)
theorem k8 {t:Addr} {H H':Hp} (s:aA H H'):aA (fz H t) (fz H' t):=fun b o q=>by
 unfold fz at q ⊢
 by_cases c:b=t
 ·rw [if_pos c] at q;cases q
 ·rw [if_neg c] at q ⊢;exact s _ _ q
theorem xq {t:Addr} {H H':Hp} (S:Step t H H'):aA (fz H t) (fz H' t):=fun b o q=>by
 unfold fz at q ⊢
 by_cases c:b=t
 ·rw [if_pos c] at q;cases q
 ·rw [if_neg c] at q ⊢;exact S.keep _ _ c q
theorem pq {t:Addr} {H:Hp}:aA (fz H t) H:=fun b o q=>by
 unfold fz at q
 by_cases c:b=t
 ·rw [if_pos c] at q;cases q
 ·rw [if_neg c] at q;exact q
theorem AW {t p:Addr} {H:Hp} {o:HO} (g:H p=none) (h:∃ xs,H t=some (.lst xs)):fz (upd H p o) t p=some o:=by
 have n:p≠t:=fun z=>by subst z;obtain⟨xs,e⟩:=h;rw [g] at e;cases e
 unfold fz
 rw [if_neg n,ai]
theorem uZ {K:Fg} {t:Addr} {H:Hp} (h:∃ xs,H t=some (.lst xs)):aI K H (fz H t):=fun p xs q=>by
 obtain⟨ys,e⟩:=h
 rcases q with q | q
 ·rcases q with q | ⟨o,q⟩
  ·have n:p≠t:=fun z=>by subst z;rw [e] at q;cases q
   exact .inl (.inl (by unfold fz;rw [if_neg n];exact q))
  ·have n:p≠t:=fun z=>by subst z;rw [e] at q;cases q
   exact .inl (.inr ⟨o,by unfold fz;rw [if_neg n];exact q⟩)
 ·exact .inr q
theorem aH.atN {K:Fg} {H:Hp}:∀ {xs:List V} {ds:List PyData},aH K H xs ds->∀ {i:Nat} {d:PyData},ds[i]?=some d->∃ x,xs[i]?=some x/\aW K H x d
 | _,_,.cons h _,0,d,e=>by
  rw [List.getElem?_cons_zero] at e
  cases e
  exact⟨_,rfl,h⟩
 | _,_,.cons _ t,i+1,d,e=>aH.atN t (i:=i) (by rw [List.getElem?_cons_succ] at e;exact e)
 | _,_,.nil,_,_,e=>by cases e
section
variable {prog:Program} {w:World} {A:Around} {E:bu} {s:Shared}
open HT in
theorem gj {sl:Addr} {n:Nat} {u:Tok} {Q:Int×Int×Nat->Shared->Prop} (hs:s.heap.IsSliceOf sl .none .none (.int (-1) u))
  (h:Q ((n:Int) - 1,-1,n) s):wpAny (model prog w) A (Builtin.Slice.sliceApplied (.ref sl) (pure (n:Int))) Q E s:=by
 obtain⟨os,hos,hcs,hds⟩:=id hs
 unfold Builtin.Slice.sliceApplied Builtin.Slice.sliceFields
 refine wpAny_bind (wpAny_bind (wpAny_field hos hds (x:=.none) rfl (wpAny_bind (wpAny_field hos hds (x:=.none) rfl (wpAny_bind (wpAny_field hos hds (x:=.int (-1) u) rfl (wpAny_pure ?_)))))))
 refine wpAny_bind (fF (.int (-1) u) ?_)
 show wpAny _ _ (if ((-1:Int) == 0)=true then _ else _) _ _ s
 rw [if_neg (by decide)]
 refine wpAny_bind (slicePart_none (wpAny_bind (slicePart_none (wpAny_bind (wpAny_pure ?_)))))
 show wpAny _ _ (pure ((n:Int) - 1,(-1:Int),Builtin.Slice.slicePlaces ((n:Int) - 1) (-1) (-1))) _ _ s
 have e:Builtin.Slice.slicePlaces ((n:Int) - 1) (-1) (-1)=n:=by
  unfold Builtin.Slice.slicePlaces
  rw [if_neg (by decide)]
  by_cases c:(n:Int) - 1 > -1
  ·rw [if_pos c,show (-(-1):Int)=1 by decide,Int.ediv_one];omega
  ·rw [if_neg c];omega
 rw [e]
 exact wpAny_pure h
theorem tW (xs:Array Value):((List.range xs.size).filterMap fun (m:Nat)=>xs[(((xs.size:Int) - 1)+(m:Int) * (-1)).toNat]?)=xs.toList.reverse:=by
 have key:∀ k,k≤xs.size->((List.range k).filterMap fun (m:Nat)=>xs[(((xs.size:Int) - 1)+(m:Int) * (-1)).toNat]?)=xs.toList.reverse.take k:=by
  intro k
  induction k with
  | zero=>intro _;rfl
  | succ k ih=>
   intro hk
   rw [List.range_succ,List.filterMap_append,ih (by omega),List.take_add_one]
   congr 1
   have e:(((xs.size:Int) - 1)+(k:Int) * (-1)).toNat=xs.size - 1 - k:=by omega
   rw [List.filterMap_cons,e]
   rw [List.getElem?_reverse (by rw [Array.length_toList];omega),Array.length_toList]
   rw [show xs.toList[xs.size - 1 - k]?=xs[xs.size - 1 - k]? by simp]
   cases xs[xs.size - 1 - k]? <;> rfl
 have:=key xs.size (Nat.le_refl _)
 rwa [List.take_of_length_le (by simp)] at this
open HT in
theorem pS {t sl:Addr} {items:Array Value} {u:Tok} {Q:bu} (ht:IsTup s.heap t items) (hs:s.heap.IsSliceOf sl .none .none (.int (-1) u))
  (h:Q (.ref s.heap.objs.size) { s with heap:=s.heap.push { cls:=.type "tuple", data:=.seq items.toList.reverse.toArray } })
  (hsz:items.size≤sizeLine):wpAny (model prog w) A (getItem (.ref t) (.ref sl)) Q E s:=by
 have htake:sizeOk (.seq items.toList.reverse.toArray):=by
  show items.toList.reverse.toArray.size≤sizeLine
  rw [List.size_toArray,List.length_reverse,Array.length_toList]
  exact hsz
 obtain⟨os,hos,hcs,hds⟩:=id hs
 have hTs:s.TypeIs (.ref sl) "slice" := ⟨os,hos,hcs⟩
 unfold getItem
 try with_reducible refine wpAny_holding ?_
 first | refine wpAny_bind (wpAny_pure ?_) | skip
 refine wpAny_bind (wpAny_sequenceKey ht.typeIs (by decide) ?_)
 refine wpAny_bind (wpAny_callSpecial?_slot (name:=Str.ofString "__getitem__") ht.typeIs PyProof.Rows.slot_tuple_getitem
  (wpAny_call_entry PyProof.Rows.slot_tuple_getitem ht.typeIs entry_tuple_getitem ?_ (args_tuple_getitem _ _)))
 show wpAny _ _ (Builtin.Tuple.tupleItemsOf (.ref t) >>= _) _ _ s
 refine wpAny_bind (tupleItemsOf_ ht ?_)
 refine wpAny_bind (wpAny_typeOf hTs ?_)
 rw [if_pos (by decide)]
 refine wpAny_bind (gj hs ?_)
 have hno:¬ ((((items.size:Int) - 1) == 0 && (-1:Int) == 1 && items.size == items.size)=true):=by
  intro q
  rw [Bool.and_eq_true,Bool.and_eq_true] at q
  exact absurd q.1.2 (by decide)
 show wpAny _ _ (if (((items.size:Int) - 1) == 0 && (-1:Int) == 1 && items.size == items.size)=true then _ else _) _ _ s
 rw [if_neg hno,tW]
 first
  | exact wpAny_bind (m:=Builtin.Tuple.tupleExact _) (wpAny_newObj_type (wpAny_pure ⟨_,rfl,wpAny_pure h⟩) htake)
  | exact wpAny_bind (m:=Builtin.Tuple.tupleExact _) (wpAny_newObj_type (wpAny_bind (wpAny_pure (wpAny_pure ⟨_,rfl,wpAny_pure h⟩))) htake)
  | exact wpAny_bind (wpAny_bind (m:=Builtin.Tuple.tupleExact _) (wpAny_newObj_type (wpAny_pure (wpAny_pure ⟨_,rfl,wpAny_pure h⟩)) htake))
  | exact wpAny_bind (wpAny_bind (m:=Builtin.Tuple.tupleExact _) (wpAny_newObj_type (wpAny_pure ⟨_,rfl,wpAny_pure h⟩) htake))
end
theorem aT.rev:∀ {xs:List V} {us:List Value},aT xs us->aT xs.reverse us.reverse
 | _,_,.nil=>.nil
 | x :: xs,u :: us,.cons r t=>by
  rw [List.reverse_cons,List.reverse_cons]
  exact (aT.rev t).append (.cons r .nil)
def BB (K:Fg) (te:TE):TE:=fun σ H Q=>te σ H fun x H1=>∃ a xs,x=.ref a/\aV K H1 a xs/\∀ p,H1 p=none->Q (.ref p) (upd H1 p (.tup xs.reverse))
theorem z9 {X:Cx} {e:Expr} {te:TE} {j:Nat} {p1 p2 p3 pos:Pos} (he:PE X e te):PE X (.Subscript e (.Slice none none (some (.UnaryOp .USub (.Constant (.int 1) j p1) p2)) p3) pos) (BB X.K te):=by
 intro pins s σ H Q I h
 refine Subscript_ (bF (he pins s σ H _ I h) fun v s1 ⟨x,H1,I1,r1,q1⟩=>?_)
 refine wpAny_Slice ?_
 rw [evalPart_none]
 refine wpAny_pure (wpAny_pure ?_)
 rw [evalPart_some]
 refine bF ((yl (X:=X) d6 (uf (i:=1))) pins s1 σ H1 (fun y H2=>y=.int (-1)/\H2=H1) I1 ⟨1,rfl,rfl,rfl⟩) fun u s2 ⟨y,H2,I2,r2,e1,e2⟩=>?_
 subst e1 e2
 obtain⟨t,rfl⟩:=r2
 obtain⟨a,xs,rfl,hx,q⟩:=q1
 cases r1
 have I4:Inv X pins σ H2 { s2 with heap:=s2.heap.push { cls:=.type "slice", data:=.fields #[.none,.none,.int (-1) t] } }:=I2.kept (t':=s2.toks) fun b ob q=>Heap.get?_push_of_some _ q
 obtain⟨its,r,ht,hz⟩:=I4.tuple hx
 have hlen:its.toArray.size=xs.length:=by rw [List.size_toArray];exact r.length.symm
 show wpAny (model X.prog X.w) X.A (subscriptTail e (.Slice none none (some (.UnaryOp .USub (.Constant (.int 1) j p1) p2)) p3) (.ref a) (.ref s2.heap.objs.size)) (EP X pins σ Q) X.xe { s2 with heap:=s2.heap.push { cls:=.type "slice", data:=.fields #[.none,.none,.int (-1) t] } }
 refine tail_any (ops:=[.ref a,.ref s2.heap.objs.size]) ht.typeIs PyProof.Rows.slot_tuple_getitem.lookup (pS ht (Heap.IsSliceOf.new ..) ?_ (by rw [hlen];exact hz)) (by with_unfolding_all rfl)
 refine⟨.ref _,_,I4.laid (t':=s2.toks) (o:=.tup xs.reverse) (fun b ob q=>Heap.get?_push_of_some _ q) (Nat.le_refl _) ?_,rfl,q _ (I4.hok.fresh (Nat.le_refl _))⟩
 exact⟨by rw [List.length_reverse];exact hz,_,aT.rev r,IsTup.new _ _⟩
theorem tI {X:Cx} {e:Expr} {te:TE} {j:Nat} {p1 p2 p3 pos:Pos} (he:QE X e te):QE X (.Subscript e (.Slice none none (some (.UnaryOp .USub (.Constant (.int 1) j p1) p2)) p3) pos) (BB X.K te):=⟨z9 he.p⟩
end B
namespace B
end B
namespace B
open PySem PySem.Spec L2 PyProof.Rows
def GO (zs:List R):Prop:=zs.Pairwise fun a b=>gY a b=true
theorem cv.join {α:Type} {P:V->α->Prop}:∀ {xs ys:List V} {ds es:List α},cv P xs ds->cv P ys es->cv P (xs++ys) (ds++es)
 | _,_,_,_,.nil,k=>k
 | _,_,_,_,.cons h t,k=>.cons h (cv.join t k)
end B
namespace L2
open PySem PySem.Spec PyProof.Rows
structure Db (k:Nat) (A:Around):Prop where
 dp:A.depth+3 * k+5 < recursionLimit
 un:A.units+16 * k+200 < cLine
 gd:A.guards=some []
structure Ft (P:Program) (w:World) (K:Fg) (mg:Str->Option Value) (base:Heap) (CX:nk) (k:Nat) (f:Addr) (fd:FuncData) (ps:List Str) (sp:Sp):Prop where
 len:∀ vs H Q E,sp vs H Q E->vs.length=ps.length
 run:∀ (A:Around) (outer:List Env) (s:Shared) (H:Hp) (args:Args) (us:List Value) (vs:List V) (Q:VK) (E:XK),Db k A->nc P w K mg base A outer s H->BindsTo s fd args (ps.zip us)->aT vs us->sp vs H Q E→
  codeAny (model P w) A (.call (.ref f) args) (CR CX outer P w H s Q E) s
def GJ (CX:nk) (P:Program) (w:World) (K:Fg) (mg:Str->Option Value) (base:Heap) (N:List Str) (qual:Str) (scope:Scope) (f:Addr) (cd:Value) (A:Around) (outer:List Env) (s:Shared) (H:Hp) (E:XK):Cx:={ bx CX P w K mg base N qual scope f cd A outer s H E with calm:=false }
section
variable {X:Cx} {CX:nk} {k:Nat} {f C:Addr} {fd:FuncData} {ps:List Str} {sp:Sp} {dvs:List V} {ds:List Value} {E:XK} {x m:Str} {p pos apos:Pos} {e o:Expr} {es:List Expr} {ta:TE} {t:TA}
end
section
variable {P:Program} {w:World} {K:Fg} {mg:Str->Option Value} {base:Heap}
end
end L2
namespace B
open PySem PySem.Spec L2 PyProof.Rows
section
set_option autoImplicit true
set_option relaxedAutoImplicit true
end
def Dj (d:Addr) (ob:Obj) (kvs:List (bS×V)):It:=
 ⟨fun i H=>H d=some (.frz ob (.dK kvs))/\i < kvs.length,
  fun i H x H'=>∃ p k v,H p=none/\x=.ref p/\kvs[i]?=some (k,v)/\H'=upd H p (.tup [kV k,v]),
  fun i H=>H d=some (.frz ob (.dK kvs))/\kvs.length≤i⟩
theorem KV.get:∀ {kvs:List (bS×V)} {vs:List (bS×Value)},KV kvs vs->∀ {i:Nat} {k:bS} {v:V},kvs[i]?=some (k,v)->∃ u,vs[i]?=some (k,u)/\aU v u
 | _,_,.nil,i,k,v,h=>by simp at h
 | (a,b) :: r,(c,d) :: t,.cons h z,0,k,v,e=>by
  have e':(a,b)=(k,v):=by simpa using e
  cases e'
  obtain⟨h1,h2⟩:=h
  have h1':a=c:=h1
  subst h1'
  exact⟨d,rfl,h2⟩
 | _ :: r,_ :: t,.cons h z,i+1,k,v,e=>by
  obtain⟨u,q,w⟩:=KV.get z (i:=i) (by simpa using e)
  exact⟨u,by simpa using q,w⟩
theorem CL {k:bS} {u:Value} (h:iY k u=true):aU (kV k) u:=by
 rcases bz h with ⟨i,t,rfl,rfl⟩ | ⟨x,t,rfl,rfl⟩
 ·exact⟨t,rfl⟩
 ·exact⟨t,rfl⟩
theorem AV:entryFor table "dict_itemiterator.__iter__" = some Builtin.«dict_keyiterator.__iter__»:=
 entryFor_alias (by kernel_rfl) (by first | rfl | decide +kernel | (unfold String.splitOn;simp +decide [String.splitOnAux])) (by decide +kernel) (by kernel_rfl) (id' := "dict_keyiterator.__iter__")
theorem nu {P:Program} {w:World} {K:Fg} {elts:List Expr} {x1} {pos:Pos} {it d:Addr} {ob:Obj} {kvs:List (bS×V)} {es:Array DictEntry} {ep:Nat} (hob:ob.data=.dict es ep) :
  m5 P w K (.Tuple elts x1 pos) (Dj d ob kvs) [it] it (fun i h=>∃ ok ov,IsItemIter h it d i kvs.length ep ok ov) where
 mem:=by simp
 obj:=fun i h st c hc=>by
  obtain⟨ok,ov,e⟩:=st
  rw [List.mem_singleton] at hc
  subst hc
  exact⟨_,e,fun v q=>by cases (show Data.fields _=Data.cell v from q)⟩
 keep:=fun i h h' ⟨ok,ov,e⟩ k=>⟨ok,ov,k it (by simp) _ e⟩
 item:=by
  intro X hP hw hK hc i pins s σ H E I hf st hg
  subst hP hw hK
  obtain⟨hd,hi⟩:=hg
  obtain⟨ok,ov,e⟩:=st
  obtain⟨q0,z,hds,vs,rel,o,es',ep',d1,d2,d3,d4⟩:=(show ObjOk X.prog X.w H s.heap d (.frz ob (.dK kvs)) from I.hok d _ hd)
  have eo:o=ob:=Option.some.inj (d1.symm.trans q0)
  subst eo
  rw [hob] at d3
  cases d3
  have dat:s.heap.DictAt (bi X.prog X.w) d vs ep:=⟨o,es,d1,d2,hob,d4⟩
  obtain⟨k,v,hkv'⟩:∃ k v,kvs[i]?=some (k,v):=⟨(kvs[i]'hi).1,(kvs[i]'hi).2,List.getElem?_eq_getElem hi⟩
  obtain⟨u,hu,ru⟩:=KV.get rel hkv'
  have ndi:it≠d:=fun q=>by rw [q] at hf;have:=(hf d (by simp)).1;rw [hd] at this;cases this
  have itl:it < s.heap.objs.size:=Heap.lt_size e
  rw [rel.length] at e
  refine wpAny_pyNext_items_item e dat hu fun key h1 hkey eo tup hz hk=>⟨_,rfl,wpAny_letOwnedTupleGo_items eo fun h2 e2 sb=>?_⟩
  have nt:s.heap.objs.size≠it:=Nat.ne_of_gt itl
  have P:ObjOk X.prog X.w (upd H s.heap.objs.size (.tup [kV k,v])) h2 s.heap.objs.size (.tup [kV k,v]):=
   ⟨by show 2≤sizeLine;decide,[key,u],.cons (CL hkey) (.cons ru .nil),⟨_,sb.extBut _ _ nt tup,rfl,_,rfl⟩⟩
  have I2:Inv X pins σ (upd H s.heap.objs.size (.tup [kV k,v])) { s with heap:=h2,toks:=s.toks }:=ij I (fun c o' n q=>by
   have n':c≠it:=fun r=>n (by simp [r])
   exact sb.extBut _ _ n' (hk c o' n' q)) hf (Nat.le_refl _) P
  refine⟨.ref s.heap.objs.size,_,I2,rfl,⟨_,k,v,I.fresh,rfl,hkv',rfl⟩,⟨key,u,by rw [rel.length];exact e2⟩,fun c hc=>?_⟩
  have hc':c=it:=by simpa using hc
  rw [hc',aw (Ne.symm nt)]
  exact (hf it (by simp)).1
 done:=by
  intro X hP hw hK hc i pins s σ H E I hf st hg
  subst hP hw hK
  obtain⟨hd,hi⟩:=hg
  obtain⟨ok,ov,e⟩:=st
  obtain⟨q0,z,hds,vs,rel,o,es',ep',d1,d2,d3,d4⟩:=(show ObjOk X.prog X.w H s.heap d (.frz ob (.dK kvs)) from I.hok d _ hd)
  have eo:o=ob:=Option.some.inj (d1.symm.trans q0)
  subst eo
  rw [hob] at d3
  cases d3
  have dat:s.heap.DictAt (bi X.prog X.w) d vs ep:=⟨o,es,d1,d2,hob,d4⟩
  have hh:X.A.in1.handled=none:=I.ok.hd hc
  rw [rel.length] at e hi
  refine wpAny_pyNext_items_end hh e dat (List.getElem?_eq_none hi) fun h1 ex=>⟨rfl,?_⟩
  exact ik (t':=s.toks) I (fun c o' n q=>ex c o' (fun r=>n (by simp [r])) q) hf
 self:=fun A i s Q E st h=>by
  obtain⟨ok,ov,e⟩:=st
  have hT:s.TypeIs (.ref it) "dict_itemiterator" := ⟨_,e,rfl⟩
  refine wpAny_pyIter_slot hT PySem.F.slot_dict_itemiterator_iter (wpAny_call_entry PySem.F.slot_dict_itemiterator_iter hT AV ?_ (PySem.F.args_dict_itemiterator_iter_1 _))
  show wpAny _ _ (ret (.ref it)) _ _ s
  exact wpAny_pure ⟨_,rfl, "dict_itemiterator", _,hT,PySem.F.slot_dict_itemiterator_next.lookup,h⟩
def uH (td:TE):TI:=fun σ H R=>td σ H fun x H1=>∃ d kvs,x=.ref d/\H1 d=some (.dK kvs)/\∀ ob,R (Dj d ob kvs) (upd H1 d (.frz ob (.dK kvs)))
theorem t7 {X:Cx} {elts:List Expr} {x1} {tp apos pos:Pos} {o:Expr} {td:TE} (ho:PE X o td) (hb:attributeBase o "items" X.env (eval o X.env)=eval o X.env:=by rfl) (hl:(apos.endLine == pos.line)=true:=by rfl) :
  PI X (.Tuple elts x1 tp) (.Call (.Attribute o "items" apos) [] [] pos) (uH td):=by
 intro pins s σ H R I h
 refine wpAny_Call_method (T := "dict") (id := "dict.items") hb rfl hl PySem.F.plainAttrs_dict PySem.F.slot_dict_items PySem.F.type_dict_items (bF (ho pins s σ H _ I h) fun u s1 ⟨x,H1,I1,rx,d,kvs,ex,e,q⟩=>?_)
 subst ex
 obtain rfl:u=Value.ref d:=rx
 obtain⟨z,hds,vs,rel,dd⟩:=u3 I1.hok e
 obtain⟨t1,t2,_⟩:=uF I1 (.inl ⟨kvs,.inl e⟩)
 refine⟨t1,t2,?_⟩
 show wpAny _ _ (callWith pos (.builtin "dict.items") [.ref d] [] []) _ _ _
 refine method_meetsIn PySem.F.slot_dict_items PySem.F.entry_dict_items rfl (PySem.evalArgs_none ⟨rfl,t1,PySem.F.args_dict_items_1 _,_,meets_dict_items (bi X.prog X.w) d hds,⟨vs,dd⟩,?_⟩)
 obtain⟨o',es,ep,d1,d2,d3,d4⟩:=id dd
 have dat:s1.heap.DictAt (bi X.prog X.w) d vs ep:=⟨o',es,d1,d2,d3,d4⟩
 refine wpAny_pyIter_items (d:=d) (kvs:=vs) (ep:=ep) ⟨_,Heap.get?_push_size _ rfl,rfl,rfl⟩ (dat.push _) ?_
 have sz:(s1.heap.push { cls:=.type "dict_items", data:=.fields #[.ref d] }).objs.size=s1.heap.objs.size+1:=Heap.size_push ..
 have I2:=I1.kept (t':=s1.toks) (h':=(s1.heap.push { cls:=.type "dict_items", data:=.fields #[.ref d] }).push { cls:=.type "dict_itemiterator", data:=.fields #[.none,.bool false,.ref d,.int 0 0,.int vs.length 0,.int ep 0,.none,.none] }) fun b o q=>Heap.get?_push_of_some _ (Heap.get?_push_of_some _ q)
 have hit:=Heap.get?_push_size (s1.heap.push { cls:=.type "dict_items", data:=.fields #[.ref d] }) (o:={ cls:=.type "dict_itemiterator", data:=.fields #[.none,.bool false,.ref d,.int 0 0,.int vs.length 0,.int ep 0,.none,.none] }) rfl
 have dl:d < s1.heap.objs.size:=Heap.lt_size d1
 have k2:∀ b o,s1.heap.get? b=some o->((s1.heap.push { cls:=.type "dict_items", data:=.fields #[.ref d] }).push { cls:=.type "dict_itemiterator", data:=.fields #[.none,.bool false,.ref d,.int 0 0,.int vs.length 0,.int ep 0,.none,.none] }).get? b=some o:=fun b o q=>Heap.get?_push_of_some _ (Heap.get?_push_of_some _ q)
 generalize (s1.heap.push { cls:=.type "dict_items", data:=.fields #[.ref d] }).push { cls:=.type "dict_itemiterator", data:=.fields #[.none,.bool false,.ref d,.int 0 0,.int vs.length 0,.int ep 0,.none,.none] }=hE at I2 hit k2 ⊢
 rw [sz] at hit ⊢
 have I3:=iw (h':=hE) (t':=s1.toks) (ob:=.frz o' (.dK kvs)) I2 (by rw [e];exact True.intro) ⟨rfl,fun _ _=>rfl⟩ ⟨_,k2 _ _ d1⟩ ⟨k2 _ _ d1,z,hds,vs,rel,o',es,ep,k2 _ _ d1,d2,d3,d4⟩
 have nd:s1.heap.objs.size+1≠d:=Nat.ne_of_gt (Nat.lt_succ_of_lt dl)
 refine⟨_,[s1.heap.objs.size+1],_,_,_,rfl,I3,nu d3,⟨.none,.none,by rw [rel.length];exact hit⟩,fun c hc=>?_,q o'⟩
 have hc':c=s1.heap.objs.size+1:=by simpa using hc
 subst hc'
 exact I1.fpOk (Nat.le_succ _) (by rw [aw nd];exact I1.hok.fresh (Nat.le_succ _))
theorem qM {d:Addr} {ob:Obj} {kvs:List (bS×V)} {g:TG} {tb:TS} {D:fN} {σ:L2.St} {H:Hp} (Pv:Nat->L2.St->Hp->Prop) (h0:Pv 0 σ H)
  (hl:∀ i σ H,Pv i σ H->H d=some (.frz ob (.dK kvs)))
  (hs:∀ i k v p σ H,kvs[i]?=some (k,v)->Pv i σ H->H p=none->g (.ref p) σ (upd H p (.tup [kV k,v])) fun σ2 H2=>tb { D with nx:=Pv (i+1),ct:=Pv (i+1),bk:=D.nx } σ2 H2) (hd:∀ σ H,Pv kvs.length σ H->D.nx σ H) :
  ∃ W:Nat->Nat->L2.St->Hp->Prop,(∃ m,W 0 m σ H)/\∀ i m σ H,W i m σ H→
   ((Dj d ob kvs).stop i H/\D.nx σ H)∨((Dj d ob kvs).go i H/\∃ N:L2.St->Hp->Prop,(∀ σ' H',N σ' H'->∃ m',m' < m/\W (i+1) m' σ' H')/\∀ x H',(Dj d ob kvs).yld i H x H'->g x σ H' fun σ2 H2=>tb { D with nx:=N,ct:=N,bk:=D.nx } σ2 H2):=by
 refine⟨fun i m σ H=>m=kvs.length - i/\i≤kvs.length/\Pv i σ H,⟨_,rfl,Nat.zero_le _,h0⟩,?_⟩
 rintro i m σ H ⟨rfl,hi,p⟩
 have q:=hl i σ H p
 by_cases hlt:i < kvs.length
 ·refine .inr ⟨⟨q,hlt⟩,Pv (i+1),fun σ' H' p'=>⟨kvs.length - (i+1),by omega,rfl,hlt,p'⟩,fun x H' y=>?_⟩
  obtain⟨pp,k,v,hp,rfl,hkv,rfl⟩:=y
  exact hs i k v pp σ _ hkv p hp
 ·have e:i=kvs.length:=by omega
  subst e
  exact .inl ⟨⟨q,Nat.le_refl _⟩,hd σ H p⟩
def oo (ps:List (Int×Int)):List (bS×V):=ps.map fun p=>(Sum.inl p.1,V.int p.2)
def pT:List (Int×Int)->Int->Int
 | [],_=>0
 | (c,u) :: r,b=>if c=b then u else pT r b
def dZ:List (Int×Int)->Int->Int->List (Int×Int)
 | [],b,t=>[(b,0+t)]
 | (c,u) :: r,b,t=>if c=b then (c,u+t) :: r else (c,u) :: dZ r b t
theorem tM {p:bS×V} {r:List (bS×V)} {k:bS} {v:V} (e:p.1=k) (n:∀ q∈r,q.1≠k):cX (p :: r) k v=(k,v) :: r:=by
 unfold cX
 rw [if_pos (by simp [e]),List.map_cons,if_pos e,e]
 congr 1
 exact (List.map_congr_left (g:=id) (fun q hq=>by rw [if_neg (n q hq)];rfl)).trans (List.map_id r)
theorem qh {p:bS×V} {r:List (bS×V)} {k:bS} {v:V} (e:¬ p.1=k):cX (p :: r) k v=p :: cX r k v:=by
 unfold cX
 rw [List.any_cons,decide_eq_false e,Bool.false_or]
 split
 ·rw [List.map_cons,if_neg e]
 ·rfl
theorem ph:∀ (ps:List (Int×Int)) (b:Int),(fQ (oo ps) (Sum.inl b)).getD (V.int 0)=V.int (pT ps b)
 | [],b=>rfl
 | (c,u) :: r,b=>by
  show (fQ ((Sum.inl c,V.int u) :: oo r) (Sum.inl b)).getD (V.int 0)=V.int (if c=b then u else pT r b)
  by_cases e:c=b
  ·rw [if_pos e,dg (by rw [e])];rfl
  ·rw [if_neg e,cQ (fun z=>e (by injection z)),ph r b]
theorem oO:∀ (ps:List (Int×Int)) (b t:Int),(ps.map (·.1)).Nodup->cX (oo ps) (Sum.inl b) (V.int (pT ps b+t))=oo (dZ ps b t)
 | [],b,t,_=>rfl
 | (c,u) :: r,b,t,nd=>by
  have nd':=List.nodup_cons.mp nd
  show cX ((Sum.inl c,V.int u) :: oo r) (Sum.inl b) (V.int ((if c=b then u else pT r b)+t))=oo (if c=b then (c,u+t) :: r else (c,u) :: dZ r b t)
  by_cases e:c=b
  ·rw [if_pos e,if_pos e,tM (by rw [e]) (fun q hq z=>?_)]
   ·show _=(Sum.inl c,V.int (u+t)) :: oo r
    rw [e]
   ·obtain⟨p,hp,rfl⟩:=List.mem_map.mp hq
    have z':p.1=b:=by injection z
    exact nd'.1 (List.mem_map.mpr ⟨p,hp,z'.trans e.symm⟩)
  ·rw [if_neg e,if_neg e,qh (fun z=>e (by injection z)),oO r b t nd'.2]
   rfl
def fT:List (Int×Int)->Rat
 | []=>0
 | p :: r=>(p.2:Rat) / (p.1:Rat)+fT r
theorem xH {a b c:Rat}:(a+b) / c=a / c+b / c:=by rw [Rat.div_def,Rat.div_def,Rat.div_def,Rat.add_mul]
theorem lL:∀ (ps:List (Int×Int)) (b t:Int),fT (dZ ps b t)=fT ps+(t:Rat) / (b:Rat)
 | [],b,t=>by
  show ((0+t:Int):Rat) / (b:Rat)+0=0+(t:Rat) / (b:Rat)
  rw [Int.zero_add];grind
 | (c,u) :: r,b,t=>by
  show fT (if c=b then (c,u+t) :: r else (c,u) :: dZ r b t)=(u:Rat) / (c:Rat)+fT r+(t:Rat) / (b:Rat)
  by_cases e:c=b
  ·rw [if_pos e]
   show ((u+t:Int):Rat) / (c:Rat)+fT r=_
   rw [Rat.intCast_add,xH,e]
   grind
  ·rw [if_neg e]
   show (u:Rat) / (c:Rat)+fT (dZ r b t)=_
   rw [lL r b t]
   grind
theorem jG:∀ (ps:List (Int×Int)) (p:Int×Int),fT (ps++[p])=fT ps+(p.2:Rat) / (p.1:Rat)
 | [],p=>by show (p.2:Rat) / (p.1:Rat)+0=0+_;grind
 | q :: r,p=>by
  show (q.2:Rat) / (q.1:Rat)+fT (r++[p])=(q.2:Rat) / (q.1:Rat)+fT r+_
  rw [jG r p];grind
structure ie (n i:Nat) (ps:List (Int×Int)):Prop where
 nd:(ps.map (·.1)).Nodup
 len:ps.length≤i
 bot:∀ p∈ps,0 < p.1/\p.1.natAbs < 2 ^ n
 top:∀ p∈ps,p.2.natAbs≤i * 2 ^ n
theorem gf:∀ (ps:List (Int×Int)) (b t:Int) (c:Int),c∈(dZ ps b t).map (·.1)↔c∈ps.map (·.1)∨c=b
 | [],b,t,c=>by simp [dZ]
 | (d,u) :: r,b,t,c=>by
  show c∈(if d=b then (d,u+t) :: r else (d,u) :: dZ r b t).map (·.1)↔_
  by_cases e:d=b
  ·rw [if_pos e]
   constructor
   ·intro h;exact .inl h
   ·rintro (h | h)
    ·exact h
    ·exact List.mem_cons.mpr (.inl (h.trans e.symm))
  ·rw [if_neg e,List.map_cons,List.map_cons,List.mem_cons,List.mem_cons,gf r b t c]
   exact or_assoc.symm
theorem vf:∀ (ps:List (Int×Int)) (b t:Int),(ps.map (·.1)).Nodup->((dZ ps b t).map (·.1)).Nodup
 | [],b,t,_=>by simp [dZ]
 | (d,u) :: r,b,t,nd=>by
  have nd':=List.nodup_cons.mp nd
  show ((if d=b then (d,u+t) :: r else (d,u) :: dZ r b t).map (·.1)).Nodup
  by_cases e:d=b
  ·rw [if_pos e];exact nd
  ·rw [if_neg e,List.map_cons,List.nodup_cons]
   refine⟨fun z=>?_,vf r b t nd'.2⟩
   rcases (gf r b t d).mp z with h | h
   ·exact nd'.1 h
   ·exact e h
theorem pN:∀ (ps:List (Int×Int)) (b t:Int),(dZ ps b t).length≤ps.length+1
 | [],b,t=>Nat.le_refl 1
 | (d,u) :: r,b,t=>by
  show (if d=b then (d,u+t) :: r else (d,u) :: dZ r b t).length≤_
  split
  ·exact Nat.le_succ _
  ·exact Nat.succ_le_succ (pN r b t)
theorem pM:∀ (ps:List (Int×Int)) (b t:Int) (M N:Nat),(∀ p∈ps,p.2.natAbs≤M)->t.natAbs≤N->∀ p∈dZ ps b t,p.2.natAbs≤M+N
 | [],b,t,M,N,_,ht,p,hp=>by
  have e:p=(b,0+t):=by simpa [dZ] using hp
  rw [e]
  show (0+t).natAbs≤M+N
  omega
 | (d,u) :: r,b,t,M,N,h,ht,p,hp=>by
  have hu:u.natAbs≤M:=h (d,u) List.mem_cons_self
  have hr:∀ q∈r,q.2.natAbs≤M:=fun q hq=>h q (List.mem_cons_of_mem _ hq)
  have hp':p∈(if d=b then (d,u+t) :: r else (d,u) :: dZ r b t):=hp
  split at hp'
  ·rcases List.mem_cons.mp hp' with e | e
   ·rw [e]
    show (u+t).natAbs≤M+N
    omega
   ·have:=hr p e
    omega
  ·rcases List.mem_cons.mp hp' with e | e
   ·rw [e]
    show u.natAbs≤M+N
    omega
   ·exact pM r b t M N hr ht p e
theorem ie.add {n i:Nat} {ps:List (Int×Int)} (h:ie n i ps) {r:R} (w:Wf n r):ie n (i+1) (dZ ps r.2 r.1) where
 nd:=vf ps r.2 r.1 h.nd
 len:=Nat.le_trans (pN ps r.2 r.1) (Nat.succ_le_succ h.len)
 bot:=fun p hp=>by
  rcases (gf ps r.2 r.1 p.1).mp (List.mem_map.mpr ⟨p,hp,rfl⟩) with z | z
  ·obtain⟨q,hq,e⟩:=List.mem_map.mp z
   rw [← e]
   exact h.bot q hq
  ·rw [z];exact⟨w.pos,w.bot⟩
 top:=fun p hp=>by
  have:=pM ps r.2 r.1 (i * 2 ^ n) (2 ^ n) h.top (Nat.le_of_lt w.top) p hp
  rw [Nat.add_mul,Nat.one_mul]
  exact this
theorem ie.nil (n:Nat):ie n 0 []:=⟨List.nodup_nil,Nat.le_refl _,(fun _ h=>nomatch h),(fun _ h=>nomatch h)⟩
theorem ie.wf {n i:Nat} {ps:List (Int×Int)} (h:ie n i ps) (hi:i≤255) {p:Int×Int} (hp:p∈ps):Wf (n+8) (eJ p.2 p.1):=by
 refine kM (h.bot p hp).1 ?_ (Nat.lt_of_lt_of_le (h.bot p hp).2 (Nat.pow_le_pow_right (by decide) (by omega)))
 have a:=h.top p hp
 have b:i * 2 ^ n≤255 * 2 ^ n:=Nat.mul_le_mul_right _ hi
 have c:0 < 2 ^ n:=Nat.pow_pos (by decide)
 rw [Nat.pow_add]
 omega
def hU:List R->Rat
 | []=>0
 | r :: t=>val r+hU t
theorem jz:∀ (rs:List R) (r:R),hU (rs++[r])=hU rs+val r
 | [],r=>by show val r+0=0+val r;grind
 | q :: t,r=>by show val q+hU (t++[r])=val q+hU t+val r;rw [jz t r];grind
theorem lG:∀ (rs:List R) (acc:R),lC acc->(∀ r∈rs,lC r)->lC (rs.foldl ci acc)/\val (rs.foldl ci acc)=val acc+hU rs
 | [],acc,ha,_=>⟨ha,by show val acc=val acc+0;grind⟩
 | r :: t,acc,ha,h=>by
  have hr:=h r List.mem_cons_self
  obtain⟨a,b⟩:=lG t (ci acc r) (tT ha hr) fun q hq=>h q (List.mem_cons_of_mem _ hq)
  refine⟨a,?_⟩
  rw [List.foldl_cons,b,lF ha.pos hr.pos]
  show val acc+val r+hU t=val acc+(val r+hU t)
  grind
theorem iA:val (0,1)=0:=by decide +kernel
theorem nO:lC (0,1):=⟨by decide,by decide⟩
theorem oF {rs:List R} (h:∀ r∈rs,lC r):lC (cW rs)/\val (cW rs)=hU rs:=by
 obtain⟨a,b⟩:=lG rs (0,1) nO h
 refine⟨a,b.trans ?_⟩
 rw [iA];grind
theorem yR {rs:List R} {x:R} (h:∀ r∈rs,lC r) (hx:lC x) (e:val x=hU rs):x=cW rs:=
 vy hx (oF h).1 (e.trans (oF h).2.symm)
theorem Wf.red {n:Nat} {r:R} (h:Wf n r):lC r:=⟨h.pos,h.cop⟩
section
set_option autoImplicit true
set_option relaxedAutoImplicit true
theorem tK   : QE X (.Dict [] [] pos) rT:=⟨ug ⟩
theorem l4  (hu:X.A.units+1 < cLine) (ho:QE X o td) (he:QE X e ty) (hf:QE X f tx) (m:M2 X o "get" apos e f cpos):QE X (.Call (.Attribute o "get" apos) [e,f] [] cpos) (rV td ty tx):=⟨uh hu ho.p he.p hf.p m⟩
theorem vU  (hu:X.A.units+1 < cLine) (ho:QE X o td) (hi:QE X i ty) (hv:QE X value tv) (hs:swapsWith value (some (.Subscript o i pos')) pos.line X.env=pure false):QS X (.Assign [.Subscript o i pos'] value pos) (ye td ty tv):=⟨v7 hu ho.p hi.p hv.p hs⟩
theorem tH  {X:Cx} {elts:List Expr} {x1} {tp apos pos:Pos} {o:Expr} {td:TE} (ho:QE X o td) (hb:attributeBase o "items" X.env (eval o X.env)=eval o X.env:=by rfl) (hl:(apos.endLine == pos.line)=true:=by rfl):QI X (.Tuple elts x1 tp) (.Call (.Attribute o "items" apos) [] [] pos) (uH td):=⟨t7 ho.p hb hl⟩
end
end B
namespace B
abbrev Pl:=Nat×Nat
def wT (p:Pl):Int:=(p.2:Int) - p.1+1
def Bh (p q:Pl):Prop:=p.1 < q.1∨(p.1=q.1/\q.2≤p.2)
structure GT (S:Pl->Prop) (L:Pl->Int) (p:Pl):Prop where
 inn:S p
 all:∀ q,S q->L q * wT p < L p * wT q∨(L q * wT p=L p * wT q/\Bh p q)
def Fr (n:Nat) (p:Pl):Prop:=p.1≤p.2/\p.2 < n
def Fq (n b e:Nat) (p:Pl):Prop:=Fr n p/\(p.1 < b∨(p.1=b/\e≤p.2))
def Fp (n b e:Nat) (p:Pl):Prop:=Fr n p/\(p.1 < b∨(p.1=b/\p.2 < e))
abbrev Wn:=Option (Nat×Nat)
def CP (b e:Nat):Wn->Bool
 | none=>false
 | some (x,y)=>decide (b≤x) && decide (y≤e)
def CQ (ws:List Wn) (p:Pl):List Nat:=(List.range ws.length).filter fun i=>CP p.1 p.2 (ws.getD i none)
def Fe (ws:List Wn) (A:Nat->Int) (p:Pl):Int:=((CQ ws p).map A).sum
end B
namespace B
open PySem PySem.Spec L2 PyProof.Rows
def bR (ns:List Int):List Int:=ns.foldl step_dedup []
theorem nP (ns:List Int):(List.range ns.length).map (fun i=>ns.getD i 0)=ns:=by
 apply List.ext_getElem
 ·simp
 ·intro i h1 h2
  rw [List.getElem_map,List.getElem_range,List.getD_eq_getElem?_getD,List.getElem?_eq_getElem h2]
  rfl
theorem mN (ns:List Int):firstMet (fun i=>ns.getD i 0) ns.length=bR ns:=by
 unfold firstMet bR
 rw [nP]
theorem dE:∀ (ns σ:List Int),σ.Nodup->(ns.foldl step_dedup σ).Nodup/\(∀ k,k∈ns.foldl step_dedup σ↔k∈σ∨k∈ns)/\(ns.foldl step_dedup σ).length≤σ.length+ns.length∧
  ((ns.foldl step_dedup σ).length=σ.length+ns.length↔(σ++ns).Nodup)
 | [],σ,h=>⟨h,fun k=>by simp,by simp,by simp [h]⟩
 | n :: ns,σ,h=>by
  rw [List.foldl_cons]
  by_cases c:σ.any (· == n)=true
  ·have e:step_dedup σ n=σ:=by unfold step_dedup;rw [if_pos c]
   rw [e]
   obtain⟨a1,a2,a3,a4⟩:=dE ns σ h
   have hm:n∈σ:=by
    obtain⟨x,hx,q⟩:=List.any_eq_true.mp c
    rw [← show x=n from by simpa using q];exact hx
   refine⟨a1,fun k=>?_,by rw [List.length_cons];omega,?_⟩
   ·rw [a2,List.mem_cons]
    constructor
    ·rintro (h | h)
     ·exact .inl h
     ·exact .inr (.inr h)
    ·rintro (h | h | h)
     ·exact .inl h
     ·rw [h];exact .inl hm
     ·exact .inr h
   ·constructor
    ·intro q;rw [List.length_cons] at q;omega
    ·intro q
     exact absurd rfl ((List.nodup_append.mp q).2.2 n hm n List.mem_cons_self)
  ·have e:step_dedup σ n=σ++[n]:=by unfold step_dedup;rw [if_neg c]
   rw [e]
   have hm:n∉σ:=fun hx=>c (List.any_eq_true.mpr ⟨n,hx,by simp⟩)
   have h':(σ++[n]).Nodup:=List.nodup_append.mpr ⟨h,by simp,fun a ha b hb=>by
    rw [List.mem_singleton] at hb
    intro z;rw [z,hb] at ha;exact hm ha⟩
   obtain⟨a1,a2,a3,a4⟩:=dE ns (σ++[n]) h'
   refine⟨a1,fun k=>?_,?_,?_⟩
   ·rw [a2,List.mem_append,List.mem_singleton,List.mem_cons,or_assoc]
   ·rw [List.length_append,List.length_singleton] at a3;rw [List.length_cons];omega
   ·rw [List.length_append,List.length_singleton,List.append_assoc] at a4
    rw [← show [n]++ns=n :: ns from rfl,← a4,List.length_append,List.length_singleton]
    omega
theorem nU (ns:List Int):(bR ns).length≤ns.length:=by
 have:=(dE ns [] (by simp)).2.2.1
 unfold bR
 simpa using this
theorem iR (ns:List Int):(bR ns).length < ns.length↔¬ ns.Nodup:=by
 have h:=(dE ns [] (by simp)).2.2.2
 have e:=nU ns
 unfold bR at *
 simp only [List.length_nil,Nat.zero_add,List.nil_append] at h
 rw [← h]
 omega
def BZ (K:Fg):List V->Hp->VK->Prop:=fun xs H Q=>∃ p ns,xs=[.ref p]/\aQ K H p (ns.map V.int)/\ns.length≤1000/\∀ l,H l=none->Q (.ref l) (upd H l (.set (fun k=>(bR ns).any (· == k)) (bR ns).length))
theorem qU {X:Cx} (hc:X.calm=true):b8 X (.type "set") (BZ X.K):=by
 intro pins s σ H xs us Q I r h
 obtain⟨p,ns,rfl,hq,hz,q⟩:=h
 obtain⟨u,rfl,rx⟩:=dP r
 cases rx
 obtain⟨its,r',pl,_⟩:=I.list hq
 have hl:=r'.length
 rw [List.length_map] at hl
 refine call_set_list (ns:=ns) (I.ok.hd hc) pl.isList (by simpa using ol r') (by unfold scanBound;rw [List.size_toArray];omega) fun h' tk hS hk=>?_
 rw [show its.toArray.size=ns.length from by rw [List.size_toArray];exact hl.symm,mN] at hS
 have I2:=I.laid (a:=s.heap.objs.size) (o:=.set (fun k=>(bR ns).any (· == k)) (bR ns).length) (t':=tk) (fun b o e=>hk b o (Heap.lt_size e) e) (Nat.le_refl _) hS
 exact⟨.ref s.heap.objs.size,_,I2,rfl,q _ (I.hok.fresh (Nat.le_refl _))⟩
def Cd:List V->Hp->VK->Prop:=fun xs H Q=>∃ p S n,xs=[.ref p]/\H p=some (.set S n)/\Q (.int n) H
theorem qX {X:Cx}:b8 X (.builtin "len") Cd:=by
 intro pins s σ H xs us Q I r h
 obtain⟨p,S,n,rfl,hp,q⟩:=h
 obtain⟨u,rfl,rx⟩:=dP r
 cases rx
 obtain⟨o,es,ep,t,ho,hex,hd,_,_,hb,hf,rfl⟩:=(show ObjOk X.prog X.w H s.heap p (.set S n) from I.hok p _ hp)
 have hb':es.size < 4096:=hb
 exact call_len_set ho hex hd hf (by omega) ⟨.int es.size,H,I.tok _,⟨_,rfl⟩,q⟩
def Ey (xs:Array Nat):Prop:=∀ i j (_:i < j) (hj:j < xs.size),xs[i]'(by omega) < xs[j]
def Ew (t:SetTable):Prop:=t.plain=true->t.dummies=#[]/\Ey t.place
section
variable {prog:Program} {w:World} {A:Around} {E:bu} {s:Shared}
def DU:Value->Int
 | .int n _=>n
 | _=>0
def Be (w:World) (h:Heap) (a:Addr) (ks:List Int):Prop:=∃ o es ep t,h.get? a=some o/\o.ExactSet/\o.data=.set es ep t/\(∀ e∈es.toList,∃ n u,e=(hashInt n,Value.int n u))∧
 (es.toList.map fun e=>DU e.2).Perm ks/\t.fits es.size=true/\Ew t/\t.led=!w.params.followText "set-order"
end
section
variable {prog:Program} {w:World} {A:Around} {E:bu} {s:Shared}
def Bj (w:World):Obj:={ cls:=.type "set", dict:=none,data:=.set #[] 0 (.fresh 0 0 (!w.params.followText "set-order")) }
variable {R:Result->Shared->Prop} {I:Addr} {fp wr:List Addr} {G:Array GenState->Array GenState->Prop} {n:Nat} {P:Nat->Value->Prop} {St:Nat->Shared->Prop}
end
section
variable {prog:Program} {w:World} {A:Around} {E:bu} {s:Shared}
end
namespace FS
end FS
section
variable {prog:Program} {w:World} {A:Around} {E:bu} {s:Shared}
def FQ (first:Value) (i:Nat) (a:Addr) (n ep:Nat):Obj:={ cls:=.type "set_iterator", data:=.fields #[first,.int i 0,.ref a,.int n 0,.int ep 0] }
end
end B
namespace B
open PySem PySem.Spec L2 PyProof.Rows
section
variable {prog:Program} {w:World} {A:Around} {E:bu} {s:Shared}
end
section
variable {prog:Program} {w:World} {A:Around} {E:bu} {s:Shared}
def Ev (prog:Program) (w:World) (a:Addr) (ks:List Int) (s:Shared) (It:Addr) (s1:Shared):Prop:=
 ∃ (fp:List Addr) (items:Array Value) (St:Nat->Shared->Prop),(∀ A':Around,A'.handled=none->WalksS prog w A' It fp [It] (fun a b=>b=a) items.size (fun i v=>items[i]?=some v) St)/\St 0 s1/\It∈fp/\(∀ b∈fp,b < s1.heap.objs.size/\(b=a∨s.heap.objs.size≤b))∧
  s.heap.objs.size≤It/\∃ ms,IntsAre items.toList ms/\ms.Perm ks
def E2 (t:SetTable):Nat->Nat
 | 0=>0
 | k+1=>t.place.getD k 0+1
end
open AutoSeq1 in
theorem xi (l b:Addr) (xs ys:Array Value) (n m:Nat) (od:Option Addr) (osl:Array (Option Value)) (h0:¬(!xs.isEmpty && Builtin.List.listTooLong (xs.size+ys.size))=true) (h1:xs.size≤sizeLine) (h2:xs.size+ys.size≤sizeLine+1) :
  Meets (Builtin.«list.extend» ⟨[.ref l,.ref b],[]⟩) (fun _ R s=>s.heap.get? l=some { cls:=.type "list", dict:=none,data:=.seq xs n,slots:=#[] }/\s.heap.get? b=some { cls:=.type "tuple", dict:=od,data:=.seq ys m,slots:=osl }∧
   R (.ok (.ret Value.none)) { s with heap:=s.heap.update l (Obj.mapSeq fun x=>x++ys),toks:=s.toks }):=
 .of_wp fun prog w A R s h=>by
  obtain⟨hp,g,d,tk,os⟩:=s
  obtain⟨hl,hb,h⟩:=h
  have f1:=AutoSeq1.idx_int;have f2:=AutoSeq1.sub_tuple_tuple;have f3:=AutoSeq1.sub_list_list
  have f4:=AutoSeq1.sub_tuple_list;have f5:=AutoSeq1.sub_list_tuple
  have hz':(xs++ys).size≤sizeLine+1:=by rw [Array.size_append];omega
  wp_walk using (wpAny_updateSeq hl rfl (hz:=h1) (_hz':=hz')),wpAny_loadPart' hl,wpAny_loadPart' hb
  exact⟨_,rfl,h⟩
def Ch (K:Fg):V->List V->Hp->VK->Prop:=fun x vs H Q=>∃ l b xs zs,x=.ref l/\vs=[.ref b]/\H l=some (.lst xs)/\aV K H b zs/\xs.length+zs.length≤1000/\Q .non (upd H l (.lst (xs++zs)))
theorem wQ {X:Cx}:DN X "list.extend" (Ch X.K):=by
 intro pins s σ H x vs v us Q I rx rv h
 obtain⟨l,b,xs,zs,rfl,rfl,hH,hB,hz,q⟩:=h
 cases rx
 obtain⟨u,rfl,ru⟩:=rv.one
 cases ru
 obtain⟨z,its,n,r,hl,e⟩:=I.lstM hH
 obtain⟨its2,r2,⟨⟨oc,od,dt,sl⟩,e2,hc,n2,hd⟩,z2⟩:=I.tuple hB
 have hc':oc=.type "tuple" := hc
 have hd':dt=.seq its2.toArray n2:=hd
 subst hc' hd'
 have l1:=r.length
 have l2:=r2.length
 have big:1000≤sizeLine:=by decide
 have hsz:its.toArray.size+its2.toArray.size≤sizeLine:=by rw [List.size_toArray,List.size_toArray];omega
 have hlong:¬ (!its.toArray.isEmpty && Builtin.List.listTooLong (its.toArray.size+its2.toArray.size))=true:=by
  rw [ml hsz,Bool.and_false]
  decide
 refine call_meets F.slot_list_extend ⟨_,e,rfl⟩ F.entry_list_extend (F.args_list_extend_2 _ _) (xi l b its.toArray its2.toArray n n2 od sl hlong (by rw [List.size_toArray];omega) (by omega)) ⟨e,e2,?_⟩
 refine⟨.non,_,I.lset (its':=its++its2) hH e (by simp) (r.append r2) ?_,rfl,q⟩
 rw [List.length_append]
 omega
def E7 (K:Fg):List V->Hp->VK->Prop:=fun xs H Q=>∃ p ns,xs=[.ref p]/\(aQ K H p (ns.map V.int)∨aV K H p (ns.map V.int))/\ns.length < 64/\∀ (l:Addr) (ms:List Int),ms.Perm ns->ms.Pairwise (·≤·)->H l=none->Q (.ref l) (upd H l (.lst (ms.map V.int)))
section
variable {prog:Program} {w:World} {A:Around} {E:bu} {s:Shared}
end
def BQ (w:World) (a:Addr) (ks:List Int):HO:=.ext fun h=>Be w h a ks
def E8 (w:World) (K:Fg):List V->Hp->VK->Prop:=fun xs H Q=>∃ p ns,xs=[.ref p]/\(aQ K H p (ns.map V.int)∨aV K H p (ns.map V.int))/\ns.length≤1000/\∀ l,H l=none->Q (.ref l) (upd H l (BQ w l (bR ns)))
def Ea (w:World):List V->Hp->VK->Prop:=fun xs H Q=>∃ p ks,xs=[.ref p]/\H p=some (BQ w p ks)/\ks.length < 64/\∀ (l:Addr) (ms:List Int),ms.Perm ks->ms.Pairwise (·≤·)->H l=none->Q (.ref l) (upd H l (.lst (ms.map V.int)))
def EQ (ta:TA):TE:=fun σ H Q=>ta σ H fun vs H1=>∃ i j:Int,vs=[.int i,.int j]/\∀ p,H1 p=none->Q (.ref p) (upd H1 p (.rng i j))
def Dz:R2:=fun x y H Q=>∃ (i:Int) (p:Addr) (lo hi:Int),x=.int i/\y=.ref p/\H p=some (.rng lo hi)/\Q (.bl (!(decide (lo≤i) && decide (i < hi)))) H
section
set_option autoImplicit true
set_option relaxedAutoImplicit true
end
def CZ (lo n:Nat):List Nat:=(List.range n).map fun i=>lo+i
def FZ:List V->Hp->VK->Prop:=fun xs H Q=>∃ p,∃ lo n:Nat,xs=[.ref p]/\H p=some (.rng (lo:Int) ((lo+n:Nat):Int))/\lo+n≤1000/\∀ l,H l=none->Q (.ref l) (upd H l (.lst ((CZ lo n).map fun i:Nat=>V.int i)))
theorem rh:bootBuiltins "set" = some (.type "set"):=by kernel_rfl
theorem jV {α β:Type} {K:Fg} {H:Hp} {D a:Addr} {xs:List V} {ds:List α} {P:Hp->V->β->Prop} {f:α->β} {src:List (Option Nat)} {σ:L2.St} {g:TG} {tt:TT} {te:TE} {Q:Hp->Prop}
  (mono:∀ H H' v d,aI K H H'->P H v d->P H' v d) (hD:H D=none) (hS:aQ K H a xs) (hl:xs.length=ds.length) (hn:ds.length≤1000)
  (turn:∀ (i:Nat) (x:V) (d:α) (H':Hp),xs[i]?=some x->ds[i]?=some d->aA H H'->∀ (R:VK) (E:Hp->Prop),(∀ v H'',aA H' H''->P H'' v (f d)->R v H'')→
   g x (bw src σ) H' fun σ2 H2=>dz (bw src σ) σ2/\tt σ2 H2 fun ok H3=>if ok=true then te σ2 H3 R else E H3)
  (fin:∀ H' ys,aA H H'->H' D=some (.lst ys)->cv (P H') ys (ds.map f)->Q H') :
  ∃ W:Nat->Nat->List V->Hp->Prop,(∃ m,W 0 m [] (upd H D (.lst [])))/\∀ i m ys H,W i m ys H->((pP K a).stop i H/\Q H)∨((pP K a).go i H/\∀ x H',(pP K a).yld i H x H'→
   g x (bw src σ) H' fun σ2 H2=>dz (bw src σ) σ2/\tt σ2 H2 fun ok H3=>
    if ok=true then te σ2 H3 fun y H4=>H4 D=some (.lst ys)/\ys.length < sizeLine/\∃ m',m' < m/\W (i+1) m' (ys++[y]) (upd H4 D (.lst (ys++[y]))) else ∃ m',m' < m/\W (i+1) m' ys H3):=by
 refine⟨fun i m ys H'=>i≤ds.length/\m=ds.length - i/\H' D=some (.lst ys)/\aA H H'/\cv (P H') ys ((ds.take i).map f),⟨_,Nat.zero_le _,rfl,ai,ak hD _,.nil⟩,?_⟩
 rintro i m ys H1 ⟨hi,rfl,d1,s1,al1⟩
 have hS1:aQ K H1 a xs:=s1.seq hS
 by_cases hix:i < ds.length
 ·have hx0:xs[i]?=some (xs[i]'(by omega)):=List.getElem?_eq_getElem _
  refine .inr ⟨⟨xs,_,hS1,hx0⟩,?_⟩
  rintro x H2 ⟨rfl,hy⟩
  have hx:=hy xs hS1
  obtain⟨d,hd⟩:∃ d,ds[i]?=some d:=⟨_,List.getElem?_eq_getElem hix⟩
  refine turn i x d _ hx hd s1 _ _ fun v H3 s3 p3=>?_
  have d3:H3 D=some (.lst ys):=s3 _ _ d1
  have tm:aI K H2 (upd H3 D (.lst (ys++[v]))):=(aI.same s3).trans (aI.up d3 _)
  refine⟨d3,bA (by rw [al1.len,List.length_map,List.length_take];omega),ds.length - (i+1),by omega,hix,rfl,ai,fun b o q=>?_,?_⟩
  ·rw [aw (aM q hD)]
   exact s3 _ _ (s1 _ _ q)
  ·rw [List.take_add_one,hd,List.map_append]
   exact (al1.mono fun v d p=>mono _ _ _ _ tm p).snoc (mono _ _ _ _ (aI.up d3 _) p3)
 ·have e:i=ds.length:=by omega
  subst e
  rw [List.take_length] at al1
  exact .inl ⟨⟨xs,hS1,by omega⟩,fin H1 ys s1 d1 al1⟩
def E1 (te:TE) (i:Nat):TS:=fun D σ H=>te σ H fun x H1=>∃ σ',σ.set i (some x)=σ'/\D.nx σ' H1
section
variable {prog:Program} {w:World} {A:Around} {E:bu} {s:Shared}
end
section
variable {X:Cx} {pins:bo} {σ:L2.St} {H:Hp} {A:Around} {E:bu} {a kS:Addr} {vs:List Value} {kz:List Int} {f:Value} {e1:Nat}
def DO (X:Cx) (σ:L2.St) (H:Hp) (A:Around) (f:Value) (vs:List Value) (kz:List Int):Prop:=
 ∀ (i:Nat) (v:Value) (k:Int),vs[i]?=some v->kz[i]?=some k->∀ (pins:bo) (s:Shared),Inv X pins σ H s→
  wpAny (model X.prog X.w) A (call f [v]) (fun u s2=>(∃ t,u=.int k t)/\Inv X pins σ H s2) (fun _ _=>False) s
end
def zv (sp:Sp) (key:Nat->Int):List V->Hp->VK->Prop:=fun xs H Q=>∃ (p:Addr) (n:Nat),xs=[.ref p]/\H p=some (.rng 0 n)/\n < 64/\(∀ i < n,∀ (Qk:VK),Qk (.int (key i)) H->sp [.int (i:Nat)] H Qk fun _ _ _=>False)∧
 ∀ (l:Addr) (ms:List Nat),ms.Perm (List.range n)->ms.Pairwise (fun a b=>key a≤key b)->H l=none->Q (.ref l) (upd H l (.lst (ms.map fun i:Nat=>V.int i)))
def DY (sp:Sp) (key:Nat->Int) (t:TA):TE:=fun σ H Q=>t σ H fun vs H1=>zv sp key vs H1 Q
def E9:V->List V->Hp->VK->Prop:=fun x vs H Q=>∃ (l:Addr) (ns:List Nat) (j k:Nat),x=.ref l/\vs=[.int (k:Int)]/\H l=some (.lst (ns.map fun i:Nat=>V.int i))/\ns[j]?=some k/\(∀ m,m < j->ns[m]?≠some k)/\Q .non (upd H l (.lst ((ns.eraseIdx j).map fun i:Nat=>V.int i)))
def GG (k:Int):Value->Bool
 | .int i _=>i == k
 | _=>false
def GK (X:Cx) (N':List Str) (scope:Scope) (y:Str) (cl:List (Str×Addr)) (C:Addr) (fp:List Addr) (pins:bo) (s:Shared) (H:Hp):Cx:=
 { X with N:=N',s₀:=s,H₀:=H,env:=compEnvC scope ((y,C+1) :: cl) C X.env,outer:=X.stack,stack:=X.stack,ex:=fp,fn:=fun z=>z == y,pn:=X.pn++pins,xe:=fun _ _=>False }
structure EF (X:Cx) (scope:Scope) (y:Str) (cl:List (Str×Addr)):Prop where
 has:∀ x,((compEnvC scope cl 0 X.env).kindOf x=some .cell∨(compEnvC scope cl 0 X.env).kindOf x=some .free)->x=y∨∃ c,cl.lookup x=some c
 up:∀ x c,cl.lookup x=some c->X.env.cells.lookup x=some c
 no:cl.lookup y=none
section
variable {M:Model} {A:Around} {E:bu} {s:Shared}
end
section
variable {X:Cx} {N':List Str} {scope:Scope} {y:Str} {cl:List (Str×Addr)} {src:List (Option Nat)} {pins:bo} {σ:L2.St} {H:Hp} {s:Shared} {fp:List Addr}
end
section
variable {X:Cx} {N':List Str} {scope:Scope} {y:Str} {cl:List (Str×Addr)} {src:List (Option Nat)} {tg iter elt:Expr} {ifs:List Expr} {wi:TI} {g:TG} {tt:TT} {te:TE} {pos:Pos}
end
section
variable {X:Cx} {N':List Str} {scope:Scope} {y:Str} {cl:List (Str×Addr)} {src:List (Option Nat)} {tg iter elt:Expr} {ifs:List Expr} {wi:TI} {g:TG} {tt:TT} {te:TE} {pos:Pos}
theorem wJ {K:Fg} {k:Nat} (hK:X.K=K) (hr:cc k X.A):dN X (compareOp .NotEq) (Cc K):=hK ▸ iQ hr
end
structure db (K:Fg) (n:Str) (st:Stmt) (f:Addr) (d:FuncData):Prop where
 p:PySem.W.nsIn K mainGlobals n=some (some (.ref f))
 F:Fun K n n st f d
section
variable {K:Fg} {n:Str} {st:Stmt} {f:Addr} {d:FuncData}
theorem isF {oc:Value} {od an:Option Addr} {sl:Array (Option Value)} {kV dc pm cd ct:Value} (p:PySem.W.nsIn K mainGlobals n=some (some (.ref f)))
  (l:K.lookup f=some ⟨oc,od,.func (PySem.W.fnOf n n (da st) (cI st) (au st) .none kV dc pm an cd ct),sl⟩) (c:PySem.W.codeIn K cd n=true) (k:PySem.W.keepIn K (.ref f)=true) :
  db K n st f (PySem.W.fnOf n n (da st) (cI st) (au st) .none kV dc pm an cd ct):=⟨p,uR l c k⟩
abbrev BA (n:Str) (st:Stmt) (us:List Value) (ps:List Str):Prop:=∀ (kV dc pm:Value) (an:Option Addr) (cd ct:Value),bindArgs (PySem.W.fnOf n n (da st) (cI st) (au st) .none kV dc pm an cd ct) ⟨us,[]⟩=pure (ps.zip us)
theorem db.b1 {x:Str} (I:db K n st f d) (h:∀ u,BA n st [u] [x]:=by exact fun _ _ _ _ _ _ _=>rfl):aS K d [x] []:=I.F.binds fun a b c e g i us hl=>match us,hl with | [u],_=>h u a b c e g i
theorem db.b2 {x y:Str} (I:db K n st f d) (h:∀ u v,BA n st [u,v] [x,y]:=by exact fun _ _ _ _ _ _ _ _=>rfl):aS K d [x,y] []:=I.F.binds fun a b c e g i us hl=>match us,hl with | [u,v],_=>h u v a b c e g i
theorem db.b3 {x y z:Str} (I:db K n st f d) (h:∀ u v w,BA n st [u,v,w] [x,y,z]:=by exact fun _ _ _ _ _ _ _ _ _=>rfl):aS K d [x,y,z] []:=I.F.binds fun a b c e g i us hl=>match us,hl with | [u,v,w],_=>h u v w a b c e g i
theorem db.b4 {x y z t:Str} (I:db K n st f d) (h:∀ u v w r,BA n st [u,v,w,r] [x,y,z,t]:=by exact fun _ _ _ _ _ _ _ _ _ _=>rfl):aS K d [x,y,z,t] []:=I.F.binds fun a b c e g i us hl=>match us,hl with | [u,v,w,r],_=>h u v w r a b c e g i
end
theorem aj {X:Cx} {st:Stmt} {bT:List Stmt} {t u:TS} (h1:QS X st t) (h2:cM X bT u):cM X (st :: bT) (let Uq:=u;yO t Uq):=tE h1 h2
theorem iU {h h':Heap} {a:Addr} {ys:Array Value} (x:h.IsList a ys) (k:∀ o,h.get? a=some o->h'.get? a=some o):h'.IsList a ys:=let ⟨o,e,r⟩:=x;⟨o,k o e,r⟩
theorem em {h:Heap} {i a:Addr} {n:Nat} (x:h.IsListIter i a n):i < h.objs.size:=let ⟨_,e,_⟩:=x;Heap.lt_size e
def Di (K:Fg) (a b:Addr):It:=
 ⟨fun i H=>∃ xs ys x y,aQ K H a xs/\aV K H b ys/\xs[i]?=some x/\ys[i]?=some y,
  fun i H v H'=>∃ p x y,H p=none/\v=.ref p/\H'=upd H p (.tup [x,y])/\(∀ xs,aQ K H a xs->xs[i]?=some x)/\∀ ys,aV K H b ys->ys[i]?=some y,
  fun i H=>∃ xs ys,aQ K H a xs/\aV K H b ys/\(xs.length≤i∨ys.length≤i)⟩
def Fm (z TI TO i1 i2 a b:Addr) (i:Nat) (h:Heap):Prop:=IsZip h z TI TO .none/\IsPair h TI (.ref i1) (.ref i2)/\(∃ u v,IsPair h TO u v)/\h.IsListIter i1 a i/\h.IsTupleIter i2 b i
abbrev Bv (h:Heap) (a:Addr):Heap:=h.push { cls:=.type "list_iterator", data:=.fields #[.ref a,.int 0 0] }
abbrev Bu (h:Heap) (a b:Addr):Heap:=(Bv h a).push { cls:=.type "tuple_iterator", data:=.fields #[.ref b,.int 0 0] }
abbrev Bt (h:Heap) (a b:Addr):Heap:=(Bu h a b).push { cls:=.type "tuple", data:=.seq #[.ref h.objs.size,.ref (Bv h a).objs.size] }
abbrev DR (h:Heap) (a b:Addr):Heap:=(Bt h a b).push { cls:=.type "tuple", data:=.seq #[.none,.none] }
abbrev Fy (h:Heap) (a b:Addr):Heap:=(DR h a b).push { cls:=.type "zip", data:=.fields #[.none,.bool false,.bool false,.ref (Bu h a b).objs.size,.ref (Bt h a b).objs.size] }
def Ep (K:Fg) (ta:TA):TI:=fun σ H R=>ta σ H fun vs H1=>∃ a b,vs=[.ref a,.ref b]/\(∃ xs,aQ K H1 a xs)/\(∃ ys,aV K H1 b ys)/\R (Di K a b) H1
def m7 (K:Fg) (a b:Addr):It:=
 ⟨fun i H=>∃ xs ys x y,aQ K H a xs/\aQ K H b ys/\xs[i]?=some x/\ys[i]?=some y,
  fun i H v H'=>∃ p x y,H p=none/\v=.ref p/\H'=upd H p (.tup [x,y])/\(∀ xs,aQ K H a xs->xs[i]?=some x)/\∀ ys,aQ K H b ys->ys[i]?=some y,
  fun i H=>∃ xs ys,aQ K H a xs/\aQ K H b ys/\(xs.length≤i∨ys.length≤i)⟩
def C6 (z TI TO i1 i2 a b:Addr) (i:Nat) (h:Heap):Prop:=IsZip h z TI TO .none/\IsPair h TI (.ref i1) (.ref i2)/\(∃ u v,IsPair h TO u v)/\h.IsListIter i1 a i/\h.IsListIter i2 b i
theorem np {P:Program} {w:World} {K:Fg} {elts:List Expr} {x1} {pos:Pos} {z TI TO i1 i2 a b:Addr} (D:xN z TI TO i1 i2) :
  m5 P w K (.Tuple elts x1 pos) (m7 K a b) [z,TI,TO,i1,i2] z (C6 z TI TO i1 i2 a b) where
 mem:=by simp
 obj:=fun i h st c hc=>by
  obtain⟨h1,h2,⟨u,v,h3⟩,⟨o4,h4,c4,d4⟩,⟨o5,h5,c5,d5⟩⟩:=st
  simp only [List.mem_cons,List.not_mem_nil,or_false] at hc
  rcases hc with rfl | rfl | rfl | rfl | rfl
  ·exact⟨_,h1,fun v q=>by cases (show Data.fields _=Data.cell v from q)⟩
  ·exact⟨_,h2,fun v q=>by cases (show Data.seq _ _=Data.cell v from q)⟩
  ·exact⟨_,h3,fun v q=>by cases (show Data.seq _ _=Data.cell v from q)⟩
  ·exact⟨o4,h4,fun v q=>by rw [d4] at q;cases q⟩
  ·exact⟨o5,h5,fun v q=>by rw [d5] at q;cases q⟩
 keep:=fun i h h' st k=>by
  obtain⟨h1,h2,⟨u,v,h3⟩,h4,h5⟩:=st
  exact⟨k z (by simp) _ h1,k TI (by simp) _ h2,⟨u,v,k TO (by simp) _ h3⟩,bD h4 fun o e=>k i1 (by simp) o e,bD h5 fun o e=>k i2 (by simp) o e⟩
 item:=by
  intro X hP hw hK hc i pins s σ H E I hf st hg
  subst hP hw hK
  obtain⟨xs,ys,x,y,q1,q2,hx,hy⟩:=hg
  obtain⟨its,rv,p1,z1⟩:=I.list q1
  obtain⟨jts,rw',p2,z2⟩:=I.list q2
  obtain⟨u,hu,ru⟩:=rv.get hx
  obtain⟨v,hv,rv2⟩:=rw'.get hy
  have off1:∀ c∈[z,TI,TO,i1,i2],a≠c:=fun c hc=>eY I q1 (hf c hc)
  have off2:∀ c∈[z,TI,TO,i1,i2],b≠c:=fun c hc=>eY I q2 (hf c hc)
  obtain⟨h1,h2,⟨o1,o2,h3⟩,h4,h5⟩:=st
  have hT:s.TypeIs (.ref z) "zip" := ⟨_,h1,rfl⟩
  unfold pyNext
  refine wpAny_bind (wpAny_attempt (wpAny_callSpecial?_slot (name:=Str.ofString "__next__") hT F.slot_zip_next
   (wpAny_call_entry F.slot_zip_next hT F.entry_zip_next ?_ (F.args_zip_next_1 _))))
  refine rH (x:=u) (y:=v) (A1:=fun h=>h.IsListIter i1 a (i+1)) (A2:=fun h=>h.IsListIter i2 b (i+1)) D h1 h2 h3 ?_ ?_ (em h4) (em h5) ?_
  ·intro s' G E' k g
   exact wpAny_nextOf_list_item (bD h4 fun o e=>k _ o D.a3 e) (iU (show s.heap.IsList a its.toArray from p1.isList) fun o e=>k _ o (off1 z (by simp)) e) (by simpa using hu) g
  ·intro s' G E' k g
   exact wpAny_nextOf_list_item (bD h5 fun o e=>k _ o D.a4 (Ne.symm D.a9) (Ne.symm D.b1) e) (iU (show s.heap.IsList b jts.toArray from p2.isList) fun o e=>k _ o (off2 z (by simp)) (off2 TO (by simp)) (off2 i1 (by simp)) e) (by simpa using hv) g
  ·intro g1 g2 h' a1 a2 k1 k2 zz po pn sz kk
   refine wpAny_pure ⟨_,rfl,?_⟩
   refine wpAny_letOwnedTupleGo_zip zz fun h'' z3 sb=>?_
   have nz:s.heap.objs.size≠z:=Nat.ne_of_gt (Heap.lt_size h1)
   have hp:H s.heap.objs.size=none:=I.fresh
   have P:ObjOk X.prog X.w (upd H s.heap.objs.size (.tup [x,y])) h'' s.heap.objs.size (.tup [x,y]):=
    ⟨by show 2≤sizeLine;decide,[u,v],.cons ru (.cons rv2 .nil),⟨_,sb.extBut _ _ nz pn,rfl,_,rfl⟩⟩
   have I2:Inv X pins σ (upd H s.heap.objs.size (.tup [x,y])) { s with heap:=h'',toks:=s.toks }:=ij I (fun c o n e=>by
    have n':c∉[z,TO,i1,i2]:=fun q=>n (by
     simp only [List.mem_cons,List.not_mem_nil,or_false] at q ⊢
     rcases q with q | q | q | q <;> simp [q])
    exact sb.extBut _ _ (fun q=>n (by simp [q])) (kk c o n' e)) hf (Nat.le_refl _) P
   refine⟨.ref s.heap.objs.size,_,I2,rfl,⟨_,x,y,hp,rfl,rfl,fun zs hz=>by rw [I.list_inj hz q1];exact hx,fun zs hz=>by rw [I.list_inj hz q2];exact hy⟩,⟨z3,?_,⟨u,v,?_⟩,?_,?_⟩,fun c hc=>?_⟩
   ·refine sb.extBut _ _ D.a1 (kk TI _ ?_ h2)
    have:=D.a1;have:=D.a5;have:=D.a6;have:=D.a7
    simp only [List.mem_cons,List.not_mem_nil,or_false,not_or]
    exact⟨D.a1,D.a5,D.a6,D.a7⟩
   ·exact sb.extBut _ _ D.a2 po
   ·exact bD a1 fun o e=>sb.extBut _ _ D.a3 (k1 _ o D.a3 (Ne.symm D.a8) D.b1 e)
   ·exact bD a2 fun o e=>sb.extBut _ _ D.a4 (k2 _ o D.a4 (Ne.symm D.a9) e)
   ·have lt:c < s.heap.objs.size:=by
     simp only [List.mem_cons,List.not_mem_nil,or_false] at hc
     rcases hc with rfl | rfl | rfl | rfl | rfl
     ·exact Heap.lt_size h1
     ·exact Heap.lt_size h2
     ·exact Heap.lt_size h3
     ·exact em h4
     ·exact em h5
    rw [aw (Nat.ne_of_lt lt)]
    exact (hf c hc).1
 done:=by
  intro X hP hw hK hc i pins s σ H E I hf st hg
  subst hP hw hK
  obtain⟨xs,ys,q1,q2,hd⟩:=hg
  obtain⟨its,rv,p1,z1⟩:=I.list q1
  obtain⟨jts,rw',p2,z2⟩:=I.list q2
  have l1:=rv.length
  have l2:=rw'.length
  have off1:∀ c∈[z,TI,TO,i1,i2],a≠c:=fun c hc=>eY I q1 (hf c hc)
  have off2:∀ c∈[z,TI,TO,i1,i2],b≠c:=fun c hc=>eY I q2 (hf c hc)
  obtain⟨h1,h2,⟨o1,o2,h3⟩,h4,h5⟩:=st
  have hT:s.TypeIs (.ref z) "zip" := ⟨_,h1,rfl⟩
  have hh:X.A.in1.handled=none:=I.ok.hd hc
  unfold pyNext
  refine wpAny_bind (wpAny_attempt (wpAny_callSpecial?_slot (name:=Str.ofString "__next__") hT F.slot_zip_next
   (wpAny_call_entry F.slot_zip_next hT F.entry_zip_next ?_ (F.args_zip_next_1 _))))
  refine rG D h1 h2 h3 ?_ fun h' e kk he=>?_
  ·cases e:its.toArray[i]? with
   | none=>
    refine .inl fun s' G E' k g=>?_
    exact wpAny_nextOf_list_end hh (bD h4 fun o e=>k _ o D.a3 e) (iU (show s.heap.IsList a its.toArray from p1.isList) fun o e=>k _ o (off1 z (by simp)) e) e g
   | some u=>
    refine .inr ⟨⟨u,fun s' G E' k g=>?_⟩,fun s' G E' k g=>?_⟩
    ·exact wpAny_nextOf_list_item (bD h4 fun o e=>k _ o D.a3 e) (iU (show s.heap.IsList a its.toArray from p1.isList) fun o e=>k _ o (off1 z (by simp)) e) e fun h' _ sb=>g h' sb
    ·have hi:i < its.length:=by
      have:=(Array.getElem?_eq_some_iff.mp e).1
      simpa using this
     exact wpAny_nextOf_list_end hh (bD h5 fun o e=>k _ o D.a4 (Ne.symm D.a9) (Ne.symm D.b1) e) (iU (show s.heap.IsList b jts.toArray from p2.isList) fun o e=>k _ o (off2 z (by simp)) (off2 TO (by simp)) (off2 i1 (by simp)) e)
      (by rw [Array.getElem?_eq_none_iff];simp;omega) g
  ·obtain⟨o,ho,hc'⟩:=he
   refine wpAny_bind (wpAny_isInstance (T := "StopIteration") (b:=true) ⟨o,ho,hc'⟩ isSubtype_stop ?_)
   refine wpAny_pure ⟨rfl,?_⟩
   exact ik (t':=s.toks) I (fun c o n e=>kk c o (fun q=>n (by
     simp only [List.mem_cons,List.not_mem_nil,or_false] at q ⊢
     rcases q with q | q | q | q <;> simp [q])) e) hf
 self:=fun _ _ _ _ _ st h=>wpAny_pyIter_zip st.1 h
abbrev vx (h:Heap) (a:Addr):Heap:=h.push { cls:=.type "list_iterator", data:=.fields #[.ref a,.int 0 0] }
abbrev vw (h:Heap) (a b:Addr):Heap:=(vx h a).push { cls:=.type "list_iterator", data:=.fields #[.ref b,.int 0 0] }
abbrev vv (h:Heap) (a b:Addr):Heap:=(vw h a b).push { cls:=.type "tuple", data:=.seq #[.ref h.objs.size,.ref (vx h a).objs.size] }
abbrev vt (h:Heap) (a b:Addr):Heap:=(vv h a b).push { cls:=.type "tuple", data:=.seq #[.none,.none] }
abbrev lE (h:Heap) (a b:Addr):Heap:=(vt h a b).push { cls:=.type "zip", data:=.fields #[.none,.bool false,.bool false,.ref (vw h a b).objs.size,.ref (vv h a b).objs.size] }
theorem pR (a b:Addr) (xs ys:Array Value):Meets (Builtin.«zip.__new__» ⟨[.type "zip", .ref a,.ref b],[]⟩) (fun _ R s=>s.heap.IsList a xs/\s.heap.IsList b ys∧
  R (.ok (.ret (.ref (vt s.heap a b).objs.size))) { s with heap:=lE s.heap a b }):=
 .of_wp fun prog w A R s h=>by
  obtain⟨hp,g,d,tk,os⟩:=s;obtain⟨l1,l2,h⟩:=h
  have zsub:=sub_zip
  have L1:Heap.IsList (Shared.heap ⟨hp,g,d,tk,os⟩) a xs:=l1
  have L2:Heap.IsList (Shared.heap ⟨hp.push { cls:=.type "list_iterator", data:=.fields #[.ref a,.int 0 0] },g,d,tk,os⟩) b ys:=Heap.IsList.push l2 _
  wp_walk using wpAny_pyIter_list L1,wpAny_pyIter_list L2
  exact⟨_,rfl,h⟩
def uG (K:Fg) (ta:TA):TI:=fun σ H R=>ta σ H fun vs H1=>∃ a b,vs=[.ref a,.ref b]/\(∃ xs,aQ K H1 a xs)/\(∃ ys,aQ K H1 b ys)/\R (m7 K a b) H1
theorem tZ {X:Cx} {elts:List Expr} {x1} {tp p pos:Pos} {a b:Expr} {ta:TA} (hg:Gl X "zip") (hm:X.mg "zip" = none) (ha:PA X [a,b] ta) (hs:starEach [a,b] X.env=[(false,eval a X.env),(false,eval b X.env)]:=by rfl) (hs2:starEach [b] X.env=[(false,eval b X.env)]:=by rfl) :
  PI X (.Tuple elts x1 tp) (.Call (.Name "zip" p) [a,b] [] pos) (uG X.K ta):=by
 intro pins s σ H R I h
 refine Call_ (eU I hg hm (show bootBuiltins "zip" = some (.type "zip") by kernel_rfl) (PyProof.Rows.callWith_type1 (bF (ha pos pins s σ H _ I h) fun us s1 ⟨vs,H1,I1,r1,q1⟩=>?_) (by rw [hs,hs2]) (by rw [hs2];rfl)))
 obtain⟨a,b,e,⟨xs,hx⟩,⟨ys,hy⟩,q⟩:=q1
 subst e
 obtain⟨u,v,rfl,ru,rv⟩:=jD r1
 cases ru;cases rv
 obtain⟨its,_,p1,_⟩:=I1.list hx
 obtain⟨jts,_,p2,_⟩:=I1.list hy
 refine callType_new F.called_zip (by decide) (F.typeCall_zip_2 _ _) (F.newCall_zip_2 _ _) (fun obj=>F.args_object_init_3 obj _ _) F.entry_zip_new (pR a b its.toArray jts.toArray) ⟨p1.isList,p2.isList,?_⟩
 have e1:(vx s1.heap a).objs.size=s1.heap.objs.size+1:=Heap.size_push ..
 have e2:(vw s1.heap a b).objs.size=s1.heap.objs.size+2:=by rw [Heap.size_push,e1]
 have e3:(vv s1.heap a b).objs.size=s1.heap.objs.size+3:=by rw [Heap.size_push,e2]
 have e4:(vt s1.heap a b).objs.size=s1.heap.objs.size+4:=by rw [Heap.size_push,e3]
 have g5:(lE s1.heap a b).get? (vt s1.heap a b).objs.size=some _:=Heap.get?_push_size _ rfl
 have g4:(lE s1.heap a b).get? (vv s1.heap a b).objs.size=some _:=Heap.get?_push_of_some _ (Heap.get?_push_size _ rfl)
 have g3:(lE s1.heap a b).get? (vw s1.heap a b).objs.size=some _:=Heap.get?_push_of_some _ (Heap.get?_push_of_some _ (Heap.get?_push_size _ rfl))
 have g2:(lE s1.heap a b).get? (vx s1.heap a).objs.size=some _:=Heap.get?_push_of_some _ (Heap.get?_push_of_some _ (Heap.get?_push_of_some _ (Heap.get?_push_size _ rfl)))
 have g1:(lE s1.heap a b).get? s1.heap.objs.size=some _:=Heap.get?_push_of_some _ (Heap.get?_push_of_some _ (Heap.get?_push_of_some _ (Heap.get?_push_of_some _ (Heap.get?_push_size _ rfl))))
 have kk:∀ c o,s1.heap.get? c=some o->(lE s1.heap a b).get? c=some o:=fun c o x=>Heap.get?_push_of_some _ (Heap.get?_push_of_some _ (Heap.get?_push_of_some _ (Heap.get?_push_of_some _ (Heap.get?_push_of_some _ x))))
 show _/\_
 rw [e2,e3,e4] at g5
 rw [e1,e2] at g3
 rw [e3] at g4
 rw [e1] at g2
 rw [e4]
 generalize lE s1.heap a b=hE at g1 g2 g3 g4 g5 kk
 refine⟨⟨_,g5,rfl⟩,wpAny_pyIter_zip g5 ?_⟩
 have I2:Inv X pins σ H1 { s1 with heap:=hE }:=I1.kept (t':=s1.toks) kk
 refine⟨_,_,_,_,H1,rfl,I2,np (uS s1.heap.objs.size),⟨g5,g3,⟨_,_,g4⟩,⟨_,g1,rfl,rfl⟩,⟨_,g2,rfl,rfl⟩⟩,fun c hc=>?_,q⟩
 have le:s1.heap.objs.size≤c:=by
  simp only [List.mem_cons,List.not_mem_nil,or_false] at hc
  rcases hc with h | h | h | h | h <;> (rw [h];first | exact Nat.le_refl _ | exact Nat.le_add_right _ _)
 exact I1.fpOk le (I1.hok.fresh le)
section
variable {prog:Program} {w:World} {A:Around} {E:bu}
end
section
variable {prog:Program} {w:World} {A:Around} {E:bu} {s:Shared}
end
structure Da (K:Fg) (H:Hp) (ys:List V) (kvs:List (List bS×V)):Prop where
 len:ys.length=kvs.length
 row:∀ (i:Nat) (kv:List bS×V),kvs[i]?=some kv->∃ r b,ys[i]?=some (.ref r)/\aV K H r [.ref b,kv.2]/\H b=some (.tup (kv.1.map kV))
 nd:(kvs.map (·.1)).Nodup
def Ej (K:Fg):List V->Hp->VK->Prop:=fun vs H Q=>∃ (p:Addr) (ob:Obj) (ys:List V) (kvs:List (List bS×V)),vs=[.ref p]/\H p=some (.frz ob (.tup ys))/\ob.dict=none/\Da K H ys kvs/\∀ l,H l=none->Q (.ref l) (upd H l (.dT kvs))
def E6 (K:Fg):List V->Hp->VK->Prop:=fun vs H Q=>∃ (p:Addr) (ys:List V),vs=[.ref p]/\aQ K H p ys/\∀ (l:Addr) (ob:Obj),H l=none->ob.dict=none->Q (.ref l) (upd H l (.frz ob (.tup ys)))
theorem qL {K:Fg} {a b:Addr} {xs ys:List V} {n:Nat} {g:TG} {tb:TS} {D:fN} {σ:L2.St} {H:Hp} (Pv:Nat->L2.St->Hp->Prop) (h1:n≤xs.length) (h2:n≤ys.length) (h3:xs.length≤n∨ys.length≤n) (h0:Pv 0 σ H)
  (hl:∀ i σ H,i≤n->Pv i σ H->aQ K H a xs/\aQ K H b ys)
  (hs:∀ i x y p σ H,i < n->xs[i]?=some x->ys[i]?=some y->Pv i σ H->H p=none->g (.ref p) σ (upd H p (.tup [x,y])) fun σ2 H2=>tb { D with nx:=Pv (i+1),ct:=Pv (i+1),bk:=D.nx } σ2 H2) (hd:∀ σ H,Pv n σ H->D.nx σ H) :
  ∃ W:Nat->Nat->L2.St->Hp->Prop,(∃ m,W 0 m σ H)/\∀ i m σ H,W i m σ H→
   ((m7 K a b).stop i H/\D.nx σ H)∨((m7 K a b).go i H/\∃ N:L2.St->Hp->Prop,(∀ σ' H',N σ' H'->∃ m',m' < m/\W (i+1) m' σ' H')/\∀ x H',(m7 K a b).yld i H x H'->g x σ H' fun σ2 H2=>tb { D with nx:=N,ct:=N,bk:=D.nx } σ2 H2):=by
 refine⟨fun i m σ H=>m=n - i/\i≤n/\Pv i σ H,⟨n,by simp,Nat.zero_le _,h0⟩,?_⟩
 rintro i m σ H ⟨rfl,hi,p⟩
 obtain⟨q1,q2⟩:=hl i σ H hi p
 by_cases hlt:i < n
 ·have e1:xs[i]?=some (xs[i]'(by omega)):=List.getElem?_eq_getElem _
  have e2:ys[i]?=some (ys[i]'(by omega)):=List.getElem?_eq_getElem _
  refine .inr ⟨⟨xs,ys,_,_,q1,q2,e1,e2⟩,Pv (i+1),fun σ' H' p'=>⟨n - (i+1),by omega,rfl,hlt,p'⟩,fun x H' y=>?_⟩
  obtain⟨pp,x0,y0,hp,rfl,rfl,y1,y2⟩:=y
  exact hs i x0 y0 pp σ _ hlt (y1 xs q1) (y2 ys q2) p hp
 ·have e:i=n:=by omega
  subst e
  exact .inl ⟨⟨xs,ys,q1,q2,h3⟩,hd σ H p⟩
theorem tG {X:Cx} {elts:List Expr} {x1} {tp p pos:Pos} {a b:Expr} {ta:TA} (hg:Gl X "zip") (hm:X.mg "zip" = none) (ha:QA X [a,b] ta) (hs:starEach [a,b] X.env=[(false,eval a X.env),(false,eval b X.env)]:=by rfl) (hs2:starEach [b] X.env=[(false,eval b X.env)]:=by rfl):QI X (.Tuple elts x1 tp) (.Call (.Name "zip" p) [a,b] [] pos) (uG X.K ta):=⟨tZ hg hm ha.p hs hs2⟩
section
variable {X:Cx} {K:Fg}
theorem zG {o e:Expr} {es:List Expr} {to:TE} {t:TA} {name:Str} {apos cpos:Pos} {T id:String} {r:V->List V->Hp->VK->Prop} (hK:X.K=K)
  (pa:PlainAttrs T) (slot:Slot T name id) (hty:typeOf (.builtin id)=pure (.type "method_descriptor")) (hm:Dg X id r) (ho:QE X o to) (ha:QA X (e :: es) t)
  (hbase:attributeBase o name X.env (eval o X.env)=eval o X.env:=by rfl)
  (hfew:((backTo cpos (starEach (e :: es) X.env)).all (fun x=>!x.1) && (backToKw cpos (keywordEach [] X.env)).all (fun x=>x.1.isSome)
   && decide ((e :: es).length+([]:List Keyword).length+(if ([]:List Keyword).isEmpty then 0 else 1) < 30))=true:=by rfl)
  (hline:(apos.endLine == cpos.line)=true:=by rfl) (hs:starEach (e :: es) X.env=(false,eval e X.env) :: starEach es X.env:=by rfl) (hplain:(backTo cpos (starEach es X.env)).any (·.1)=false:=by rfl) :
  QE X (.Call (.Attribute o name apos) (e :: es) [] cpos) (D9 K T r to t):=⟨hK ▸ ym pa slot hty hm ho.p ha.p hbase hfew hline hs hplain⟩
end
def iq (x y:Int×Int):Bool:=decide (x.1 < y.1) || (decide (x.1=y.1) && decide (x.2 < y.2))
def xf (x y:Int×Int):Bool:=decide (x.1 > y.1) || (decide (x.1=y.1) && decide (x.2 > y.2))
theorem yt (x y:Int×Int):xf x y=iq y x:=by
 unfold xf iq
 congr 2
 exact decide_eq_decide.mpr ⟨Eq.symm,Eq.symm⟩
section
variable {prog:Program} {w:World} {A:Around} {E:bu} {s:Shared} {a b:Addr} {x y:Int×Int} {t1 t2 t3 t4:Tok}
theorem mh {P:Fin->Shared->Prop} (ha:s.heap.IsTuple a #[.int x.1 t1,.int x.2 t2]) (hb:s.heap.IsTuple b #[.int y.1 t3,.int y.2 t4]) (h:P (.done (.ret (.bool (iq x y)))) s) :
  wpAny (model prog w) A (Builtin.«tuple.__lt__» ⟨[.ref a,.ref b],[]⟩) P E s:=by
 have hTb:=hb.typeIs
 obtain⟨oa,hoa,_,na,hda⟩:=ha
 obtain⟨ob,hob,_,nb,hdb⟩:=hb
 show wpAny _ _ (isInstance (.ref b) (.type "tuple") >>= _) _ _ s
 refine wpAny_bind (wpAny_isInstance hTb isSubtype_tuple_tuple ?_)
 simp only [Bool.not_true,Bool.false_eq_true,if_false]
 refine wpAny_bind (wpAny_tupleItemsOf hoa hda (wpAny_bind (wpAny_tupleItemsOf hob hdb (wpAny_bind ?_))))
 unfold iq at h
 show wpAny _ _ (forIn [(Value.int x.1 t1,Value.int y.1 t3),(Value.int x.2 t2,Value.int y.2 t4)] _ _) _ _ s
 rw [List.forIn_cons]
 refine wpAny_bind (wpAny_bind (wpAny_eqBool_int ?_))
 by_cases c:x.1=y.1
 ·rw [c] at h
  rw [show (x.1 == y.1)=true by rw [c];exact beq_self_eq_true _]
  simp only [Bool.not_true,Bool.false_eq_true,if_false]
  refine wpAny_pure ?_
  show wpAny _ _ (forIn [(Value.int x.2 t2,Value.int y.2 t4)] _ _) _ _ s
  rw [List.forIn_cons]
  refine wpAny_bind (wpAny_bind (wpAny_eqBool_int ?_))
  rw [decide_eq_false (Int.lt_irrefl _),decide_eq_true rfl,Bool.false_or,Bool.true_and] at h
  by_cases d:x.2=y.2
  ·rw [show (x.2 == y.2)=true by rw [d];exact beq_self_eq_true _]
   simp only [Bool.not_true,Bool.false_eq_true,if_false]
   rw [d,decide_eq_false (Int.lt_irrefl _)] at h
   exact wpAny_pure (wpAny_pure (wpAny_pure h))
  ·rw [show (x.2 == y.2)=false from beq_eq_false_iff_ne.mpr d]
   simp only [Bool.not_false,if_true]
   refine wpAny_bind (wpAny_rule (wpAny_bind ?_))
   refine richCompare_gives (op:=.Lt) (typeIs_int s _ t2) (typeIs_int s _ t4) F.slot_int_lt F.entry_int_lt (F.args_int_lt_2 _ _) (gives_int_lt _ _ t2 t4) (fun x=>nomatch x) ?_
   exact wpAny_bind (wpAny_pure (wpAny_pure (wpAny_pure (wpAny_pure h))))
 ·rw [show (x.1 == y.1)=false from beq_eq_false_iff_ne.mpr c]
  simp only [Bool.not_false,if_true]
  rw [decide_eq_false c,Bool.false_and,Bool.or_false] at h
  refine wpAny_bind (wpAny_rule (wpAny_bind ?_))
  refine richCompare_gives (op:=.Lt) (typeIs_int s _ t1) (typeIs_int s _ t3) F.slot_int_lt F.entry_int_lt (F.args_int_lt_2 _ _) (gives_int_lt _ _ t1 t3) (fun x=>nomatch x) ?_
  exact wpAny_bind (wpAny_pure (wpAny_pure (wpAny_pure (wpAny_pure h))))
theorem oS {Q:bu} (hu:A.units < cLine) (ha:s.heap.IsTuple a #[.int x.1 t1,.int x.2 t2]) (hb:s.heap.IsTuple b #[.int y.1 t3,.int y.2 t4]) (h:Q (.bool (iq x y)) s) :
  wpAny (model prog w) A (richCompare .Lt (.ref a) (.ref b)) Q E s:=
 wpAny_richCompare_same_room (op:=.Lt) ha.typeIs hb.typeIs F.slot_tuple_lt (wpAny_call_entry F.slot_tuple_lt ha.typeIs F.entry_tuple_lt (mh ha hb ⟨_,rfl,(fun e=>nomatch e),h⟩) (F.args_tuple_lt_2 _ _)) hu
theorem mk {P:Fin->Shared->Prop} (ha:s.heap.IsTuple a #[.int x.1 t1,.int x.2 t2]) (hb:s.heap.IsTuple b #[.int y.1 t3,.int y.2 t4]) (h:P (.done (.ret (.bool (xf x y)))) s) :
  wpAny (model prog w) A (Builtin.«tuple.__gt__» ⟨[.ref a,.ref b],[]⟩) P E s:=by
 have hTb:=hb.typeIs
 obtain⟨oa,hoa,_,na,hda⟩:=ha
 obtain⟨ob,hob,_,nb,hdb⟩:=hb
 show wpAny _ _ (isInstance (.ref b) (.type "tuple") >>= _) _ _ s
 refine wpAny_bind (wpAny_isInstance hTb isSubtype_tuple_tuple ?_)
 simp only [Bool.not_true,Bool.false_eq_true,if_false]
 refine wpAny_bind (wpAny_tupleItemsOf hoa hda (wpAny_bind (wpAny_tupleItemsOf hob hdb (wpAny_bind ?_))))
 unfold xf at h
 show wpAny _ _ (forIn [(Value.int x.1 t1,Value.int y.1 t3),(Value.int x.2 t2,Value.int y.2 t4)] _ _) _ _ s
 rw [List.forIn_cons]
 refine wpAny_bind (wpAny_bind (wpAny_eqBool_int ?_))
 by_cases c:x.1=y.1
 ·rw [c] at h
  rw [show (x.1 == y.1)=true by rw [c];exact beq_self_eq_true _]
  simp only [Bool.not_true,Bool.false_eq_true,if_false]
  refine wpAny_pure ?_
  show wpAny _ _ (forIn [(Value.int x.2 t2,Value.int y.2 t4)] _ _) _ _ s
  rw [List.forIn_cons]
  refine wpAny_bind (wpAny_bind (wpAny_eqBool_int ?_))
  rw [decide_eq_false (Int.lt_irrefl _),decide_eq_true rfl,Bool.false_or,Bool.true_and] at h
  by_cases d:x.2=y.2
  ·rw [show (x.2 == y.2)=true by rw [d];exact beq_self_eq_true _]
   simp only [Bool.not_true,Bool.false_eq_true,if_false]
   rw [d,decide_eq_false (Int.lt_irrefl _)] at h
   exact wpAny_pure (wpAny_pure (wpAny_pure h))
  ·rw [show (x.2 == y.2)=false from beq_eq_false_iff_ne.mpr d]
   simp only [Bool.not_false,if_true]
   refine wpAny_bind (wpAny_rule (wpAny_bind ?_))
   refine richCompare_gives (op:=.Gt) (typeIs_int s _ t2) (typeIs_int s _ t4) F.slot_int_gt F.entry_int_gt (F.args_int_gt_2 _ _) (gives_int_gt _ _ t2 t4) (fun x=>nomatch x) ?_
   exact wpAny_bind (wpAny_pure (wpAny_pure (wpAny_pure (wpAny_pure h))))
 ·rw [show (x.1 == y.1)=false from beq_eq_false_iff_ne.mpr c]
  simp only [Bool.not_false,if_true]
  rw [decide_eq_false c,Bool.false_and,Bool.or_false] at h
  refine wpAny_bind (wpAny_rule (wpAny_bind ?_))
  refine richCompare_gives (op:=.Gt) (typeIs_int s _ t1) (typeIs_int s _ t3) F.slot_int_gt F.entry_int_gt (F.args_int_gt_2 _ _) (gives_int_gt _ _ t1 t3) (fun x=>nomatch x) ?_
  exact wpAny_bind (wpAny_pure (wpAny_pure (wpAny_pure (wpAny_pure h))))
theorem oU {Q:bu} (hu:A.units < cLine) (ha:s.heap.IsTuple a #[.int x.1 t1,.int x.2 t2]) (hb:s.heap.IsTuple b #[.int y.1 t3,.int y.2 t4]) (h:Q (.bool (xf x y)) s) :
  wpAny (model prog w) A (richCompare .Gt (.ref a) (.ref b)) Q E s:=
 wpAny_richCompare_same_room (op:=.Gt) ha.typeIs hb.typeIs F.slot_tuple_gt (wpAny_call_entry F.slot_tuple_gt ha.typeIs F.entry_tuple_gt (mk ha hb ⟨_,rfl,(fun e=>nomatch e),h⟩) (F.args_tuple_gt_2 _ _)) hu
end
section
variable {prog:Program} {w:World} {A:Around} {R:Result->Shared->Prop} {I:Addr} {fp wr:List Addr} {n:Nat} {P:Nat->Value->Prop} {St:Nat->Heap->Prop}
def rA (prog:Program) (w:World) (A:Around) (op:CmpOp) (h0:Heap) (wr:List Addr) (S:Addr) (P:Nat->Value->Prop) (bt:Nat->Nat->Bool):Prop:=
 ∀ i j vi vj (s:Shared) (Q:bu) (E:bu),(∀ b o,b∉wr->b≠S->h0.get? b=some o->s.heap.get? b=some o)->P i vi->P j vj->Q (.bool (bt i j)) s->wpAny (model prog w) A (richCompare op vi vj) Q E s
theorem qC {h0:Heap} (W:Walks prog w A.in1 I fp wr n P St) (bt:Nat->Nat->Bool) (S:Addr) (hcmp:rA prog w A.in1 .Gt h0 wr S P bt) (hSf:S∉fp) :
  ∀ (k j:Nat) (s:Shared) (vb:Value) (c:Nat),n - (j+1)=k->j+1≤n->St (j+1) s.heap->P (argBest bt j) vb->(∀ b o,b∉wr->b≠S->h0.get? b=some o->s.heap.get? b=some o)→
  s.heap.get? S=some { cls:=.type "list", dict:=none,data:=.seq #[vb,vb] c,slots:=#[] }→
  (∀ v h' tk,P (argBest bt (n - 1)) v->(∀ b o,b∉wr->b≠S->s.heap.get? b=some o->h'.get? b=some o)->R (.ok (.ret v)) { s with heap:=h',toks:=tk })→
  codeAny (model prog w) A (.builtin "max.loop" ⟨[.ref I,.none,.ref S],[]⟩) R s:=by
 have hSw:S∉wr:=fun h=>hSf (W.sub _ h)
 have hname:(toString "max" ++ toString ".loop" : String) = "max.loop" := by decide
 intro k
 induction k with
 | zero=>
  intro j s vb c hk hj hst hPb _ hS hR
  have hin:j+1=n:=by omega
  refine codeAny_builtin F.entry_max_loop ?_
  rw [Around.under_plainId F.plain_max_loop _]
  show wpAny _ A.in1 (seqItems? (.ref S) >>= _) _ _ s
  refine wpAny_bind (wpAny_seqItems hS rfl ?_)
  show wpAny _ A.in1 (tryCatch (pyNext (.ref I)) _ >>= _) _ _ s
  refine wpAny_bind (wpAny_tryCatch (W.done s _ _ (hin ▸ hst) fun h' tk hk'=>?_))
  have hS':=hk' S _ hSw hS
  show wpAny _ A.in1 (updateSeq S (fun _=>#[]) >>= _) _ _ _
  refine wpAny_bind (wpAny_updateSeq hS' rfl (wpAny_bind (wpAny_letGo (wpAny_pure ?_))))
  refine hR vb _ tk (by rw [← hin];exact hPb) fun b o hbw hbS e=>(Heap.get?_update_other _ _ (Ne.symm hbS)).trans (hk' b o hbw e)
 | succ k ih=>
  intro j s vb c hk hj hst hPb hkp hS hR
  have hlt:j+1 < n:=by omega
  refine codeAny_builtin F.entry_max_loop ?_
  rw [Around.under_plainId F.plain_max_loop _]
  show wpAny _ A.in1 (seqItems? (.ref S) >>= _) _ _ s
  refine wpAny_bind (wpAny_seqItems hS rfl ?_)
  show wpAny _ A.in1 (tryCatch (pyNext (.ref I)) _ >>= _) _ _ s
  refine wpAny_bind (wpAny_tryCatch (W.item (j+1) s _ _ hlt hst fun v h' tk hP hst' hk'=>?_))
  have hS':=hk' S _ hSw hS
  have kp1:∀ b o,b∉wr->b≠S->h0.get? b=some o->h'.get? b=some o:=fun b o h1 h2 e=>hk' b o h1 (hkp b o h1 h2 e)
  show wpAny _ A.in1 (tryCatch (holding [v,v] (richCompare .Gt v vb >>= _)) _ >>= _) _ _ _
  refine wpAny_bind (wpAny_tryCatch (wpAny_holding (wpAny_bind (hcmp (j+1) (argBest bt j) v vb _ _ _ kp1 hP hPb ?_))))
  refine wpAny_bind (wpAny_holding (wpAny_truthy_bool (wpAny_bind (wpAny_letGo (wpAny_pure ?_)))))
  cases hb:bt (j+1) (argBest bt j) with
  | true=>
   simp only [if_true]
   refine wpAny_bind (wpAny_updateSeq hS' rfl (wpAny_bind (wpAny_letGo ?_)))
   rw [hname]
   refine wpAny_pure ⟨plainId_quiet F.plain_max_loop _,ih (j+1) _ v _ (by omega) hlt (W.frame _ _ _ hst' fun b hbf o e=>?_) (by simp only [argBest,hb,if_true];exact hP) (fun b o h1 h2 e=>(Heap.get?_update_other _ _ (Ne.symm h2)).trans (kp1 b o h1 h2 e)) (Heap.get?_update_self _ hS' rfl)
    fun v' h'' tk'' hP' hk''=>?_⟩
   ·exact (Heap.get?_update_other _ _ (fun h:S=b=>hSf (by rw [h];exact hbf))).trans e
   ·exact hR v' h'' tk'' hP' fun b o hbw hbS e=>hk'' b o hbw hbS ((Heap.get?_update_other _ _ (Ne.symm hbS)).trans (hk' b o hbw e))
  | false=>
   simp only [Bool.false_eq_true,if_false]
   refine wpAny_bind (wpAny_letGo ?_)
   rw [hname]
   refine wpAny_pure ⟨plainId_quiet F.plain_max_loop _,ih (j+1) _ vb c (by omega) hlt hst' (by simp only [argBest,hb,Bool.false_eq_true,if_false];exact hPb) kp1 hS' fun v' h'' tk'' hP' hk''=>?_⟩
   exact hR v' h'' tk'' hP' fun b o hbw hbS e=>hk'' b o hbw hbS (hk' b o hbw e)
theorem n6 {h0:Heap} (W:Walks prog w A.in1 I fp wr n P St) (bt:Nat->Nat->Bool) (S:Addr) (hcmp:rA prog w A.in1 .Gt h0 wr S P bt) (hSf:S∉fp) (hn:0 < n) {s:Shared} {c:Nat} (hst:St 0 s.heap) (hkp:∀ b o,b∉wr->b≠S->h0.get? b=some o->s.heap.get? b=some o)
  (hS:s.heap.get? S=some { cls:=.type "list", dict:=none,data:=.seq #[] c,slots:=#[] })
  (hR:∀ v h' tk,P (argBest bt (n - 1)) v->(∀ b o,b∉wr->b≠S->s.heap.get? b=some o->h'.get? b=some o)->R (.ok (.ret v)) { s with heap:=h',toks:=tk }) :
  codeAny (model prog w) A (.builtin "max.loop" ⟨[.ref I,.none,.ref S],[]⟩) R s:=by
 have hSw:S∉wr:=fun h=>hSf (W.sub _ h)
 have hname:(toString "max" ++ toString ".loop" : String) = "max.loop" := by decide
 refine codeAny_builtin F.entry_max_loop ?_
 rw [Around.under_plainId F.plain_max_loop _]
 show wpAny _ A.in1 (seqItems? (.ref S) >>= _) _ _ s
 refine wpAny_bind (wpAny_seqItems hS rfl ?_)
 show wpAny _ A.in1 (tryCatch (pyNext (.ref I)) _ >>= _) _ _ s
 refine wpAny_bind (wpAny_tryCatch (W.item 0 s _ _ hn hst fun v h' tk hP hst' hk'=>?_))
 have hS':=hk' S _ hSw hS
 show wpAny _ A.in1 (updateSeq S (fun _=>#[v,v]) >>= _) _ _ _
 refine wpAny_bind (wpAny_updateSeq hS' rfl ?_)
 rw [hname]
 refine wpAny_pure ⟨plainId_quiet F.plain_max_loop _,qC W bt S hcmp hSf _ 0 _ v _ rfl hn (W.frame _ _ _ hst' fun b hbf o e=>?_) hP (fun b o h1 h2 e=>(Heap.get?_update_other _ _ (Ne.symm h2)).trans (hk' b o h1 (hkp b o h1 h2 e))) (Heap.get?_update_self _ hS' rfl) fun v' h'' tk'' hP' hk''=>?_⟩
 ·exact (Heap.get?_update_other _ _ (fun h:S=b=>hSf (by rw [h];exact hbf))).trans e
 ·exact hR v' h'' tk'' hP' fun b o hbw hbS e=>hk'' b o hbw hbS ((Heap.get?_update_other _ _ (Ne.symm hbS)).trans (hk' b o hbw e))
end
section
variable {prog:Program} {w:World} {A:Around} {E:bu} {s:Shared}
theorem qA {x:Value} {Q:bu}
  (h:wpAny (model prog w) A.in1 (pyIter x) (fun it s₂=>∃ I fp wr n P St bt,it=.ref I/\Walks prog w A.in1 I fp wr n P St/\St 0 s₂.heap/\(∀ b∈fp,b < s₂.heap.objs.size)/\0 < n/\rA prog w A.in1 .Gt s₂.heap wr s₂.heap.objs.size P bt∧
   ∀ v h' tk,P (argBest bt (n - 1)) v->(∀ b o,b∉wr->s₂.heap.get? b=some o->h'.get? b=some o)->Q v { s₂ with heap:=h',toks:=tk }) E s) :
  wpAny (model prog w) A (call (.builtin "max") [x]) Q E s:=by
 have hname:(toString "max" ++ toString ".loop" : String) = "max.loop" := by decide
 refine call_function_tree F.kind_max F.plain_max F.entry_max (F.args_max1 _) ?_
 show wpAny _ A.in1 (Builtin.Builtins.bindParams "max" ["key", "default"] 0 ⟨[],[]⟩ >>= _) _ _ s
 refine wpAny_bind (wpAny_of_eq (show Builtin.Builtins.bindParams "max" ["key", "default"] 0 ⟨[],[]⟩=pure [none,none] from rfl) ?_)
 refine wpAny_bind (wpAny_pure (wpAny_bind (wpAny_mono h (fun it s₂ h₂=>?_) fun _ _ e=>e)))
 obtain⟨I,fp,wr,n,P,St,bt,rfl,W,hst,hfp,hn,hcmp,hQ⟩:=h₂
 refine wpAny_bind (wpAny_newObj_type ?_)
 have hSf:s₂.heap.objs.size∉fp:=fun hm=>Nat.lt_irrefl _ (hfp _ hm)
 rw [hname]
 refine wpAny_pure ⟨plainId_quiet F.plain_max_loop _,n6 W bt s₂.heap.objs.size hcmp hSf hn (W.frame _ _ _ hst fun b _ o e=>Heap.get?_push_of_some _ e) (fun b o _ _ e=>Heap.get?_push_of_some _ e) (Heap.get?_push_size _ rfl) fun v h' tk hP hk=>?_⟩
 exact hQ v h' tk hP fun b o hbw e=>hk b o hbw (Nat.ne_of_lt (Heap.lt_size e)) (Heap.get?_push_of_some _ e)
end
section
variable {prog:Program} {w:World} {A:Around} {R:Result->Shared->Prop} {I:Addr} {fp wr:List Addr} {n:Nat} {P:Nat->Value->Prop} {St:Nat->Heap->Prop}
theorem qz {h0:Heap} (W:Walks prog w A.in1 I fp wr n P St) (bt:Nat->Nat->Bool) (S:Addr) (hcmp:rA prog w A.in1 .Lt h0 wr S P bt) (hSf:S∉fp) :
  ∀ (k j:Nat) (s:Shared) (vb:Value) (c:Nat),n - (j+1)=k->j+1≤n->St (j+1) s.heap->P (argBest bt j) vb->(∀ b o,b∉wr->b≠S->h0.get? b=some o->s.heap.get? b=some o)→
  s.heap.get? S=some { cls:=.type "list", dict:=none,data:=.seq #[vb,vb] c,slots:=#[] }→
  (∀ v h' tk,P (argBest bt (n - 1)) v->(∀ b o,b∉wr->b≠S->s.heap.get? b=some o->h'.get? b=some o)->R (.ok (.ret v)) { s with heap:=h',toks:=tk })→
  codeAny (model prog w) A (.builtin "min.loop" ⟨[.ref I,.none,.ref S],[]⟩) R s:=by
 have hSw:S∉wr:=fun h=>hSf (W.sub _ h)
 have hname:(toString "min" ++ toString ".loop" : String) = "min.loop" := by decide
 intro k
 induction k with
 | zero=>
  intro j s vb c hk hj hst hPb _ hS hR
  have hin:j+1=n:=by omega
  refine codeAny_builtin F.entry_min_loop ?_
  rw [Around.under_plainId F.plain_min_loop _]
  show wpAny _ A.in1 (seqItems? (.ref S) >>= _) _ _ s
  refine wpAny_bind (wpAny_seqItems hS rfl ?_)
  show wpAny _ A.in1 (tryCatch (pyNext (.ref I)) _ >>= _) _ _ s
  refine wpAny_bind (wpAny_tryCatch (W.done s _ _ (hin ▸ hst) fun h' tk hk'=>?_))
  have hS':=hk' S _ hSw hS
  show wpAny _ A.in1 (updateSeq S (fun _=>#[]) >>= _) _ _ _
  refine wpAny_bind (wpAny_updateSeq hS' rfl (wpAny_bind (wpAny_letGo (wpAny_pure ?_))))
  refine hR vb _ tk (by rw [← hin];exact hPb) fun b o hbw hbS e=>(Heap.get?_update_other _ _ (Ne.symm hbS)).trans (hk' b o hbw e)
 | succ k ih=>
  intro j s vb c hk hj hst hPb hkp hS hR
  have hlt:j+1 < n:=by omega
  refine codeAny_builtin F.entry_min_loop ?_
  rw [Around.under_plainId F.plain_min_loop _]
  show wpAny _ A.in1 (seqItems? (.ref S) >>= _) _ _ s
  refine wpAny_bind (wpAny_seqItems hS rfl ?_)
  show wpAny _ A.in1 (tryCatch (pyNext (.ref I)) _ >>= _) _ _ s
  refine wpAny_bind (wpAny_tryCatch (W.item (j+1) s _ _ hlt hst fun v h' tk hP hst' hk'=>?_))
  have hS':=hk' S _ hSw hS
  have kp1:∀ b o,b∉wr->b≠S->h0.get? b=some o->h'.get? b=some o:=fun b o h1 h2 e=>hk' b o h1 (hkp b o h1 h2 e)
  show wpAny _ A.in1 (tryCatch (holding [v,v] (richCompare .Lt v vb >>= _)) _ >>= _) _ _ _
  refine wpAny_bind (wpAny_tryCatch (wpAny_holding (wpAny_bind (hcmp (j+1) (argBest bt j) v vb _ _ _ kp1 hP hPb ?_))))
  refine wpAny_bind (wpAny_holding (wpAny_truthy_bool (wpAny_bind (wpAny_letGo (wpAny_pure ?_)))))
  cases hb:bt (j+1) (argBest bt j) with
  | true=>
   simp only [if_true]
   refine wpAny_bind (wpAny_updateSeq hS' rfl (wpAny_bind (wpAny_letGo ?_)))
   rw [hname]
   refine wpAny_pure ⟨plainId_quiet F.plain_min_loop _,ih (j+1) _ v _ (by omega) hlt (W.frame _ _ _ hst' fun b hbf o e=>?_) (by simp only [argBest,hb,if_true];exact hP) (fun b o h1 h2 e=>(Heap.get?_update_other _ _ (Ne.symm h2)).trans (kp1 b o h1 h2 e)) (Heap.get?_update_self _ hS' rfl)
    fun v' h'' tk'' hP' hk''=>?_⟩
   ·exact (Heap.get?_update_other _ _ (fun h:S=b=>hSf (by rw [h];exact hbf))).trans e
   ·exact hR v' h'' tk'' hP' fun b o hbw hbS e=>hk'' b o hbw hbS ((Heap.get?_update_other _ _ (Ne.symm hbS)).trans (hk' b o hbw e))
  | false=>
   simp only [Bool.false_eq_true,if_false]
   refine wpAny_bind (wpAny_letGo ?_)
   rw [hname]
   refine wpAny_pure ⟨plainId_quiet F.plain_min_loop _,ih (j+1) _ vb c (by omega) hlt hst' (by simp only [argBest,hb,Bool.false_eq_true,if_false];exact hPb) kp1 hS' fun v' h'' tk'' hP' hk''=>?_⟩
   exact hR v' h'' tk'' hP' fun b o hbw hbS e=>hk'' b o hbw hbS (hk' b o hbw e)
theorem n5 {h0:Heap} (W:Walks prog w A.in1 I fp wr n P St) (bt:Nat->Nat->Bool) (S:Addr) (hcmp:rA prog w A.in1 .Lt h0 wr S P bt) (hSf:S∉fp) (hn:0 < n) {s:Shared} {c:Nat} (hst:St 0 s.heap) (hkp:∀ b o,b∉wr->b≠S->h0.get? b=some o->s.heap.get? b=some o)
  (hS:s.heap.get? S=some { cls:=.type "list", dict:=none,data:=.seq #[] c,slots:=#[] })
  (hR:∀ v h' tk,P (argBest bt (n - 1)) v->(∀ b o,b∉wr->b≠S->s.heap.get? b=some o->h'.get? b=some o)->R (.ok (.ret v)) { s with heap:=h',toks:=tk }) :
  codeAny (model prog w) A (.builtin "min.loop" ⟨[.ref I,.none,.ref S],[]⟩) R s:=by
 have hSw:S∉wr:=fun h=>hSf (W.sub _ h)
 have hname:(toString "min" ++ toString ".loop" : String) = "min.loop" := by decide
 refine codeAny_builtin F.entry_min_loop ?_
 rw [Around.under_plainId F.plain_min_loop _]
 show wpAny _ A.in1 (seqItems? (.ref S) >>= _) _ _ s
 refine wpAny_bind (wpAny_seqItems hS rfl ?_)
 show wpAny _ A.in1 (tryCatch (pyNext (.ref I)) _ >>= _) _ _ s
 refine wpAny_bind (wpAny_tryCatch (W.item 0 s _ _ hn hst fun v h' tk hP hst' hk'=>?_))
 have hS':=hk' S _ hSw hS
 show wpAny _ A.in1 (updateSeq S (fun _=>#[v,v]) >>= _) _ _ _
 refine wpAny_bind (wpAny_updateSeq hS' rfl ?_)
 rw [hname]
 refine wpAny_pure ⟨plainId_quiet F.plain_min_loop _,qz W bt S hcmp hSf _ 0 _ v _ rfl hn (W.frame _ _ _ hst' fun b hbf o e=>?_) hP (fun b o h1 h2 e=>(Heap.get?_update_other _ _ (Ne.symm h2)).trans (hk' b o h1 (hkp b o h1 h2 e))) (Heap.get?_update_self _ hS' rfl) fun v' h'' tk'' hP' hk''=>?_⟩
 ·exact (Heap.get?_update_other _ _ (fun h:S=b=>hSf (by rw [h];exact hbf))).trans e
 ·exact hR v' h'' tk'' hP' fun b o hbw hbS e=>hk'' b o hbw hbS ((Heap.get?_update_other _ _ (Ne.symm hbS)).trans (hk' b o hbw e))
end
section
variable {prog:Program} {w:World} {A:Around} {E:bu} {s:Shared}
theorem qy {x:Value} {Q:bu}
  (h:wpAny (model prog w) A.in1 (pyIter x) (fun it s₂=>∃ I fp wr n P St bt,it=.ref I/\Walks prog w A.in1 I fp wr n P St/\St 0 s₂.heap/\(∀ b∈fp,b < s₂.heap.objs.size)/\0 < n/\rA prog w A.in1 .Lt s₂.heap wr s₂.heap.objs.size P bt∧
   ∀ v h' tk,P (argBest bt (n - 1)) v->(∀ b o,b∉wr->s₂.heap.get? b=some o->h'.get? b=some o)->Q v { s₂ with heap:=h',toks:=tk }) E s) :
  wpAny (model prog w) A (call (.builtin "min") [x]) Q E s:=by
 have hname:(toString "min" ++ toString ".loop" : String) = "min.loop" := by decide
 refine call_function_tree F.kind_min F.plain_min F.entry_min (F.args_min1 _) ?_
 show wpAny _ A.in1 (Builtin.Builtins.bindParams "min" ["key", "default"] 0 ⟨[],[]⟩ >>= _) _ _ s
 refine wpAny_bind (wpAny_of_eq (show Builtin.Builtins.bindParams "min" ["key", "default"] 0 ⟨[],[]⟩=pure [none,none] from rfl) ?_)
 refine wpAny_bind (wpAny_pure (wpAny_bind (wpAny_mono h (fun it s₂ h₂=>?_) fun _ _ e=>e)))
 obtain⟨I,fp,wr,n,P,St,bt,rfl,W,hst,hfp,hn,hcmp,hQ⟩:=h₂
 refine wpAny_bind (wpAny_newObj_type ?_)
 have hSf:s₂.heap.objs.size∉fp:=fun hm=>Nat.lt_irrefl _ (hfp _ hm)
 rw [hname]
 refine wpAny_pure ⟨plainId_quiet F.plain_min_loop _,n5 W bt s₂.heap.objs.size hcmp hSf hn (W.frame _ _ _ hst fun b _ o e=>Heap.get?_push_of_some _ e) (fun b o _ _ e=>Heap.get?_push_of_some _ e) (Heap.get?_push_size _ rfl) fun v h' tk hP hk=>?_⟩
 exact hQ v h' tk hP fun b o hbw e=>hk b o hbw (Nat.ne_of_lt (Heap.lt_size e)) (Heap.get?_push_of_some _ e)
end
def rE (K:Fg) (H:Hp) (v:V) (p:Int×Int):Prop:=∃ a,v=.ref a/\aV K H a [.int p.1,.int p.2]
theorem rE.mono {K:Fg} {H H':Hp} {v:V} {p:Int×Int} (h:rE K H v p) (t:aI K H H'):rE K H' v p:=let ⟨a,e,q⟩:=h;⟨a,e,t _ _ q⟩
section
variable {X:Cx} {pins:bo} {σ:L2.St} {H:Hp} {s:Shared}
theorem dW {v:V} {u:Value} {p:Int×Int} (I:Inv X pins σ H s) (h:rE X.K H v p) (r:aU v u):∃ a t1 t2,u=.ref a/\s.heap.IsTuple a #[.int p.1 t1,.int p.2 t2]:=by
 obtain⟨a,rfl,hS⟩:=h
 cases r
 obtain⟨its,rv,pl,_⟩:=I.tuple hS
 cases rv with
 | cons w1 w2=>
  obtain⟨t1,rfl⟩:=w1
  cases w2 with
  | cons w3 w4=>
   obtain⟨t2,rfl⟩:=w3
   cases w4
   exact⟨a,t1,t2,rfl,pl⟩
end
def Fa (f:Int×Int->Int×Int->Bool) (K:Fg):R2:=fun x y H Q=>∃ p q,rE K H x p/\rE K H y q/\Q (.bl (f p q)) H
theorem Ak {X:Cx} {k:Nat} (hr:cc k X.A):dN X (compareOp .Lt) (Fa iq X.K):=by
 intro pins s σ H x y v u Q I rx ry h
 obtain⟨p,q,hp,hq,k⟩:=h
 obtain⟨a,t1,t2,rfl,ha⟩:=dW I hp rx
 obtain⟨b,t3,t4,rfl,hb⟩:=dW I hq ry
 exact oS (by have:=hr.units;omega) ha hb ⟨.bl _,H,I,rfl,k⟩
theorem Am {X:Cx} {k:Nat} (hr:cc k X.A):dN X (compareOp .Gt) (Fa xf X.K):=by
 intro pins s σ H x y v u Q I rx ry h
 obtain⟨p,q,hp,hq,k⟩:=h
 obtain⟨a,t1,t2,rfl,ha⟩:=dW I hp rx
 obtain⟨b,t3,t4,rfl,hb⟩:=dW I hq ry
 exact oU (by have:=hr.units;omega) ha hb ⟨.bl _,H,I,rfl,k⟩
theorem yn {prog:Program} {w:World} {A:Around} {E:bu} {s:Shared} {l:Addr} {its:Array Value} {Q:bu} (hl:s.heap.IsList l its)
  (h:∀ s₂:Shared,s₂={ s with heap:=s.heap.push { cls:=.type "list_iterator", data:=.fields #[.ref l,.int 0 0] } }→
   (s₂.heap.IsListIter s.heap.objs.size l 0/\s₂.heap.IsList l its)->(∀ b∈[s.heap.objs.size,l],b < s₂.heap.objs.size)->l≠s.heap.objs.size->Q (.ref s.heap.objs.size) s₂) :
  wpAny (model prog w) A (pyIter (.ref l)) Q E s:=by
 have hlt:l < s.heap.objs.size:=by obtain⟨_,e,_⟩:=hl;exact Heap.lt_size e
 refine wpAny_pyIter_list hl (h _ rfl ⟨⟨_,Heap.get?_push_size _ rfl,rfl,rfl⟩,hl.push _⟩ (fun b hb=>?_) (Nat.ne_of_lt hlt))
 show b < (s.heap.push _).objs.size
 rw [Heap.size_push]
 simp only [List.mem_cons,List.not_mem_nil,or_false] at hb
 rcases hb with e | e
 ·rw [e];exact Nat.lt_succ_self _
 ·rw [e];exact Nat.lt_succ_of_lt hlt
theorem mE {s:Shared} {l:Addr} {h':Heap} (hk:∀ b o,b∉[s.heap.objs.size]->(s.heap.push { cls:=.type "list_iterator", data:=.fields #[.ref l,.int 0 0] }).get? b=some o->h'.get? b=some o) :
  ∀ b o,s.heap.get? b=some o->h'.get? b=some o:=fun b o e=>by
 refine hk b o (fun hm=>?_) (Heap.get?_push_of_some _ e)
 have:=List.mem_singleton.mp hm
 exact absurd (this ▸ Heap.lt_size e) (Nat.lt_irrefl _)
def cR (ps:List (Int×Int)) (i:Nat):Int×Int:=ps.getD i (0,0)
theorem j4 {ps:List (Int×Int)} (h:ps.Pairwise fun a b=>iq a b=true):∀ k,k < ps.length->argBest (fun i j=>xf (cR ps i) (cR ps j)) k=k
 | 0,_=>rfl
 | k+1,hk=>by
  unfold argBest
  rw [j4 h k (by omega)]
  have e1:ps[k]?=some (ps[k]'(by omega)):=List.getElem?_eq_getElem _
  have e2:ps[k+1]?=some ps[k+1]:=List.getElem?_eq_getElem _
  have:=List.pairwise_iff_getElem.mp h k (k+1) (by omega) hk (Nat.lt_succ_self k)
  rw [yt]
  unfold cR
  rw [List.getD_eq_getElem?_getD,List.getD_eq_getElem?_getD,e1,e2]
  show (if iq (ps[k]'(by omega)) ps[k+1]=true then k+1 else k)=k+1
  rw [if_pos this]
theorem mB {a b:Int×Int} (h:iq a b=true):iq b a=false:=by
 unfold iq at *
 rw [Bool.or_eq_true,Bool.and_eq_true,decide_eq_true_iff,decide_eq_true_iff,decide_eq_true_iff] at h
 rw [Bool.or_eq_false_iff,Bool.and_eq_false_iff,decide_eq_false_iff_not,decide_eq_false_iff_not,decide_eq_false_iff_not]
 omega
theorem jh {ps:List (Int×Int)} (h:ps.Pairwise fun a b=>iq a b=true):∀ k,k < ps.length->argBest (fun i j=>iq (cR ps i) (cR ps j)) k=0
 | 0,_=>rfl
 | k+1,hk=>by
  unfold argBest
  rw [jh h k (by omega)]
  have e1:ps[0]?=some (ps[0]'(by omega)):=List.getElem?_eq_getElem _
  have e2:ps[k+1]?=some ps[k+1]:=List.getElem?_eq_getElem _
  have:=mB (List.pairwise_iff_getElem.mp h 0 (k+1) (by omega) hk (Nat.succ_pos k))
  unfold cR
  rw [List.getD_eq_getElem?_getD,List.getD_eq_getElem?_getD,e1,e2]
  show (if iq ps[k+1] (ps[0]'(by omega))=true then k+1 else 0)=0
  rw [if_neg (by rw [this];exact Bool.false_ne_true)]
theorem qW {X:Cx} {k:Nat} (hr:cc k X.A) (hc:X.calm=true):b8 X (.builtin "max") (fun xs H Q=>∃ (l:Addr) (vs:List V) (ps:List (Int×Int)),xs=[.ref l]/\aQ X.K H l vs/\cv (rE X.K H) vs ps/\ps.Pairwise (fun a b=>iq a b=true)/\0 < ps.length/\∀ v,vs[ps.length - 1]?=some v->Q v H):=by
 intro pins s σ H xs us Q I r h
 obtain⟨l,vs,ps,rfl,hq,al,pw,hne,q⟩:=h
 obtain⟨u,rfl,rx⟩:=dP r
 cases rx
 obtain⟨its,rv,pl,hz⟩:=I.list hq
 have hl:=pl.isList
 have len:its.length=ps.length:=by rw [← rv.length];exact al.len
 refine qA (yn hl fun s₂ e st hfp hlI=>?_)
 subst e
 refine⟨_,_,_,_,_,_,fun i j=>xf (cR ps i) (cR ps j),rfl,Walks.list (A:=X.A.in1) (I.ok.hd hc) _ l hlI its.toArray,st,hfp,by rw [List.size_toArray];omega,?_,fun v h' tk hP hk=>?_⟩
 ·intro i j vi vj s3 Q3 E3 kp hi hj h3
  have at_:∀ {i:Nat} {v:Value},its.toArray[i]?=some v->∃ a t1 t2,v=.ref a/\s3.heap.IsTuple a #[.int (cR ps i).1 t1,.int (cR ps i).2 t2]:=fun {i v} hv=>by
   rw [List.getElem?_toArray] at hv
   have il:=(List.getElem?_eq_some_iff.mp hv).1
   obtain⟨x,hx⟩:∃ x,vs[i]?=some x:=⟨_,List.getElem?_eq_getElem (by rw [al.len];omega)⟩
   obtain⟨p,hp,pv⟩:=al.at hx
   obtain⟨u1,e4,ru1⟩:=aT.get rv hx
   rw [hv] at e4
   cases e4
   obtain⟨a,t1,t2,rfl,ht⟩:=dW I pv ru1
   refine⟨a,t1,t2,rfl,?_⟩
   unfold cR
   rw [List.getD_eq_getElem?_getD,hp]
   obtain⟨o,h1,h2⟩:=ht
   have lt:=Heap.lt_size h1
   refine⟨o,kp a o (fun m=>absurd (List.mem_singleton.mp m) (Nat.ne_of_lt lt)) ?_ (Heap.get?_push_of_some _ h1),h2⟩
   show a≠(s.heap.push _).objs.size
   rw [Heap.size_push]
   exact Nat.ne_of_lt (Nat.lt_succ_of_lt lt)
  obtain⟨a,t1,t2,rfl,ha⟩:=at_ hi
  obtain⟨b,t3,t4,rfl,hb⟩:=at_ hj
  exact oU (mH hr) ha hb h3
 ·rw [j4 pw _ (by rw [List.size_toArray];omega),List.size_toArray,len] at hP
  obtain⟨x,hx⟩:∃ x,vs[ps.length - 1]?=some x:=⟨_,List.getElem?_eq_getElem (by rw [al.len];omega)⟩
  obtain⟨u1,e4,ru1⟩:=aT.get rv hx
  have hP':its.toArray[ps.length - 1]?=some v:=hP
  rw [List.getElem?_toArray,e4] at hP'
  cases hP'
  exact⟨x,H,I.kept (t':=tk) (mE hk),ru1,q x hx⟩
theorem qV {X:Cx} {k:Nat} (hr:cc k X.A) (hc:X.calm=true):b8 X (.builtin "min") (fun xs H Q=>∃ (l:Addr) (vs:List V) (ps:List (Int×Int)),xs=[.ref l]/\aQ X.K H l vs/\cv (rE X.K H) vs ps/\ps.Pairwise (fun a b=>iq a b=true)/\0 < ps.length/\∀ v,vs[0]?=some v->Q v H):=by
 intro pins s σ H xs us Q I r h
 obtain⟨l,vs,ps,rfl,hq,al,pw,hne,q⟩:=h
 obtain⟨u,rfl,rx⟩:=dP r
 cases rx
 obtain⟨its,rv,pl,hz⟩:=I.list hq
 have hl:=pl.isList
 have len:its.length=ps.length:=by rw [← rv.length];exact al.len
 refine qy (yn hl fun s₂ e st hfp hlI=>?_)
 subst e
 refine⟨_,_,_,_,_,_,fun i j=>iq (cR ps i) (cR ps j),rfl,Walks.list (A:=X.A.in1) (I.ok.hd hc) _ l hlI its.toArray,st,hfp,by rw [List.size_toArray];omega,?_,fun v h' tk hP hk=>?_⟩
 ·intro i j vi vj s3 Q3 E3 kp hi hj h3
  have at_:∀ {i:Nat} {v:Value},its.toArray[i]?=some v->∃ a t1 t2,v=.ref a/\s3.heap.IsTuple a #[.int (cR ps i).1 t1,.int (cR ps i).2 t2]:=fun {i v} hv=>by
   rw [List.getElem?_toArray] at hv
   have il:=(List.getElem?_eq_some_iff.mp hv).1
   obtain⟨x,hx⟩:∃ x,vs[i]?=some x:=⟨_,List.getElem?_eq_getElem (by rw [al.len];omega)⟩
   obtain⟨p,hp,pv⟩:=al.at hx
   obtain⟨u1,e4,ru1⟩:=aT.get rv hx
   rw [hv] at e4
   cases e4
   obtain⟨a,t1,t2,rfl,ht⟩:=dW I pv ru1
   refine⟨a,t1,t2,rfl,?_⟩
   unfold cR
   rw [List.getD_eq_getElem?_getD,hp]
   obtain⟨o,h1,h2⟩:=ht
   have lt:=Heap.lt_size h1
   refine⟨o,kp a o (fun m=>absurd (List.mem_singleton.mp m) (Nat.ne_of_lt lt)) ?_ (Heap.get?_push_of_some _ h1),h2⟩
   show a≠(s.heap.push _).objs.size
   rw [Heap.size_push]
   exact Nat.ne_of_lt (Nat.lt_succ_of_lt lt)
  obtain⟨a,t1,t2,rfl,ha⟩:=at_ hi
  obtain⟨b,t3,t4,rfl,hb⟩:=at_ hj
  exact oS (mH hr) ha hb h3
 ·rw [jh pw _ (by rw [List.size_toArray];omega)] at hP
  obtain⟨x,hx⟩:∃ x,vs[0]?=some x:=⟨_,List.getElem?_eq_getElem (by rw [al.len];omega)⟩
  obtain⟨u1,e4,ru1⟩:=aT.get rv hx
  have hP':its.toArray[0]?=some v:=hP
  rw [List.getElem?_toArray,e4] at hP'
  cases hP'
  exact⟨x,H,I.kept (t':=tk) (mE hk),ru1,q x hx⟩
def o9 (k:Int):Value->Bool
 | .int n _=>n == k
 | _=>false
theorem mY (k:Int):∀ {ns:List Int} {us:List Value},aT (ns.map V.int) us->us.countP (o9 k)=ns.count k
 | [],[],_=>rfl
 | n :: ns,u :: us,h=>by
  cases h with
  | cons a t=>
   obtain⟨tk,rfl⟩:=(show ∃ k,u=Value.int n k from a)
   rw [List.countP_cons,List.count_cons,mY k t]
   rfl
 | [],_ :: _,h=>by cases h
 | _ :: _,[],h=>by cases h
def Ci (K:Fg):V->List V->Hp->VK->Prop:=fun x vs H Q=>∃ (l:Addr) (ns:List Int) (n:Int),x=.ref l/\vs=[.int n]/\aQ K H l (ns.map V.int)/\Q (.int (ns.count n:Nat)) H
theorem qx {X:Cx}:Dg X "list.count" (Ci X.K):=by
 intro pins s σ H x vs v us Q I rx rv h
 obtain⟨l,ns,n,rfl,rfl,hq,q⟩:=h
 cases rx
 obtain⟨u,rfl,ru⟩:=rv.one
 obtain⟨tk,rfl⟩:=(show ∃ k,u=Value.int n k from ru)
 obtain⟨its,r,pl,hz⟩:=I.list hq
 obtain⟨⟨cls,dd,data,sl⟩,ho,hc,m,hdt⟩:=id pl.isList
 simp only at hc hdt
 subst hc hdt
 have all:∀ y,y∈its->∃ a t,y=Value.int a t:=fun y hy=>by
  obtain⟨i,hi⟩:=List.getElem?_of_mem hy
  have il:=(List.getElem?_eq_some_iff.mp hi).1
  have lr:=r.length
  rw [List.length_map] at lr
  obtain⟨a,ha⟩:∃ a,ns[i]?=some a:=⟨_,List.getElem?_eq_getElem (by omega)⟩
  obtain⟨u1,e4,ru1⟩:=aT.get r (show (ns.map V.int)[i]?=some (V.int a) by rw [List.getElem?_map,ha];rfl)
  rw [hi] at e4
  cases e4
  obtain⟨t,e⟩:=(show ∃ k,y=Value.int a k from ru1)
  exact⟨a,t,e⟩
 refine call_meets PySem.F.slot_list_count ⟨_,ho,rfl⟩ PySem.F.entry_list_count (PySem.F.args_list_count_2 _ _) (SeqAt.list_countAt l its.toArray m dd sl (.int n tk) (o9 n)) ⟨ho,fun y hy=>?_,?_⟩
 ·obtain⟨a,t,rfl⟩:=all y (by simpa using hy)
  exact fun prog w E Q hq=>wpAny_eqBool_int hq
 ·rw [show its.toArray.toList=its from rfl,mY n r]
  exact⟨.int _,H,I.tok _,⟨_,rfl⟩,q⟩
theorem n4 {X:Cx} {K:Fg} (hK:X.K=K):Dg X "list.count" (Ci K):=by subst hK;exact qx
theorem tL {X:Cx} {k1 v1 k2 v2:Expr} {t1 t2 t3 t4:TE} {pos:Pos} (h1:QE X k1 t1) (h2:QE X v1 t2) (h3:QE X k2 t3) (h4:QE X v2 t4):QE X (.Dict [some k1,some k2] [v1,v2] pos) (xV [(t1,t2),(t3,t4)]):=
 ⟨wA (md h1.p h2.p (md h3.p h4.p v8)) rfl rfl (by simp) (by show 2≤15;decide)⟩
theorem u8 {α β:Type} {K:Fg} {H:Hp} {D a:Addr} {xs:List V} {ds:List α} {P:Hp->V->β->Prop} {f:α->β} {p:α->Bool} {src:List (Option Nat)} {σ:L2.St} {g:TG} {tt:TT} {te:TE} {Q:Hp->Prop}
  (mono:∀ H H' v d,aI K H H'->P H v d->P H' v d) (hD:H D=none) (hS:aQ K H a xs) (hl:xs.length=ds.length) (hn:ds.length≤1000)
  (turn:∀ (i:Nat) (x:V) (d:α) (H':Hp),xs[i]?=some x->ds[i]?=some d->aA H H'->∀ (R:VK) (E:Hp->Prop),(p d=true->∀ v H'',aA H' H''->P H'' v (f d)->R v H'')->(p d=false->∀ H'',aA H' H''->E H'')→
   g x (bw src σ) H' fun σ2 H2=>dz (bw src σ) σ2/\tt σ2 H2 fun ok H3=>if ok=true then te σ2 H3 R else E H3)
  (fin:∀ H' ys,aA H H'->H' D=some (.lst ys)->cv (P H') ys ((ds.filter p).map f)->Q H') :
  ∃ W:Nat->Nat->List V->Hp->Prop,(∃ m,W 0 m [] (upd H D (.lst [])))/\∀ i m ys H,W i m ys H->((pP K a).stop i H/\Q H)∨((pP K a).go i H/\∀ x H',(pP K a).yld i H x H'→
   g x (bw src σ) H' fun σ2 H2=>dz (bw src σ) σ2/\tt σ2 H2 fun ok H3=>
    if ok=true then te σ2 H3 fun y H4=>H4 D=some (.lst ys)/\ys.length < sizeLine/\∃ m',m' < m/\W (i+1) m' (ys++[y]) (upd H4 D (.lst (ys++[y]))) else ∃ m',m' < m/\W (i+1) m' ys H3):=by
 refine⟨fun i m ys H'=>i≤ds.length/\m=ds.length - i/\H' D=some (.lst ys)/\aA H H'/\cv (P H') ys (((ds.take i).filter p).map f),⟨_,Nat.zero_le _,rfl,ai,ak hD _,.nil⟩,?_⟩
 rintro i m ys H1 ⟨hi,rfl,d1,s1,al1⟩
 have hS1:aQ K H1 a xs:=s1.seq hS
 by_cases hix:i < ds.length
 ·have hx0:xs[i]?=some (xs[i]'(by omega)):=List.getElem?_eq_getElem _
  refine .inr ⟨⟨xs,_,hS1,hx0⟩,?_⟩
  rintro x H2 ⟨rfl,hy⟩
  have hx:=hy xs hS1
  obtain⟨d,hd⟩:∃ d,ds[i]?=some d:=⟨_,List.getElem?_eq_getElem hix⟩
  have tk:ds.take (i+1)=ds.take i++[d]:=by rw [List.take_add_one,hd];rfl
  refine turn i x d _ hx hd s1 _ _ (fun o3 v H3 s3 p3=>?_) fun n3 H3 s3=>?_
  ·have d3:H3 D=some (.lst ys):=s3 _ _ d1
   have tm:aI K H2 (upd H3 D (.lst (ys++[v]))):=(aI.same s3).trans (aI.up d3 _)
   have ly:ys.length≤1000:=by
    rw [al1.len,List.length_map]
    exact Nat.le_trans (List.length_filter_le _ _) (by rw [List.length_take];omega)
   refine⟨d3,bA ly,ds.length - (i+1),by omega,hix,rfl,ai,fun b o q=>?_,?_⟩
   ·rw [aw (aM q hD)]
    exact s3 _ _ (s1 _ _ q)
   ·rw [tk,List.filter_append,List.filter_cons_of_pos o3,List.filter_nil,List.map_append]
    exact (al1.mono fun v d p=>mono _ _ _ _ tm p).snoc (mono _ _ _ _ (aI.up d3 _) p3)
  ·refine⟨ds.length - (i+1),by omega,hix,rfl,s3 _ _ d1,s1.trans s3,?_⟩
   rw [tk,List.filter_append,List.filter_cons_of_neg (by rw [n3];decide),List.filter_nil,List.append_nil]
   exact al1.mono fun v d p=>mono _ _ _ _ (aI.same s3) p
 ·have e:i=ds.length:=by omega
  subst e
  rw [List.take_length] at al1
  exact .inl ⟨⟨xs,hS1,by omega⟩,fin H1 ys s1 d1 al1⟩
theorem mX {β:Type} {K:Fg} {H:Hp} {D:Addr} {n:Nat} {P:Hp->V->β->Prop} {f:Nat->β} {p:Nat->Bool} {src:List (Option Nat)} {σ:L2.St} {g:TG} {tt:TT} {te:TE} {Q:Hp->Prop}
  (mono:∀ H H' v d,aI K H H'->P H v d->P H' v d) (hD:H D=none) (hn:n≤1000)
  (turn:∀ (i:Nat) (H':Hp),i < n->aA H H'->∀ (R:VK) (E:Hp->Prop),(p i=true->∀ v H'',aA H' H''->P H'' v (f i)->R v H'')->(p i=false->∀ H'',aA H' H''->E H'')→
   g (.int (0+(i:Int))) (bw src σ) H' fun σ2 H2=>dz (bw src σ) σ2/\tt σ2 H2 fun ok H3=>if ok=true then te σ2 H3 R else E H3)
  (fin:∀ H' ys,aA H H'->H' D=some (.lst ys)->cv (P H') ys (((List.range n).filter p).map f)->Q H') :
  ∃ W:Nat->Nat->List V->Hp->Prop,(∃ m,W 0 m [] (upd H D (.lst [])))/\∀ i m ys H,W i m ys H->((rp 0 n).stop i H/\Q H)∨((rp 0 n).go i H/\∀ x H',(rp 0 n).yld i H x H'→
   g x (bw src σ) H' fun σ2 H2=>dz (bw src σ) σ2/\tt σ2 H2 fun ok H3=>
    if ok=true then te σ2 H3 fun y H4=>H4 D=some (.lst ys)/\ys.length < sizeLine/\∃ m',m' < m/\W (i+1) m' (ys++[y]) (upd H4 D (.lst (ys++[y]))) else ∃ m',m' < m/\W (i+1) m' ys H3):=by
 refine⟨fun i m ys H'=>i≤n/\m=n - i/\H' D=some (.lst ys)/\aA H H'/\cv (P H') ys (((List.range i).filter p).map f),⟨_,Nat.zero_le _,rfl,ai,ak hD _,.nil⟩,?_⟩
 rintro i m ys H1 ⟨hi,rfl,d1,s1,al1⟩
 by_cases hix:i < n
 ·refine .inr ⟨hix,?_⟩
  rintro x H2 ⟨rfl,rfl⟩
  have tk:List.range (i+1)=List.range i++[i]:=List.range_succ
  refine turn i _ hix s1 _ _ (fun o3 v H3 s3 p3=>?_) fun n3 H3 s3=>?_
  ·have d3:H3 D=some (.lst ys):=s3 _ _ d1
   have tm:aI K H2 (upd H3 D (.lst (ys++[v]))):=(aI.same s3).trans (aI.up d3 _)
   have ly:ys.length≤1000:=by
    rw [al1.len,List.length_map]
    exact Nat.le_trans (List.length_filter_le _ _) (by rw [List.length_range];omega)
   refine⟨d3,bA ly,n - (i+1),by omega,hix,rfl,ai,fun b o q=>?_,?_⟩
   ·rw [aw (aM q hD)]
    exact s3 _ _ (s1 _ _ q)
   ·rw [tk,List.filter_append,List.filter_cons_of_pos o3,List.filter_nil,List.map_append]
    exact (al1.mono fun v d p=>mono _ _ _ _ tm p).snoc (mono _ _ _ _ (aI.up d3 _) p3)
  ·refine⟨n - (i+1),by omega,hix,rfl,s3 _ _ d1,s1.trans s3,?_⟩
   rw [tk,List.filter_append,List.filter_cons_of_neg (by rw [n3];decide),List.filter_nil,List.append_nil]
   exact al1.mono fun v d p=>mono _ _ _ _ (aI.same s3) p
 ·have e:i=n:=by omega
  subst e
  exact .inl ⟨Nat.le_refl _,fin H1 ys s1 d1 al1⟩
end B
namespace My
open PySem L2 B PyProof.Rows
theorem cn {X:Cx} {pos:Pos} (i:Nat) {x:Str} {e:Expr} {te:TE} {pos':Pos} (hN:X.N.Nodup) (he:QE X e te) (hi:X.N[i]?=some x:=by rfl) (hx:xM X.env.scope x:=by first | exact Or.inl rfl | exact Or.inr rfl) (hs:swapsWith e (some (.Name x pos')) pos.line X.env=pure false:=by rfl) (hf:X.fn x=true∨X.env.scope.names.lookup x=some .local:=by first | exact .inl rfl | exact .inr rfl | assumption):QS X (.Assign [.Name x pos'] e pos) (nw te (i4 i)):=zx hN hi hx he hs hf
theorem dU {N P:List Str} {sc:Scope} (a:sc.kind=.function:=by rfl) (b:sc.isCoroutine=false:=by rfl) (c:sc.isGenerator=false:=by rfl) (d:N.Nodup:=by decide +kernel) (e:N.take P.length=P:=by rfl) (f:∀ x∈P,sc.names.lookup x=some .local∨sc.names.lookup x=some .cell:=by decide +kernel) (g:∀ y∈sc.names,y.2≠.free:=by decide +kernel):aF N P sc:=⟨a,b,c,d,e,f,g⟩
theorem bI {X:Cx} {k j:Nat} {f:Addr} {fd:FuncData} {ps:List Str} {sp:Sp} {x:Str} {p pos:Pos} {e:Expr} {es:List Expr} {t:TA} (F:bh X.prog X.w X.K X.mg X.base cZ k f fd ps sp) (hr:cc j X.A) (hm:X.mg x=some (.ref f)) (hk:PySem.W.keepIn X.K (.ref f)=true) (hb:aS X.K fd ps []) (ha:QA X (e :: es) t) (hl:k≤j:=by decide) (hg:Gl X x:=by rfl) (hdb:(x == ("__debug__" : Str))=false:=by decide) (he:starEach (e :: es) X.env=(false,eval e X.env) :: starEach es X.env:=by rfl) (hpl:(backTo pos (starEach es X.env)).any (·.1)=false:=by rfl):QE X (.Call (.Name x p) (e :: es) [] pos) (rW sp [] E0 t):=c6 F (hr.mono hl) hg hm hk hb .nil gT ha hdb he hpl
theorem bv {X:Cx} {a b:Expr} {ta tb:TE} {pos:Pos} {r:R2} (hr:Br X r) (ha:QE X a ta) (hb:QE X b tb) (hs:lA b:=by exact fun _ _=>rfl):QE X (.Subscript a b pos) (vC r ta tb):=bP hr ha hb hs
theorem F6 {K:Fg} {x qual:Str} {st:Stmt} {f:Addr} {fd:FuncData} {ps:List Str} (F:Fun K x qual st f fd) (h:∀ (kV doc pm:Value) (an:Option Addr) (cdv ct:Value) (us:List Value),us.length=ps.length->bindArgs (PySem.W.fnOf x qual (da st) (cI st) (au st) .none kV doc pm an cdv ct) ⟨us,[]⟩=pure (ps.zip us):=by
 intro _ _ _ _ _ _ us hl
 match us,hl with
 | [],h2=>first | rfl | (simp at h2)
 | [_],h2=>first | rfl | (simp at h2)
 | [_,_],h2=>first | rfl | (simp at h2)
 | [_,_,_],h2=>first | rfl | (simp at h2)
 | [_,_,_,_],h2=>first | rfl | (simp at h2)
 | _ :: _ :: _ :: _ :: _ :: _,h2=>simp at h2):aS K fd ps []:=F.binds h
def top (i:Nat):Stmt:=PySem.Challenge.pw_paceplan_k17_plans_let_by_or_not.main.body.getD i (.Pass ⟨0,0,0,0⟩)
abbrev sQ:Stmt:=top 1
abbrev zf:Stmt:=top 2
abbrev zj:Stmt:=top 3
abbrev sy:Stmt:=top 4
abbrev zp:Stmt:=top 14
abbrev sO:Stmt:=top 15
abbrev zo:Stmt:=top 16
abbrev sx:Stmt:=top 17
abbrev sv:Stmt:=top 18
abbrev sw:Stmt:=top 19
abbrev sX:Stmt:=top 22
abbrev sN:Stmt:=top 24
abbrev sZ:Stmt:=top 25
abbrev zm:Stmt:=top 26
abbrev zi:Stmt:=top 27
abbrev zn:Stmt:=top 28
abbrev zh:Stmt:=top 29
abbrev sY:Stmt:=top 30
abbrev sM:Stmt:=top 32
abbrev sL:Stmt:=top 33
abbrev sE:Stmt:=top 34
abbrev sW:Stmt:=top 35
abbrev sK:Stmt:=top 36
abbrev sV:Stmt:=top 38
abbrev sC:Stmt:=top 41
abbrev sJ:Stmt:=top 42
abbrev sU:Stmt:=top 43
abbrev sI:Stmt:=top 44
abbrev sT:Stmt:=top 45
abbrev tj:Stmt:=top 46
abbrev sS:Stmt:=top 47
abbrev zg:Stmt:=top 48
abbrev sB:Stmt:=top 49
abbrev sH:Stmt:=top 50
abbrev zk:Stmt:=top 51
abbrev sR:Stmt:=top 52
abbrev tf:Stmt:=top 53
abbrev sG:Stmt:=top 54
abbrev sF:Stmt:=top 55
abbrev su:Stmt:=top 56
abbrev jJ:Stmt:=wY (top 8) 0
structure Ad where
 a_Q23:Addr
 d_Q23:FuncData
 a_Q9:Addr
 d_Q9:FuncData
 a_Q5:Addr
 d_Q5:FuncData
 a_Q39:Addr
 d_Q39:FuncData
 a_Q0:Addr
 d_Q0:FuncData
 a_Q24:Addr
 d_Q24:FuncData
 a_Q1:Addr
 d_Q1:FuncData
 a_Q41:Addr
 d_Q41:FuncData
 a_Q43:Addr
 d_Q43:FuncData
 a_Q42:Addr
 d_Q42:FuncData
 a_Q14:Addr
 d_Q14:FuncData
 a_Q25:Addr
 d_Q25:FuncData
 a_Q12:Addr
 d_Q12:FuncData
 a_Q3:Addr
 d_Q3:FuncData
 a_Q6:Addr
 d_Q6:FuncData
 a_Q2:Addr
 d_Q2:FuncData
 a_Q7:Addr
 d_Q7:FuncData
 a_Q13:Addr
 d_Q13:FuncData
 a_Q26:Addr
 d_Q26:FuncData
 a_Q27:Addr
 d_Q27:FuncData
 a_Q34:Addr
 d_Q34:FuncData
 a_Q15:Addr
 d_Q15:FuncData
 a_Q28:Addr
 d_Q28:FuncData
 a_Q16:Addr
 d_Q16:FuncData
 a_Q35:Addr
 d_Q35:FuncData
 a_Q29:Addr
 d_Q29:FuncData
 a_Q17:Addr
 d_Q17:FuncData
 a_Q30:Addr
 d_Q30:FuncData
 a_Q18:Addr
 d_Q18:FuncData
 a_Q10:Addr
 d_Q10:FuncData
 a_Q19:Addr
 d_Q19:FuncData
 a_Q8:Addr
 d_Q8:FuncData
 a_Q36:Addr
 d_Q36:FuncData
 a_Q31:Addr
 d_Q31:FuncData
 a_Q4:Addr
 d_Q4:FuncData
 a_Q20:Addr
 d_Q20:FuncData
 a_Q11:Addr
 d_Q11:FuncData
 a_Q32:Addr
 d_Q32:FuncData
 a_Q33:Addr
 d_Q33:FuncData
 a_Q44:Addr
 d_Q44:FuncData
 c_NOUGHT:Addr
 k_TURNS:Tok
 c_base:Addr
 c_Q40:Addr
 a_Q40:Addr
 d_Q40:FuncData
 c_Q21:Addr
 c_Q37:Addr
 c_Q38:Addr
 c_Q22:Addr
structure dM (K:Fg) (mg:Str->Option Value) (t:Ad):Prop where
 F_Q23:Fun K "is_whole" "is_whole" sQ t.a_Q23 t.d_Q23
 b_Q23:aS K t.d_Q23 ["thing"] []
 m_Q23:mg "is_whole" = some (.ref t.a_Q23)
 F_Q9:Fun K "is_tuple_of" "is_tuple_of" zf t.a_Q9 t.d_Q9
 b_Q9:aS K t.d_Q9 ["thing", "length"] []
 m_Q9:mg "is_tuple_of" = some (.ref t.a_Q9)
 F_Q5:Fun K "is_number_of" "is_number_of" zj t.a_Q5 t.d_Q5
 b_Q5:aS K t.d_Q5 ["thing", "count"] []
 m_Q5:mg "is_number_of" = some (.ref t.a_Q5)
 F_Q39:Fun K "copied" "copied" sy t.a_Q39 t.d_Q39
 b_Q39:aS K t.d_Q39 ["thing"] []
 m_Q39:mg "copied" = some (.ref t.a_Q39)
 F_Q0:Fun K "greatest_divisor" "greatest_divisor" zp t.a_Q0 t.d_Q0
 b_Q0:aS K t.d_Q0 ["one", "other"] []
 m_Q0:mg "greatest_divisor" = some (.ref t.a_Q0)
 F_Q24:Fun K "is_ratio" "is_ratio" sO t.a_Q24 t.d_Q24
 b_Q24:aS K t.d_Q24 ["thing"] []
 m_Q24:mg "is_ratio" = some (.ref t.a_Q24)
 F_Q1:Fun K "is_above_nought" "is_above_nought" zo t.a_Q1 t.d_Q1
 b_Q1:aS K t.d_Q1 ["thing"] []
 m_Q1:mg "is_above_nought" = some (.ref t.a_Q1)
 F_Q41:Fun K "ratio" "ratio" sx t.a_Q41 t.d_Q41
 b_Q41:aS K t.d_Q41 ["top", "bottom"] []
 m_Q41:mg "ratio" = some (.ref t.a_Q41)
 F_Q43:Fun K "plus" "plus" sv t.a_Q43 t.d_Q43
 b_Q43:aS K t.d_Q43 ["one", "other"] []
 m_Q43:mg "plus" = some (.ref t.a_Q43)
 F_Q42:Fun K "total" "total" sw t.a_Q42 t.d_Q42
 b_Q42:aS K t.d_Q42 ["some"] []
 m_Q42:mg "total" = some (.ref t.a_Q42)
 F_Q14:Fun K "in_window" "in_window" sX t.a_Q14 t.d_Q14
 b_Q14:aS K t.d_Q14 ["work", "turn"] []
 m_Q14:mg "in_window" = some (.ref t.a_Q14)
 F_Q25:Fun K "is_piece" "is_piece" sN t.a_Q25 t.d_Q25
 b_Q25:aS K t.d_Q25 ["thing", "count"] []
 m_Q25:mg "is_piece" = some (.ref t.a_Q25)
 F_Q12:Fun K "are_pieces" "are_pieces" sZ t.a_Q12 t.d_Q12
 b_Q12:aS K t.d_Q12 ["thing", "count"] []
 m_Q12:mg "are_pieces" = some (.ref t.a_Q12)
 F_Q3:Fun K "is_plan_shaped" "is_plan_shaped" zm t.a_Q3 t.d_Q3
 b_Q3:aS K t.d_Q3 ["thing", "count"] []
 m_Q3:mg "is_plan_shaped" = some (.ref t.a_Q3)
 F_Q6:Fun K "are_in_place" "are_in_place" zi t.a_Q6 t.d_Q6
 b_Q6:aS K t.d_Q6 ["works", "turn", "pieces"] []
 m_Q6:mg "are_in_place" = some (.ref t.a_Q6)
 F_Q2:Fun K "pieces_in_order" "pieces_in_order" zn t.a_Q2 t.d_Q2
 b_Q2:aS K t.d_Q2 ["plan"] []
 m_Q2:mg "pieces_in_order" = some (.ref t.a_Q2)
 F_Q7:Fun K "is_lean_kept" "is_lean_kept" zh t.a_Q7 t.d_Q7
 b_Q7:aS K t.d_Q7 ["row", "lean"] []
 m_Q7:mg "is_lean_kept" = some (.ref t.a_Q7)
 F_Q13:Fun K "right_plan" "right_plan" sY t.a_Q13 t.d_Q13
 b_Q13:aS K t.d_Q13 ["sheet", "thing"] []
 m_Q13:mg "right_plan" = some (.ref t.a_Q13)
 F_Q26:Fun K "_law_tape" "_law_tape" sM t.a_Q26 t.d_Q26
 b_Q26:aS K t.d_Q26 ["_law_script"] []
 m_Q26:mg "_law_tape" = some (.ref t.a_Q26)
 F_Q27:Fun K "_law_draw" "_law_draw" sL t.a_Q27 t.d_Q27
 b_Q27:aS K t.d_Q27 ["_law_tape_here", "_law_many"] []
 m_Q27:mg "_law_draw" = some (.ref t.a_Q27)
 F_Q34:Fun K "_law_gcd" "_law_gcd" sE t.a_Q34 t.d_Q34
 b_Q34:aS K t.d_Q34 ["_law_one", "_law_other"] []
 m_Q34:mg "_law_gcd" = some (.ref t.a_Q34)
 F_Q15:Fun K "_law_ratio" "_law_ratio" sW t.a_Q15 t.d_Q15
 b_Q15:aS K t.d_Q15 ["_law_top", "_law_bottom"] []
 m_Q15:mg "_law_ratio" = some (.ref t.a_Q15)
 F_Q28:Fun K "_law_plus" "_law_plus" sK t.a_Q28 t.d_Q28
 b_Q28:aS K t.d_Q28 ["_law_one", "_law_other"] []
 m_Q28:mg "_law_plus" = some (.ref t.a_Q28)
 F_Q16:Fun K "_law_times" "_law_times" sV t.a_Q16 t.d_Q16
 b_Q16:aS K t.d_Q16 ["_law_one", "_law_other"] []
 m_Q16:mg "_law_times" = some (.ref t.a_Q16)
 F_Q35:Fun K "_law_sum" "_law_sum" sC t.a_Q35 t.d_Q35
 b_Q35:aS K t.d_Q35 ["_law_some"] []
 m_Q35:mg "_law_sum" = some (.ref t.a_Q35)
 F_Q29:Fun K "_law_part" "_law_part" sJ t.a_Q29 t.d_Q29
 b_Q29:aS K t.d_Q29 ["_law_tape_here"] []
 m_Q29:mg "_law_part" = some (.ref t.a_Q29)
 F_Q17:Fun K "_law_works" "_law_works" sU t.a_Q17 t.d_Q17
 b_Q17:aS K t.d_Q17 ["_law_tape_here", "_law_most", "_law_end"] []
 m_Q17:mg "_law_works" = some (.ref t.a_Q17)
 F_Q30:Fun K "_law_plan" "_law_plan" sI t.a_Q30 t.d_Q30
 b_Q30:aS K t.d_Q30 ["_law_tape_here", "_law_works_here"] []
 m_Q30:mg "_law_plan" = some (.ref t.a_Q30)
 F_Q18:Fun K "_law_spots" "_law_spots" sT t.a_Q18 t.d_Q18
 b_Q18:aS K t.d_Q18 ["_law_plan_here", "_law_number"] []
 m_Q18:mg "_law_spots" = some (.ref t.a_Q18)
 F_Q10:Fun K "_law_fitting" "_law_fitting" tj t.a_Q10 t.d_Q10
 b_Q10:aS K t.d_Q10 ["_law_tape_here", "_law_works_here", "_law_plan_here"] []
 m_Q10:mg "_law_fitting" = some (.ref t.a_Q10)
 F_Q19:Fun K "_law_whole" "_law_whole" sS t.a_Q19 t.d_Q19
 b_Q19:aS K t.d_Q19 ["_law_thing"] []
 m_Q19:mg "_law_whole" = some (.ref t.a_Q19)
 F_Q8:Fun K "_law_is_piece" "_law_is_piece" zg t.a_Q8 t.d_Q8
 b_Q8:aS K t.d_Q8 ["_law_thing", "_law_many"] []
 m_Q8:mg "_law_is_piece" = some (.ref t.a_Q8)
 F_Q36:Fun K "_law_due" "_law_due" sB t.a_Q36 t.d_Q36
 b_Q36:aS K t.d_Q36 ["_law_sheet", "_law_thing"] []
 m_Q36:mg "_law_due" = some (.ref t.a_Q36)
 F_Q31:Fun K "_law_with" "_law_with" sH t.a_Q31 t.d_Q31
 b_Q31:aS K t.d_Q31 ["_law_row", "_law_at", "_law_thing"] []
 m_Q31:mg "_law_with" = some (.ref t.a_Q31)
 F_Q4:Fun K "_law_bent_piece" "_law_bent_piece" zk t.a_Q4 t.d_Q4
 b_Q4:aS K t.d_Q4 ["_law_tape_here", "_law_piece", "_law_many"] []
 m_Q4:mg "_law_bent_piece" = some (.ref t.a_Q4)
 F_Q20:Fun K "_law_moved" "_law_moved" sR t.a_Q20 t.d_Q20
 b_Q20:aS K t.d_Q20 ["_law_tape_here", "_law_plan_here", "_law_t", "_law_place"] []
 m_Q20:mg "_law_moved" = some (.ref t.a_Q20)
 F_Q11:Fun K "_law_changed" "_law_changed" tf t.a_Q11 t.d_Q11
 b_Q11:aS K t.d_Q11 ["_law_plan_here", "_law_one", "_law_other"] []
 m_Q11:mg "_law_changed" = some (.ref t.a_Q11)
 F_Q32:Fun K "_law_bent" "_law_bent" sG t.a_Q32 t.d_Q32
 b_Q32:aS K t.d_Q32 ["_law_tape_here", "_law_sheet", "_law_plan_here"] []
 m_Q32:mg "_law_bent" = some (.ref t.a_Q32)
 F_Q33:Fun K "_law_told" "_law_told" sF t.a_Q33 t.d_Q33
 b_Q33:aS K t.d_Q33 ["_law_sheet", "_law_thing"] []
 m_Q33:mg "_law_told" = some (.ref t.a_Q33)
 F_Q44:Fun K "law" "law" su t.a_Q44 t.d_Q44
 b_Q44:aS K t.d_Q44 ["_law_script"] []
 m_Q44:mg "law" = some (.ref t.a_Q44)
 m_NOUGHT:mg "NOUGHT" = some (.ref t.c_NOUGHT)
 q_NOUGHT:∀ H,aV K H t.c_NOUGHT [.int (0),.int (1)]
 m_TURNS:mg "TURNS" = some (.int (24) t.k_TURNS)
 X_Q40:XC K t.c_Q40 t.a_Q40 (.ref t.c_base :: iB)
 F_Q40:Fun K "__init__" "NoPlan.__init__" jJ t.a_Q40 t.d_Q40
 b_Q40:aS K t.d_Q40 ["self", "word", "number"] []
 m_Q40:mg "NoPlan" = some (.ref t.c_Q40)
 n_Q40_word:dn K t.c_Q40 "word"
 n_Q40_number:dn K t.c_Q40 "number"
 g_Q40:oB K t.c_Q40
 m_Q21:mg "PaceError" = some (.ref t.c_Q21)
 m_Q37:mg "NoLeast" = some (.ref t.c_Q37)
 m_Q38:mg "NoSheet" = some (.ref t.c_Q38)
 m_Q22:mg "NoStretch" = some (.ref t.c_Q22)
 x_catch:PySem.W.exmOne K (.ref t.c_Q40) (.ref t.c_Q21)=some true
 y_self:PySem.W.kitOne K (.ref t.c_Q40) (.ref t.c_Q40)=some true
 y_val:PySem.W.kitOne K (.ref t.c_Q40) (.type "ValueError")=some true
 y_not:PySem.W.kitAny K (.ref t.c_Q40) [.ref t.c_Q37,.ref t.c_Q38,.ref t.c_Q22]=some false
 z_ValueError:mg "ValueError" = none
 z_abs:mg "abs" = none
 z_all:mg "all" = none
 z_bool:mg "bool" = none
 z_enumerate:mg "enumerate" = none
 z_int:mg "int" = none
 z_isinstance:mg "isinstance" = none
 z_len:mg "len" = none
 z_list:mg "list" = none
 z_max:mg "max" = none
 z_min:mg "min" = none
 z_range:mg "range" = none
 z_repr:mg "repr" = none
 z_set:mg "set" = none
 z_sum:mg "sum" = none
 z_tuple:mg "tuple" = none
 z_zip:mg "zip" = none
def fu (_:Fg):Sp:=fun vs H Q _=>∃ a b:Int,vs=[.int a,.int b]/\Q (.int (Int.gcd a b:Nat)) H
def nG (_:Fg):Sp:=fun vs H Q _=>∃ a b:Int,vs=[.int a,.int b]/\0≤a/\0≤b/\Q (.int (Int.gcd a b:Nat)) H
abbrev lR:=vF
def lV (_:Fg):Sp:=vI
abbrev kq:=vH
def qr (H:Hp) (Q:VK) (r:R):Prop:=∀ p,H p=none->Q (.ref p) (upd H p (.tup [.int r.1,.int r.2]))
def Do (K:Fg) (H:Hp) (Q:VK) (r:R):Prop:=∀ (v:V) (H':Hp),aA H H'->RV K H' v r->Q v H'
def lO (_:Fg):Sp:=fun vs H Q _=>∃ a b:Int,vs=[.int a,.int b]/\b≠0/\b.natAbs < 2 ^ 4000/\qr H Q (fP a b)
abbrev kn:=lO
def oK (K:Fg):Sp:=fun vs H Q _=>∃ (v w:V) (r q:R) (n m:Nat),vs=[v,w]/\RV K H v r/\RV K H w q/\Wf n r/\Wf m q/\n+m+1≤3990/\qr H Q (ci r q)
abbrev lS:=oK
def BM (K:Fg):Sp:=fun vs H Q _=>∃ (v w:V) (r q:R) (n m:Nat),vs=[v,w]/\RV K H v r/\RV K H w q/\Wf n r/\Wf m q/\n+m+1≤3990/\Do K H Q (kP r q)
def vG (K:Fg):Sp:=fun vs H Q _=>∃ (v w:V) (r q:R) (n m:Nat),vs=[v,w]/\RV K H v r/\RV K H w q/\Wf n r/\Wf m q/\n+m+1≤3990/\qr H Q (kP r q)
def si (K:Fg):Sp:=fun vs H Q _=>∃ (v w:V) (r q:R) (n m:Nat),vs=[v,w]/\RV K H v r/\RV K H w q/\Wf n r/\Wf m q/\n+m+1≤3990/\qr H Q (bG r q)
abbrev kj:=si
def Du (K:Fg):Sp:=fun vs H Q _=>∃ (v w:V) (r q:R) (n m:Nat),vs=[v,w]/\RV K H v r/\RV K H w q/\Wf n r/\Wf m q/\n+m+1≤3990/\q.1≠0/\Do K H Q (ur r q)
def xZ (K:Fg):Sp:=fun vs H Q _=>∃ (v w:V) (r q:R) (n m:Nat),vs=[v,w]/\RV K H v r/\RV K H w q/\Wf n r/\Wf m q/\n+m+1≤3990/\q.1≠0/\qr H Q (ur r q)
def nH (K:Fg):Sp:=fun vs H Q _=>∃ (v w:V) (r q:R) (n m:Nat),vs=[v,w]/\RV K H v r/\RV K H w q/\Wf n r/\Wf m q/\n+m+1≤3990/\Q (.bl (gY r q)) H
abbrev ya:=nH
def Bi (K:Fg):Sp:=fun vs H Q _=>∃ (v:V) (r:R) (k:Int),vs=[v,.int k]/\RV K H v r/\Wf 310 r/\0≤k/\k≤4/\Do K H Q (zR r k.toNat)
theorem cj {i:Int} {n:Nat} (h:i.natAbs < 2 ^ n) (hn:n≤4000):i.natAbs < 2 ^ 4000:=Nat.lt_of_lt_of_le h (Nat.pow_le_pow_right (by decide) hn)
theorem tq {K:Fg} {H:Hp} {p:Addr} {x y:Int} (_:aA H (upd H p (.tup [.int x,.int y]))):RV K (upd H p (.tup [.int x,.int y])) (.ref p) (x,y):=RV.of ai
theorem k9 {a g:Int} (hg:0 < g) (h:a.natAbs < 2 ^ 4000):(a / g).natAbs < 2 ^ 4000:=Nat.lt_of_le_of_lt (dI a hg) h
theorem uQ {a b:Int} (hb:0 < b) (h:b.natAbs < 2 ^ 4000):((Int.gcd a b:Nat):Int).natAbs < 2 ^ 4000:=kZ (by omega) h
def Ex (K:Fg) (H:Hp) (v:V) (w:R×R):Prop:=∃ p x y,v=.ref p/\aV K H p [x,y]/\RV K H x w.1/\RV K H y w.2
def GN (K:Fg) (H:Hp) (v:V):Rl->Prop
 | .pow k=>∃ p,v=.ref p/\aV K H p [.str (Str.ofString "power"),.int k]
 | .tab rows=>∃ p q xs,v=.ref p/\aV K H p [.str (Str.ofString "table"),.ref q]/\aV K H q xs/\cv (Ex K H) xs rows
def Gg (K:Fg) (H:Hp) (v:V):Option R->Prop
 | none=>v=.non
 | some r=>RV K H v r
structure jp (r:R):Prop where
 bq:Bq D0 N0 r
 pos:0 < r.1
theorem jp.wf {r:R} (h:jp r):Wf 98 r:=h.bq.wf (by decide) (by decide) (by decide)
theorem C4 {r:Int} (h0:0≤r) (h1:r < 30):(1+r)∣(D0:Int):=by
 have z:∀ k:Fin 30,(1+((k:Nat):Int))∣(D0:Int):=by decide
 have:=z ⟨r.toNat,by omega⟩
 rw [show (((⟨r.toNat,by omega⟩:Fin 30):Nat):Int)=r by show ((r.toNat:Nat):Int)=r;omega] at this
 exact this
theorem wG {a b:Int} (ha:0 < a) (ha':a≤1000000007) (hb:0 < b) (hd:b∣(D0:Int)):jp (eJ a b):=by
 refine⟨m3 hb hd ?_,kO ha hb⟩
 have h1:a.natAbs≤1000000007:=by omega
 have h2:1≤b.natAbs:=by omega
 show a.natAbs≤1000000007 * b.natAbs
 omega
theorem xt {D N:Nat}:Bq D N (0,1):=⟨by show (0:Int) < 1;decide,by show Int.gcd 0 1=1;decide,⟨(D:Int),by show (D:Int)=1 * (D:Int);omega⟩,Nat.zero_le _⟩
abbrev Dh:Nat:=33312720618553145840562713089120360606823375590405920630576000
abbrev D1:Nat:=193970774752861230035902119836802945305811496376696793889999390380432000000000000
def Gc (K:Fg) (H:Hp) (a:Addr) (xs:List V):Prop:=aQ K H a xs∨aV K H a xs
def sg (K:Fg):Sp:=fun vs H Q _=>∃ (a:Addr) (xs:List V) (rs:List R) (n D:Nat),vs=[.ref a]/\Gc K H a xs/\DJ K H xs rs/\(∀ r∈rs,Wf n r/\r.2∣(D:Int))/\0 < D/\D < 2 ^ n/\rs.length≤64/\n≤1300/\∀ (v':V) (H':Hp),aA H H'->RV K H' v' (cW rs)->Q v' H'
theorem xG {D i n:Nat} {ps:List (Int×Int)} {r:R} (h:∀ p∈ps,p.1∣(D:Int)) (hr:r.2∣(D:Int)):∀ p∈dZ ps r.2 r.1,p.1∣(D:Int):=fun p hp=>by
 rcases (gf ps r.2 r.1 p.1).mp (List.mem_map.mpr ⟨p,hp,rfl⟩) with z | z
 ·obtain⟨q,hq,e⟩:=List.mem_map.mp z
  rw [← e]
  exact h q hq
 ·rw [z];exact hr
theorem AQ {D n i:Nat} {ps:List (Int×Int)} (ok:ie n i ps) (hd:∀ p∈ps,p.1∣(D:Int)) (hi:i≤64) {q:Int×Int} (hq:q∈ps):Bq D (64 * 2 ^ n) (eJ q.2 q.1):=by
 have b:=(ok.bot q hq).1
 refine m3 b (hd q hq) (Nat.le_trans (ok.top q hq) ?_)
 refine Nat.le_trans (Nat.mul_le_mul_right _ hi) (Nat.le_mul_of_pos_right _ (by omega))
theorem A3 {D n j:Nat} {r:R} (h:Bq D (64 * 2 ^ n * j) r) (hj:j≤64) (h0:0 < D) (hD:D < 2 ^ n):Wf (2 * n+12) r:=by
 refine h.wf h0 (Nat.lt_of_lt_of_le hD (Nat.pow_le_pow_right (by decide) (by omega))) ?_
 have a:64 * 2 ^ n * j≤64 * 2 ^ n * 64:=Nat.mul_le_mul_left _ hj
 have b:64 * 2 ^ n * j * D < 64 * 2 ^ n * 64 * 2 ^ n:=Nat.lt_of_le_of_lt (Nat.mul_le_mul_right _ a) (Nat.mul_lt_mul_of_pos_left hD (Nat.mul_pos (Nat.mul_pos (by decide) (Nat.pow_pos (by decide))) (by decide)))
 refine Nat.lt_of_lt_of_le b ?_
 rw [show 2 * n+12=n+(n+12) by omega,Nat.pow_add,Nat.pow_add,show (2:Nat) ^ 12=4096 by decide]
 rw [show 64 * 2 ^ n * 64 * 2 ^ n=2 ^ n * (2 ^ n * 4096) by rw [show (4096:Nat)=64 * 64 by decide];ac_rfl]
 exact Nat.le_refl _
theorem rY {D N:Nat} (hD:0 < D):∀ {rs:List R},(∀ r∈rs,Bq D N r)->∀ {a:R} {M:Nat},Bq D M a->Bq D (M+N * rs.length) (rs.foldl ci a)
 | [],_,a,M,h=>by simpa using h
 | r :: rs,hr,a,M,h=>by
  have:=rY hD (fun q hq=>hr q (List.mem_cons_of_mem _ hq)) (h.plus hD (hr r List.mem_cons_self))
  rw [List.foldl_cons,List.length_cons,Nat.mul_succ]
  refine this.mono (Nat.dvd_refl _) (by omega)
theorem Et {D:Nat}:Bq D 0 ((0,1):R):=⟨by decide,by decide,⟨(D:Int),by show (D:Int)=1 * D;omega⟩,by show 0≤_;exact Nat.zero_le _⟩
theorem vE {D N:Nat} (hD:0 < D) {rs:List R} (h:∀ r∈rs,Bq D N r):Bq D (N * rs.length) (cW rs):=by
 have:=rY hD h (Et (D:=D))
 rw [Nat.zero_add] at this
 exact this
theorem xC {K:Fg} {H:Hp} {xs:List V} {rs:List R} (h:cv (RV K H) xs rs):DJ K H xs rs:=⟨h.len,fun i x r hx hr=>by obtain⟨d,hd,p⟩:=h.at hx;rw [hr] at hd;cases hd;exact p⟩
def nF (K:Fg):Sp:=fun vs H Q _=>∃ (a:Addr) (xs:List V) (rs:List R) (D N n:Nat),vs=[.ref a]/\aQ K H a xs/\cv (RV K H) xs rs/\(∀ r∈rs,Bq D N r)/\0 < D/\D < 2 ^ n/\N * 64 * D < 2 ^ n/\rs.length≤64/\n≤1900/\Do K H Q (cW rs)
theorem vD {D N n:Nat} {rs:List R} (h:∀ r∈rs,Bq D N r) (h0:0 < D) (h1:D < 2 ^ n) (h2:N * 64 * D < 2 ^ n) (hl:rs.length≤64):Wf n (cW rs):=
 (vE h0 h).wf h0 h1 (Nat.lt_of_le_of_lt (Nat.mul_le_mul_right _ (Nat.mul_le_mul_left _ hl)) h2)
theorem AZ {D N n:Nat} {r:R} (h:Bq D N r) (h0:0 < D) (h1:D < 2 ^ n) (h2:N * 64 * D < 2 ^ n):Wf n r:=
 h.wf h0 h1 (Nat.lt_of_le_of_lt (Nat.mul_le_mul_right _ (Nat.le_mul_of_pos_right _ (by decide))) h2)
abbrev Pc:Type:=Int×R
def m6 (K:Fg) (H:Hp) (v:V) (c:Pc):Prop:=∃ p x,v=.ref p/\aV K H p [.int c.1,x]/\RV K H x c.2
theorem m6.mono {K:Fg} {H H':Hp} {v:V} {c:Pc} (h:m6 K H v c) (t:aI K H H'):m6 K H' v c:=let ⟨p,x,a,b,d⟩:=h;⟨p,x,a,t _ _ b,d.mono t⟩
def rC (K:Fg) (H:Hp) (v:V) (cs:List Pc):Prop:=∃ p xs,v=.ref p/\aV K H p xs/\cv (m6 K H) xs cs
theorem rC.mono {K:Fg} {H H':Hp} {v:V} {c:List Pc} (h:rC K H v c) (t:aI K H H'):rC K H' v c:=let ⟨p,x,a,b,d⟩:=h;⟨p,x,a,t _ _ b,d.mono fun _ _ z=>z.mono t⟩
def ig (K:Fg) (H:Hp) (v:V) (pl:List (List Pc)):Prop:=∃ p xs,v=.ref p/\aV K H p xs/\cv (rC K H) xs pl
theorem ig.mono {K:Fg} {H H':Hp} {v:V} {c:List (List Pc)} (h:ig K H v c) (t:aI K H H'):ig K H' v c:=let ⟨p,x,a,b,d⟩:=h;⟨p,x,a,t _ _ b,d.mono fun _ _ z=>z.mono t⟩
abbrev Wk:=Nat×Nat×R
def yB (K:Fg) (H:Hp) (v:V) (w:Wk):Prop:=∃ p x,v=.ref p/\aV K H p [.int w.1,.int w.2.1,x]/\RV K H x w.2.2
theorem yB.mono {K:Fg} {H H':Hp} {v:V} {w:Wk} (h:yB K H v w) (t:aI K H H'):yB K H' v w:=let ⟨p,x,e,s,r⟩:=h;⟨p,x,e,t _ _ s,r.mono t⟩
def lm (K:Fg) (H:Hp) (v:V) (ws:List Wk):Prop:=∃ p xs,v=.ref p/\aV K H p xs/\cv (yB K H) xs ws
theorem lm.mono {K:Fg} {H H':Hp} {v:V} {ws:List Wk} (h:lm K H v ws) (t:aI K H H'):lm K H' v ws:=let ⟨p,xs,e,s,a⟩:=h;⟨p,xs,e,t _ _ s,a.mono fun _ _ q=>q.mono t⟩
def Bk (w:Wk):PyData:=.tuple [.int w.1,.int w.2.1,dR w.2.2]
theorem yB.deep {K:Fg} {H:Hp} {v:V} {w:Wk} (h:yB K H v w):aW K H v (Bk w):=by
 obtain⟨p,x,rfl,hS,rx⟩:=h
 exact .tup hS (.cons (.int _) (.cons (.int _) (.cons rx.deep .nil)))
theorem rJ (ws:List Wk):(PyData.list (ws.map Bk)).depth≤32:=by
 have:PyData.depthAll (ws.map Bk)≤8:=by
  induction ws with
  | nil=>exact Nat.zero_le _
  | cons w ws ih=>exact Nat.max_le.mpr ⟨(by show max 0 (max 0 (max (max 0 (max 0 0)+1) 0))+1≤8;decide),ih⟩
 show PyData.depthAll (ws.map Bk)+1≤32
 omega
theorem yF (ws:List Wk):(PyData.list (ws.map Bk)).canLay0=true:=fj fun d hd=>by
 obtain⟨w,_,rfl⟩:=List.mem_map.mp hd
 rfl
structure DF (w:Wk):Prop where
 le:w.1≤w.2.1
 l2:w.2.1 < 24
 po:jp w.2.2
def kh (K:Fg):Sp:=fun vs H Q _=>∃ (t s:Addr) (m e:Nat),vs=[.ref t,.int m,.int e]/\bE H t s/\m≤12/\1≤e/\e≤24/\∀ (v:V) (ws:List Wk) (H':Hp),Step t H H'->bE H' t s->lm K H' v ws->ws.length≤m->(∀ w∈ws,DF w)->Q v H'
def yD (K:Fg) (H:Hp) (v:V) (e:Ln):Prop:=∃ p,v=.ref p/\aV K H p [.int (e.1:Nat),.int (e.2:Nat)]
theorem yD.mono {K:Fg} {H H':Hp} {v:V} {e:Ln} (h:yD K H v e) (t:aI K H H'):yD K H' v e:=let ⟨p,q,s⟩:=h;⟨p,q,t _ _ s⟩
def rn (K:Fg) (H:Hp) (v:V) (es:List Ln):Prop:=∃ p xs,v=.ref p/\aV K H p xs/\cv (yD K H) xs es
theorem rn.mono {K:Fg} {H H':Hp} {v:V} {es:List Ln} (h:rn K H v es) (t:aI K H H'):rn K H' v es:=let ⟨p,xs,e,s,a⟩:=h;⟨p,xs,e,t _ _ s,a.mono fun _ _ q=>q.mono t⟩
def xI (K:Fg) (H:Hp) (v:V) (ws:List Wk) (es:List Ln):Prop:=∃ p a b,v=.ref p/\aV K H p [a,b]/\lm K H a ws/\rn K H b es
theorem xI.mono {K:Fg} {H H':Hp} {v:V} {ws:List Wk} {es:List Ln} (h:xI K H v ws es) (t:aI K H H'):xI K H' v ws es:=let ⟨p,a,b,e,s,w,n⟩:=h;⟨p,a,b,e,t _ _ s,w.mono t,n.mono t⟩
def ib (m:Int):PyData->Bool
 | .int i=>decide (0≤i) && decide (i < m)
 | _=>false
def bY:PyData->Bool
 | .tuple [.int a,.int b]=>(decide (1≤b) && decide (Int.gcd a b=1)) && decide (0 < a)
 | _=>false
def hW (K:Fg):Sp:=fun vs H Q _=>∃ (v:V) (d:PyData) (m:Int),vs=[v,.int m]/\aW K H v d/\Q (.bl (ib m d)) H
def fE (K:Fg):Sp:=fun vs H Q _=>∃ (v:V) (d:PyData),vs=[v]/\aW K H v d/\Q (.bl (bY d)) H
theorem oY {m:Int} {d:PyData} (h:cV d=false):ib m d=false:=by
 cases d with
 | int i=>cases h
 | _=>rfl
theorem tz {d:PyData} (h:eG d=true):∃ i j,d=.tuple [.int i,.int j]:=by
 unfold eG at h
 split at h
 ·exact⟨_,_,rfl⟩
 ·cases h
theorem j8 {d:PyData} (h:eG d=false):bY d=false:=by
 cases c:bY d with
 | false=>rfl
 | true=>
  unfold bY at c
  split at c
  ·rename_i a b
   rw [Bool.and_eq_true] at c
   have h':(decide (1≤b) && decide (Int.gcd a b=1))=false:=h
   rw [h'] at c
   cases c.1
  ·cases c
theorem ow {i j:Int} (h:eG (.tuple [.int i,.int j])=true):bY (.tuple [.int i,.int j])=decide (0 < i):=by
 show ((decide (1≤j) && decide (Int.gcd i j=1)) && decide (0 < i))=_
 have h':(decide (1≤j) && decide (Int.gcd i j=1))=true:=h
 rw [h',Bool.true_and]
def gO (K:Fg):Sp:=fun vs H Q _=>∃ (v:V) (d:PyData),vs=[v]/\aW K H v d/\Q (.bl (cV d)) H
def iI (K:Fg):Sp:=fun vs H Q _=>∃ (v:V) (d:PyData) (m:Nat),vs=[v,.int m]/\aW K H v d/\Q (.bl (fS m d)) H
def lX (K:Fg):Sp:=fun vs H Q _=>∃ (v:V) (d:PyData),vs=[v]/\aW K H v d/\Q (.bl (eG d)) H
theorem cJ {d:PyData} (h:cV d=true):∃ i,d=.int i:=by
 cases d with
 | int i=>exact⟨i,rfl⟩
 | _=>cases h
theorem yh {x y:PyData} (h:cV x=false):eG (.tuple [x,y])=false:=by
 cases x with
 | int i=>cases h
 | _=>rfl
theorem yg {x y:PyData} (h:cV y=false):eG (.tuple [x,y])=false:=by
 cases y with
 | int i=>cases h
 | _=>cases x <;> rfl
def ki:=gO
abbrev D2:Nat:=D1 * 5040
abbrev NB:Nat:=1000000008
def gS:Pc:=(0,(0,1))
def DS:Wk:=(0,0,(0,1))
def mF:PyData->List PyData
 | .tuple ds=>ds
 | _=>[]
def br (n:Int):PyData->Bool
 | .tuple [x,y]=>ib n x && bY y
 | _=>false
def i9:PyData->Pc
 | .tuple [.int k,y]=>(k,u6 y)
 | _=>(0,(0,1))
def cY (n:Int):PyData->Bool
 | .tuple ps=>ps.all (br n)
 | _=>false
def cG (n:Int) (d:PyData):Bool:=fS 24 d && (mF d).all (cY n)
def kH (d:PyData):List (List Pc):=(mF d).map fun t=>(mF t).map i9
structure DL (n:Nat) (pl:List (List Pc)):Prop where
 len:pl.length=24
 wd:∀ t∈pl,t.length≤15
 num:∀ t∈pl,∀ c∈t,0≤c.1/\c.1 < n
 pos:∀ t∈pl,∀ c∈t,0 < c.2.1
 bq:∀ t∈pl,∀ c∈t,Bq D2 NB c.2
def xK (n:Int) (p:PyData):Prop:=br n p=true->Bq D2 NB (i9 p).2
structure C8 (n:Int) (t:PyData):Prop where
 wd:(mF t).length≤15
 pc:∀ p∈mF t,xK n p
structure A7 (n:Int) (d:PyData):Prop where
 gd:Gd 6 9000000 d
 wd:(mF d).length≤26
 tu:∀ t∈mF d,C8 n t
theorem j7 {d:PyData} (h:bY d=true):d=dR (u6 d)/\0 < (u6 d).1:=by
 unfold bY at h
 split at h
 ·rename_i a b
  rw [Bool.and_eq_true,Bool.and_eq_true,decide_eq_true_iff,decide_eq_true_iff,decide_eq_true_iff] at h
  exact⟨rfl,h.2⟩
 ·cases h
theorem wP {n:Int} {d:PyData} (h:ib n d=true):∃ k,d=.int k/\0≤k/\k < n:=by
 unfold ib at h
 split at h
 ·rename_i k
  rw [Bool.and_eq_true,decide_eq_true_iff,decide_eq_true_iff] at h
  exact⟨k,rfl,h.1,h.2⟩
 ·cases h
theorem fe {n:Int} {d:PyData} (h:br n d=true):∃ k y,d=.tuple [.int k,y]/\0≤k/\k < n/\bY y=true:=by
 unfold br at h
 split at h
 ·rename_i x y
  rw [Bool.and_eq_true] at h
  obtain⟨k,rfl,h0,h1⟩:=wP h.1
  exact⟨k,y,rfl,h0,h1,h.2⟩
 ·cases h
theorem xr {K:Fg} {H:Hp} {v:V} {r:R} (h:aW K H v (dR r)):RV K H v r:=by
 obtain⟨a,b⟩:=r
 cases h with
 | @tup p xs ds e t=>
  cases t with
  | cons h1 t=>
   cases t with
   | cons h2 t=>
    cases t
    cases h1
    cases h2
    exact⟨p,rfl,e⟩
theorem Ct {K:Fg} {H:Hp} {v:V} {n:Int} {d:PyData} (h:aW K H v d) (r:br n d=true):m6 K H v (i9 d)/\0≤(i9 d).1/\(i9 d).1 < n/\0 < (i9 d).2.1:=by
 obtain⟨k,y,rfl,h0,h1,hy⟩:=fe r
 obtain⟨e,p⟩:=j7 hy
 cases h with
 | @tup a xs ds e' t=>
  cases t with
  | cons hx' t=>
   cases t with
   | cons hy' t=>
    cases t
    cases hx'
    rw [e] at hy'
    exact⟨⟨_,_,rfl,e',xr hy'⟩,h0,h1,p⟩
theorem uk {K:Fg} {H:Hp} {n:Int}:∀ {xs:List V} {ds:List PyData},aH K H xs ds->ds.all (br n)=true->cv (m6 K H) xs (ds.map i9)
 | _,_,.nil,_=>.nil
 | _,_,.cons h t,r=>by
  rw [List.all_cons,Bool.and_eq_true] at r
  exact .cons (Ct h r.1).1 (uk t r.2)
theorem vz {K:Fg} {H:Hp} {v:V} {n:Int} {d:PyData} (h:aW K H v d) (r:cY n d=true):rC K H v ((mF d).map i9):=by
 cases h with
 | @tup a xs ds e t=>exact⟨_,_,rfl,e,uk t r⟩
 | _=>cases r
theorem lI {K:Fg} {H:Hp} {n:Int}:∀ {xs:List V} {ds:List PyData},aH K H xs ds->ds.all (cY n)=true->cv (rC K H) xs (ds.map fun t=>(mF t).map i9)
 | _,_,.nil,_=>.nil
 | _,_,.cons h t,r=>by
  rw [List.all_cons,Bool.and_eq_true] at r
  exact .cons (vz h r.1) (lI t r.2)
theorem rO {n:Int} {t:PyData} (h:cY n t=true):∀ p∈mF t,br n p=true:=by
 unfold cY at h
 split at h
 ·exact List.all_eq_true.mp h
 ·cases h
theorem oR {K:Fg} {H:Hp} {v:V} {n:Nat} {d:PyData} (h:aW K H v d) (r:cG n d=true) (g:A7 n d):ig K H v (kH d)/\DL n (kH d):=by
 unfold cG at r
 rw [Bool.and_eq_true] at r
 have wd:=g.tu
 cases h with
 | @tup a xs ds e t=>
  refine⟨⟨_,_,rfl,e,lI t r.2⟩,?_⟩
  have l24:ds.length=24:=of_decide_eq_true r.1
  have all:=List.all_eq_true.mp r.2
  have in1:∀ t∈kH (.tuple ds),∃ u∈ds,t=(mF u).map i9:=fun t ht=>by
   obtain⟨u,hu,e⟩:=List.mem_map.mp ht
   exact⟨u,hu,e.symm⟩
  have in2:∀ t∈kH (.tuple ds),∀ c∈t,∃ u∈ds,∃ p∈mF u,c=i9 p:=fun t ht c hc=>by
   obtain⟨u,hu,rfl⟩:=in1 t ht
   obtain⟨p,hp,e⟩:=List.mem_map.mp hc
   exact⟨u,hu,p,hp,e.symm⟩
  have pc:∀ u∈ds,∀ p∈mF u,br n p=true:=fun u hu p hp=>rO (all u hu) p hp
  refine⟨by show (ds.map _).length=24;rw [List.length_map];exact l24,fun t ht=>?_,fun t ht c hc=>?_,fun t ht c hc=>?_,fun t ht c hc=>?_⟩
  ·obtain⟨u,hu,rfl⟩:=in1 t ht
   rw [List.length_map]
   exact (wd u hu).wd
  ·obtain⟨u,hu,p,hp,rfl⟩:=in2 t ht c hc
   obtain⟨k,y,rfl,h0,h1,hy⟩:=fe (pc u hu p hp)
   exact⟨h0,h1⟩
  ·obtain⟨u,hu,p,hp,rfl⟩:=in2 t ht c hc
   obtain⟨k,y,rfl,h0,h1,hy⟩:=fe (pc u hu p hp)
   exact (j7 hy).2
  ·obtain⟨u,hu,p,hp,rfl⟩:=in2 t ht c hc
   exact (wd u hu).pc p hp (pc u hu p hp)
 | _=>cases r.1
def bB (t:List Pc):List Int:=t.map fun c=>c.1
def j9 (ws:List Wk) (k:Int):Wk:=ws.getD k.toNat DS
def vo (ws:List Wk) (u:Nat) (k:Int):Bool:=decide ((j9 ws k).1≤u) && decide (u≤(j9 ws k).2.1)
def uB (ws:List Wk) (u:Nat) (t:List Pc):Bool:=decide ((bB t).Nodup) && (bB t).all (vo ws u)
def gI (ws:List Wk) (pl:List (List Pc)) (u:Nat):Bool:=!uB ws u (pl.getD u [])
def eE (pl:List (List Pc)) (n:Nat):List R:=(pl.flatten.filter fun c=>decide (c.1=(n:Int))).map fun c=>c.2
def gK (ws:List Wk) (pl:List (List Pc)) (n:Nat):Bool:=!decide (cW (eE pl n)=(ws.getD n DS).2.2)
def b9 (row:List Pc) (k:Nat):List Nat:=(List.range row.length).filter fun j=>decide ((row.getD j gS).1=(k:Int))
def oh (l:List Nat):Nat:=l.getD (l.length - 1) 0
def on (l:List Nat):Nat:=l.getD 0 0
def f7 (row:List Pc) (l:Ln):Bool:=decide (oh (b9 row l.1) < on (b9 row l.2))
def ji (pl:List (List Pc)) (ls:List Ln) (n:Nat):Bool:=!f7 pl.flatten (ls.getD n (0,0))
def fB (ws:List Wk) (ls:List Ln) (pl:List (List Pc)):Option (Str×Int):=match (List.range 24).find? (gI ws pl) with
 | some u=>some (Str.ofString "piece", (u:Int))
 | none=>match (List.range ws.length).find? (gK ws pl) with
  | some n=>some (Str.ofString "amount", (n:Int))
  | none=>match (List.range ls.length).find? (ji pl ls) with
   | some n=>some (Str.ofString "lean", (n:Int))
   | none=>none
def js (ws:List Wk) (ls:List Ln) (d:PyData):Option (Str×Int):=if cG ws.length d=true then fB ws ls (kH d) else some (Str.ofString "shape", -1)
theorem jA {ws:List Wk} {ls:List Ln} {d:PyData} (h:cG ws.length d=false):js ws ls d=some (Str.ofString "shape", -1):=by unfold js;rw [h];rfl
theorem rK {ws:List Wk} {ls:List Ln} {d:PyData} (h:cG ws.length d=true):js ws ls d=fB ws ls (kH d):=by unfold js;rw [if_pos h]
def C2 (r:Option (Str×Int)):PyData:=match r with
 | none=>.none
 | some (x,n)=>.tuple [.str x,.int n]
def gy (o:Nat) (t:List Pc):List ((Int×Int)×Pc):=(List.range t.length).map fun j:Nat=>(((o:Int),(j:Int)),t.getD j gS)
def cD:Nat->List (List Pc)->List ((Int×Int)×Pc)
 | _,[]=>[]
 | o,t :: r=>gy o t++cD (o+1) r
theorem jL (t:List Pc):∀ (l:List (List Pc)) (o:Nat),cD o (l++[t])=cD o l++gy (o+l.length) t
 | [],o=>by show gy o t++[]=[]++gy (o+0) t;rw [List.append_nil,List.nil_append];rfl
 | x :: r,o=>by
  show gy o x++cD (o+1) (r++[t])=(gy o x++cD (o+1) r)++gy (o+(r.length+1)) t
  rw [jL t r (o+1),List.append_assoc,show o+1+r.length=o+(r.length+1) by omega]
theorem gw {α:Type} (l:List α) (d:α):(List.range l.length).map (fun i=>l.getD i d)=l:=by
 refine List.ext_getElem? fun i=>?_
 rw [List.getElem?_map]
 by_cases c:i < l.length
 ·rw [List.getElem?_range c]
  show some (l.getD i d)=_
  rw [List.getD_eq_getElem?_getD,List.getElem?_eq_getElem c];rfl
 ·rw [List.getElem?_eq_none (by rw [List.length_range];omega),List.getElem?_eq_none (by omega)];rfl
theorem zS (o:Nat) (t:List Pc):(gy o t).map (fun x=>x.2)=t:=by
 unfold gy
 rw [List.map_map]
 exact gw t gS
theorem kG:∀ (l:List (List Pc)) (o:Nat),(cD o l).map (fun x=>x.2)=l.flatten
 | [],_=>rfl
 | t :: r,o=>by
  show (gy o t++cD (o+1) r).map _=t++r.flatten
  rw [List.map_append,zS,kG r (o+1)]
theorem oP:∀ (l:List (List Pc)) (o:Nat),∀ x∈cD o l,(o:Int)≤x.1.1
 | [],_,x,h=>by cases h
 | t :: r,o,x,h=>by
  rcases List.mem_append.mp h with h | h
  ·obtain⟨j,_,rfl⟩:=List.mem_map.mp h
   exact Int.le_refl _
  ·have:=oP r (o+1) x h
   omega
theorem kF:∀ (l:List (List Pc)) (o:Nat),((cD o l).map fun x=>x.1).Pairwise fun a b=>iq a b=true
 | [],_=>List.Pairwise.nil
 | t :: r,o=>by
  show ((gy o t++cD (o+1) r).map _).Pairwise _
  rw [List.map_append,List.pairwise_append]
  refine⟨?_,kF r (o+1),fun a ha b hb=>?_⟩
  ·unfold gy
   rw [List.map_map,List.pairwise_map]
   refine List.Pairwise.imp (fun {i j} (h:i < j)=>?_) List.pairwise_lt_range
   show iq ((o:Int),(i:Int)) ((o:Int),(j:Int))=true
   unfold iq
   rw [Bool.or_eq_true,Bool.and_eq_true,decide_eq_true_iff,decide_eq_true_iff,decide_eq_true_iff]
   exact .inr ⟨rfl,by omega⟩
  ·obtain⟨x,hx,rfl⟩:=List.mem_map.mp ha
   obtain⟨y,hy,rfl⟩:=List.mem_map.mp hb
   obtain⟨j,_,rfl⟩:=List.mem_map.mp hx
   have:=oP r (o+1) y hy
   unfold iq
   rw [Bool.or_eq_true,decide_eq_true_iff]
   exact .inl (by show (o:Int) < y.1.1;omega)
def bO (pl:List (List Pc)) (k:Nat):List (Int×Int):=((cD 0 pl).filter fun x=>decide (x.2.1=(k:Int))).map fun x=>x.1
theorem lN (pl:List (List Pc)) (k:Nat):(bO pl k).Pairwise fun a b=>iq a b=true:=by
 unfold bO
 exact (List.Pairwise.sublist (List.Sublist.map _ List.filter_sublist) (kF pl 0))
theorem f9 {α:Type} (p:α->Bool) (d:α):∀ l:List α,l.filter p=((List.range l.length).filter fun j=>p (l.getD j d)).map fun j=>l.getD j d:=fun l=>by
 have e:=congrArg (List.filter p) (gw l d)
 rw [List.filter_map] at e
 exact e.symm
theorem qK {α β:Type} (f:α->β) (l:List α) (j:Nat) (d:α) (h:j < l.length):(l.map f).getD j (f d)=f (l.getD j d):=by
 rw [List.getD_eq_getElem?_getD,List.getD_eq_getElem?_getD,List.getElem?_map,List.getElem?_eq_getElem h]
 rfl
theorem cK (pl:List (List Pc)) (k:Nat):bO pl k=(b9 pl.flatten k).map fun j=>((cD 0 pl).getD j ((0,0),gS)).1:=by
 unfold bO b9
 rw [f9 (fun x:(Int×Int)×Pc=>decide (x.2.1=(k:Int))) ((0,0),gS) (cD 0 pl),List.map_map]
 have e:(List.range (cD 0 pl).length).filter (fun j=>decide (((cD 0 pl).getD j ((0,0),gS)).2.1=(k:Int)))=(List.range pl.flatten.length).filter fun j=>decide ((pl.flatten.getD j gS).1=(k:Int)):=by
  rw [← kG pl 0,List.length_map]
  refine List.filter_congr fun j hj=>?_
  rw [show gS=(fun x:(Int×Int)×Pc=>x.2) ((0,0),gS) from rfl,qK (fun x:(Int×Int)×Pc=>x.2) _ j _ (List.mem_range.mp hj)]
 rw [e]
 rfl
theorem mf {row:List Pc} {k j:Nat} (h:j∈b9 row k):j < row.length/\(row.getD j gS).1=(k:Int):=by
 obtain⟨a,b⟩:=List.mem_filter.mp h
 exact⟨List.mem_range.mp a,of_decide_eq_true b⟩
theorem jR {l:List Nat} {j:Nat} (h:j < l.length):l.getD j 0∈l:=by
 rw [List.getD_eq_getElem?_getD,List.getElem?_eq_getElem h]
 exact List.getElem_mem h
theorem uD {pl:List (List Pc)} {a b:Nat} (ne:a≠b) (ha:0 < (b9 pl.flatten a).length) (hb:0 < (b9 pl.flatten b).length) :
  xf (cR (bO pl a) ((bO pl a).length - 1)) (cR (bO pl b) 0)=!f7 pl.flatten (a,b):=by
 have la:(bO pl a).length=(b9 pl.flatten a).length:=by rw [cK,List.length_map]
 obtain⟨i,hi⟩:∃ i,i=oh (b9 pl.flatten a):=⟨_,rfl⟩
 obtain⟨j,hj⟩:∃ j,j=on (b9 pl.flatten b):=⟨_,rfl⟩
 have mi:i∈b9 pl.flatten a:=by rw [hi];exact jR (by omega)
 have mj:j∈b9 pl.flatten b:=by rw [hj];exact jR hb
 obtain⟨i1,i2⟩:=mf mi
 obtain⟨j1,j2⟩:=mf mj
 have nij:i≠j:=fun z=>by rw [z,j2] at i2;omega
 have pr:∀ (k m:Nat),m < (b9 pl.flatten k).length->cR (bO pl k) m=((cD 0 pl).getD ((b9 pl.flatten k).getD m 0) ((0,0),gS)).1:=fun k m hm=>by
  unfold cR
  rw [cK,List.getD_eq_getElem?_getD,List.getElem?_map,List.getD_eq_getElem?_getD (l:=b9 pl.flatten k),List.getElem?_eq_getElem hm]
  rfl
 have e1:cR (bO pl a) ((bO pl a).length - 1)=((cD 0 pl).getD i ((0,0),gS)).1:=by rw [la,pr a _ (by omega),hi];rfl
 have e2:cR (bO pl b) 0=((cD 0 pl).getD j ((0,0),gS)).1:=by rw [pr b 0 hb,hj];rfl
 have len:pl.flatten.length=(cD 0 pl).length:=by rw [← kG pl 0,List.length_map]
 have at_:∀ m,m < (cD 0 pl).length->((cD 0 pl).map fun x=>x.1)[m]?=some ((cD 0 pl).getD m ((0,0),gS)).1:=fun m hm=>by
  rw [List.getElem?_map,List.getD_eq_getElem?_getD,List.getElem?_eq_getElem hm];rfl
 have up:∀ x y,x < y->y < (cD 0 pl).length->iq ((cD 0 pl).getD x ((0,0),gS)).1 ((cD 0 pl).getD y ((0,0),gS)).1=true:=fun x y hxy hy=>by
  obtain⟨h1,f1⟩:=List.getElem?_eq_some_iff.mp (at_ x (by omega))
  obtain⟨h2,f2⟩:=List.getElem?_eq_some_iff.mp (at_ y hy)
  have:=List.pairwise_iff_getElem.mp (kF pl 0) x y h1 h2 hxy
  rw [f1,f2] at this
  exact this
 rw [e1,e2,yt]
 unfold f7
 show _=!decide (oh (b9 pl.flatten a) < on (b9 pl.flatten b))
 rw [← hi,← hj]
 by_cases c:i < j
 ·rw [decide_eq_true c,mB (up i j c (by omega))];rfl
 ·rw [decide_eq_false c,up j i (by omega) (by omega)];rfl
theorem rj (pl:List (List Pc)) (n:Nat):(eE pl n).length=(b9 pl.flatten n).length:=by
 unfold eE b9
 rw [f9 (fun c:Pc=>decide (c.1=(n:Int))) gS pl.flatten,List.length_map,List.length_map]
theorem jk (pl:List (List Pc)) (n:Nat):eE pl n=((cD 0 pl).filter fun x=>decide (x.2.1=(n:Int))).map fun x=>x.2.2:=by
 unfold eE
 rw [← kG pl 0,List.filter_map,List.map_map]
 rfl
theorem rZ:cW []=(0,1):=rfl
theorem pK {ws:List Wk} {pl:List (List Pc)} {n:Nat} {w:Wk} (hw:ws[n]?=some w) (hp:0 < w.2.2.1) (h:gK ws pl n=false):0 < (b9 pl.flatten n).length:=by
 rw [← rj]
 unfold gK at h
 have e:ws.getD n DS=w:=by rw [List.getD_eq_getElem?_getD,hw];rfl
 rw [e] at h
 have h':cW (eE pl n)=w.2.2:=by
  cases z:decide (cW (eE pl n)=w.2.2) with
  | true=>exact of_decide_eq_true z
  | false=>rw [z] at h;cases h
 cases c:eE pl n with
 | nil=>
  rw [c,rZ] at h'
  rw [← h'] at hp
  exact absurd hp (by decide)
 | cons a t=>exact Nat.succ_pos _
def AN (w:Wk) (t:Nat):Bool:=decide (w.1≤t) && decide (t≤w.2.1)
def kr (K:Fg):Sp:=fun vs H Q _=>∃ (v:V) (w:Wk) (t:Nat),vs=[v,.int t]/\yB K H v w/\Q (.bl (AN w t)) H
theorem vd {f:PyData->Bool} (ds:List PyData):((List.range ds.length).map fun i=>f (ds.getD i .none)).all id=ds.all f:=by
 rw [Bool.eq_iff_iff,List.all_eq_true,List.all_eq_true]
 constructor
 ·intro h d hd
  obtain⟨i,hi,e⟩:=List.mem_iff_getElem.mp hd
  have:=h (f (ds.getD i .none)) (List.mem_map.mpr ⟨i,List.mem_range.mpr hi,rfl⟩)
  rw [cm PyData.none (List.getElem?_eq_getElem hi),e] at this
  exact this
 ·intro h b hb
  obtain⟨i,hi,rfl⟩:=List.mem_map.mp hb
  have hi':=List.mem_range.mp hi
  rw [cm PyData.none (List.getElem?_eq_getElem hi')]
  exact h _ (List.getElem_mem hi')
theorem fq {n i:Nat} {f:Nat->Bool} (hi:i < n) (h:f i=true) (b:∀ j,j < i->f j=false):(List.range n).find? f=some i:=by
 rw [List.find?_range_eq_some]
 exact⟨h,List.mem_range.mpr hi,fun j hj=>by rw [b j hj];rfl⟩
theorem fo {n:Nat} {f:Nat->Bool} (b:∀ j,j < n->f j=false):(List.range n).find? f=none:=by
 rw [List.find?_eq_none]
 intro j hj
 rw [b j (List.mem_range.mp hj)]
 exact Bool.false_ne_true
theorem cT {H H':Hp} {x:Addr} {o0:HO} (hx:H x=none) (kp:∀ b o,b≠x->upd H x o0 b=some o->H' b=some o):aA H (fz H' x):=fun b o e=>by
 have nb:b≠x:=aM e hx
 unfold fz
 rw [if_neg nb]
 exact kp b o nb (by rw [aw nb];exact e)
theorem eV {H:Hp} {x d:Addr} (n:d≠x):fz H x d=H d:=by unfold fz;rw [if_neg n]
def pY (_:Fg):Sp:=fun vs H Q _=>∃ v:V,vs=[v]/\((∃ i,v=.int i)∨∃ x,v=.str x)/\Q v H
def lU (K:Fg):Sp:=fun vs H Q _=>∃ t s:Addr,vs=[.ref t]/\bE H t s/\∀ (v:V) (r:R) (H':Hp),jp r->Step t H H'->bE H' t s->RV K H' v r->Q v H'
structure rm (ws:List Wk) (ls:List Ln):Prop where
 n12:ws.length≤12
 wk:∀ w∈ws,DF w
 l8:ls.length≤8
 ln:∀ l∈ls,l.1 < ws.length/\l.2 < ws.length/\l.1≠l.2
def C7 (d:PyData):Prop:=(mF d).length≤26/\∀ t∈mF d,(mF t).length≤15
theorem A7.wide {n:Int} {d:PyData} (h:A7 n d):C7 d:=⟨h.wd,fun t ht=>(h.tu t ht).wd⟩
def gP (K:Fg):Sp:=fun vs H Q _=>∃ (v:V) (d:PyData) (m:Int),vs=[v,.int m]/\aW K H v d/\Q (.bl (br m d)) H
def hV (K:Fg):Sp:=gP K
def ju (K:Fg):Sp:=fun vs H Q _=>∃ (v:V) (d:PyData) (m:Int),vs=[v,.int m]/\aW K H v d/\(mF d).length≤15/\∀ H',aA H H'->Q (.bl (cY m d)) H'
def fW (K:Fg):Sp:=fun vs H Q _=>∃ (v:V) (d:PyData) (m:Int),vs=[v,.int m]/\aW K H v d/\C7 d/\∀ H',aA H H'->Q (.bl (cG m d)) H'
def hZ (K:Fg):Sp:=fun vs H Q _=>∃ (v x:V) (u:Nat) (ws:List Wk) (t:List Pc),vs=[v,.int u,x]/\lm K H v ws/\rC K H x t/\t.length≤15/\(∀ c∈t,0≤c.1/\c.1 < ws.length)/\∀ H',aA H H'->Q (.bl (uB ws u t)) H'
def fD (K:Fg):Sp:=fun vs H Q _=>∃ (v:V) (pl:List (List Pc)) (n:Nat),vs=[v]/\ig K H v pl/\DL n pl/\∀ (l:Addr) (xs:List V) (H':Hp),aA H H'->H' l=some (.lst xs)->cv (m6 K H') xs pl.flatten->Q (.ref l) H'
def hX (K:Fg):Sp:=fun vs H Q _=>∃ (l:Addr) (xs:List V) (row:List Pc) (v:V) (e:Ln),vs=[.ref l,v]/\H l=some (.lst xs)/\cv (m6 K H) xs row/\row.length≤400/\yD K H v e/\0 < (b9 row e.1).length/\0 < (b9 row e.2).length/\∀ H',aA H H'->Q (.bl (f7 row e)) H'
def pZ (_:Fg) (C:Addr):Sp:=fun vs H Q _=>∃ (a:Addr) (x:Str) (n:Int),vs=[.ref a,.str x,.int n]/\H a=some (gi a C none)/\∀ (d:Addr) (H':Hp),H d=none->d≠a->(∀ b o,b≠a->H b=some o->H' b=some o)->H' a=some (gi a C (some d))->H' d=some (dO d [("number", .int n),("word", .str x)])->Q .non H'
def Er (K:Fg) (C:Addr) (H:Hp) (E:XK) (f:Option (Str×Int)):Prop:=∀ z n,f=some (z,n)->∀ (dd:Addr) (H':Hp),aA H H'->H' dd=some (dO dd [("number", .int n),("word", .str z)])->E (.ref C) (some dd) H'
def jt (K:Fg) (C:Addr):Sp:=fun vs H Q E=>∃ (v x:V) (ws:List Wk) (ls:List Ln) (d:PyData),vs=[v,x]/\xI K H v ws ls/\rm ws ls/\aW K H x d/\A7 ws.length d/\(js ws ls d=none->∀ H',aA H H'->Q (.bl true) H')/\Er K C H E (js ws ls d)
theorem mM {n:Nat} {pl:List (List Pc)} (h:DL n pl):pl.flatten.length≤360:=by
 have go:∀ (l:List (List Pc)),(∀ t∈l,t.length≤15)->l.flatten.length≤15 * l.length:=by
  intro l
  induction l with
  | nil=>intro _;exact Nat.le_refl _
  | cons t r ih=>
   intro h
   have h1:=h t List.mem_cons_self
   have h2:=ih fun x hx=>h x (List.mem_cons_of_mem _ hx)
   rw [List.flatten_cons,List.length_append,List.length_cons]
   omega
 have:=go pl h.wd
 rw [h.len] at this
 exact this
theorem mL {pl:List (List Pc)} {c:Pc} (h:c∈pl.flatten):∃ t∈pl,c∈t:=List.mem_flatten.mp h
theorem li {ws:List Wk} {n:Nat} {pl:List (List Pc)} (h:DL n pl) (k:Nat) (ht:∀ u,u < 24->gI ws pl u=false):(eE pl k).length≤24:=by
 have go:∀ (l:List (List Pc)),(∀ t∈l,(bB t).Nodup)->(l.flatten.filter fun c=>decide (c.1=(k:Int))).length≤l.length:=by
  intro l
  induction l with
  | nil=>intro _;exact Nat.le_refl _
  | cons t r ih=>
   intro h
   have h1:=h t List.mem_cons_self
   have h2:=ih fun x hx=>h x (List.mem_cons_of_mem _ hx)
   rw [List.flatten_cons,List.filter_append,List.length_append,List.length_cons]
   have h3:(t.filter fun c=>decide (c.1=(k:Int))).length≤1:=by
    have e:(t.filter fun c=>decide (c.1=(k:Int))).length=(bB t).count (k:Int):=by
     unfold bB
     rw [List.count_eq_countP,List.countP_map,List.countP_eq_length_filter]
     refine congrArg List.length (List.filter_congr fun c _=>?_)
     show decide (c.1=(k:Int))=(c.1 == (k:Int))
     rfl
    rw [e]
    exact List.nodup_iff_count.mp h1 _
   omega
 unfold eE
 rw [List.length_map]
 refine Nat.le_trans (go pl fun t ht'=>?_) (Nat.le_of_eq h.len)
 obtain⟨u,hu⟩:=List.getElem?_of_mem ht'
 have ul:=(List.getElem?_eq_some_iff.mp hu).1
 have:=ht u (by rw [← h.len];exact ul)
 unfold gI uB at this
 rw [List.getD_eq_getElem?_getD,hu] at this
 apply Classical.byContradiction
 intro nn
 rw [show (some t).getD []=t from rfl,decide_eq_false nn] at this
 cases this
theorem hJ {xs:List V} (h:0 < xs.length):pJ xs (-1)=xs[xs.length - 1]?:=by
 have e:wU xs.length (-1)=some (xs.length - 1):=by
  unfold wU
  rw [if_neg (by decide)]
  first
   | (rw [if_pos (by omega)];exact congrArg some (by omega))
   | (rw [if_neg (by omega)];exact congrArg some (by omega))
 unfold pJ
 rw [e]
 rfl
structure pQ (K:Fg) (H:Hp) (D:Addr) (rows:List Addr) (pl:List (List Pc)):Prop where
 top:H D=some (.lst (rows.map V.ref))
 len:rows.length=24
 pln:pl.length=24
 nd:rows.Nodup
 nD:D∉rows
 row:∀ (i:Nat) (r:Addr) (c:List Pc),rows[i]?=some r->pl[i]?=some c->∃ xs,H r=some (.lst xs)/\cv (m6 K H) xs c
theorem pQ.step {K:Fg} {H H':Hp} {D t:Addr} {rows:List Addr} {pl:List (List Pc)} (g:pQ K H D rows pl) (nt:D≠t) (nr:t∉rows) (s:Step t H H'):pQ K H' D rows pl:=by
 refine⟨s.keep _ _ nt g.top,g.len,g.pln,g.nd,g.nD,fun i r c hr hc=>?_⟩
 obtain⟨xs,hx,al⟩:=g.row i r c hr hc
 exact⟨xs,s.keep _ _ (fun z=>nr (z ▸ List.mem_of_getElem? hr)) hx,al.mono fun _ _ z=>z.mono (aI.step s)⟩
theorem pQ.same {K:Fg} {H H':Hp} {D:Addr} {rows:List Addr} {pl:List (List Pc)} (g:pQ K H D rows pl) (s:aA H H'):pQ K H' D rows pl:=by
 refine⟨s _ _ g.top,g.len,g.pln,g.nd,g.nD,fun i r c hr hc=>?_⟩
 obtain⟨xs,hx,al⟩:=g.row i r c hr hc
 exact⟨xs,s _ _ hx,al.mono fun _ _ z=>z.mono (aI.same s)⟩
theorem xE {α:Type} {P:V->α->Prop} {xs:List V} {cs:List α} {y:V} {c:α} (h:cv P xs cs) (k:P y c):∀ j:Nat,cv P (xs.take j++y :: xs.drop j) (cs.take j++c :: cs.drop j):=by
 induction h with
 | nil=>intro j;simp;exact .cons k .nil
 | cons p q ih=>
  intro j
  cases j with
  | zero=>exact .cons k (.cons p q)
  | succ j=>exact .cons p (ih j)
theorem pQ.ins {K:Fg} {H:Hp} {D:Addr} {rows:List Addr} {pl:List (List Pc)} (g:pQ K H D rows pl) {i:Nat} {r:Addr} {c:List Pc} {xs:List V} {y:V} {pc:Pc} {j:Nat} (hr:rows[i]?=some r) (hc:pl[i]?=some c) (hx:H r=some (.lst xs)) (al:cv (m6 K H) xs c) (hy:m6 K H y pc) :
  pQ K (upd H r (.lst (xs.take j++y :: xs.drop j))) D rows (pl.set i (c.take j++pc :: c.drop j)):=by
 have tu:aI K H (upd H r (.lst (xs.take j++y :: xs.drop j))):=aI.up hx _
 have mr:=List.mem_of_getElem? hr
 have nDr:D≠r:=fun z=>g.nD (by rw [z];exact mr)
 refine⟨by rw [aw nDr];exact g.top,g.len,by rw [List.length_set];exact g.pln,g.nd,g.nD,fun i' r' c' hr' hc'=>?_⟩
 have il:=(List.getElem?_eq_some_iff.mp hc).1
 by_cases e:i'=i
 ·subst e
  rw [hr] at hr'
  cases hr'
  rw [List.getElem?_set_self il] at hc'
  cases hc'
  exact⟨_,ai,(xE al hy j).mono fun _ _ z=>z.mono tu⟩
 ·rw [List.getElem?_set_ne (Ne.symm e)] at hc'
  obtain⟨ys,hys,aly⟩:=g.row i' r' c' hr' hc'
  have ne:r'≠r:=fun z=>by
   obtain⟨h1,e1⟩:=List.getElem?_eq_some_iff.mp hr
   obtain⟨h2,e2⟩:=List.getElem?_eq_some_iff.mp hr'
   exact e ((List.getElem_inj (h₀:=h2) (h₁:=h1) g.nd).mp (by rw [e1,e2,z]))
  exact⟨ys,by rw [aw ne];exact hys,aly.mono fun _ _ z=>z.mono tu⟩
theorem pQ.at {K:Fg} {H:Hp} {D:Addr} {rows:List Addr} {pl:List (List Pc)} (g:pQ K H D rows pl) {r:Addr} (m:r∈rows):∃ xs c,H r=some (.lst xs)/\cv (m6 K H) xs c:=by
 obtain⟨i,hi⟩:=List.getElem?_of_mem m
 have il:=(List.getElem?_eq_some_iff.mp hi).1
 have hc:pl[i]?=some (pl[i]'(by rw [g.pln,← g.len];exact il)):=List.getElem?_eq_getElem _
 obtain⟨xs,h,al⟩:=g.row i r _ hi hc
 exact⟨xs,_,h,al⟩
theorem nA:∀ {ns:List Int},(∀ z∈ns,1≤z/\z≤6)->0≤ns.sum/\ns.sum≤6 * ns.length
 | [],_=>⟨Int.le_refl _,Int.le_refl _⟩
 | n :: t,h=>by
  have ih:=nA fun z hz=>h z (List.mem_cons_of_mem _ hz)
  have:=h n List.mem_cons_self
  rw [List.sum_cons,List.length_cons]
  omega
theorem rX:∀ {ns:List Int},(∀ z∈ns,1≤z/\z≤6)->∀ {a:Int},a∈ns->a≤ns.sum
 | [],_,_,m=>by cases m
 | n :: t,h,a,m=>by
  have h':∀ z∈t,1≤z/\z≤6:=fun z hz=>h z (List.mem_cons_of_mem _ hz)
  have ih:=nA h'
  have:=h n List.mem_cons_self
  rw [List.sum_cons]
  rcases List.mem_cons.mp m with e | e
  ·rw [e];omega
  ·have:=rX h' e;omega
theorem yS {ns:List Int} (h:∀ z∈ns,1≤z/\z≤6) (hl:ns.length≤24) {a:Int} (m:a∈ns):a≤ns.sum/\ns.sum≤144:=⟨rX h m,by have:=(nA h).2;omega⟩
theorem tw {sp:List Nat} (h:sp.Pairwise (· < ·)) {j u:Nat} (hu:sp[j]?=some u):u∉sp.take j:=fun m=>by
 obtain⟨n,hn⟩:=List.getElem?_of_mem m
 have nl:=(List.getElem?_eq_some_iff.mp hn).1
 rw [List.length_take] at nl
 have nj:n < j:=by omega
 rw [List.getElem?_take_of_lt nj] at hn
 obtain⟨h1,e1⟩:=List.getElem?_eq_some_iff.mp hn
 obtain⟨h2,e2⟩:=List.getElem?_eq_some_iff.mp hu
 have:=List.pairwise_iff_getElem.mp h n j h1 h2 nj
 rw [e1,e2] at this
 exact Nat.lt_irrefl _ this
theorem sj {S a:Int} (h1:1≤a) (h2:a≤S) (h3:S≤144):Bq Dh 1 (fP a S)/\0 < (fP a S).1:=by
 have sp:0 < S:=by omega
 rw [ei sp]
 refine⟨m3 sp ?_ (by omega),kO (by omega) sp⟩
 have z:∀ k:Fin 145,0 < k.val->((k.val:Nat):Int)∣(Dh:Int):=by decide
 have:=z ⟨S.toNat,by omega⟩ (show 0 < S.toNat by omega)
 rw [show (((⟨S.toNat,by omega⟩:Fin 145).val:Nat):Int)=S by show ((S.toNat:Nat):Int)=S;omega] at this
 exact this
def eI (sp:List Nat):List V:=sp.map fun n=>V.int (n:Nat)
def jw (sp:List Nat):List PyData:=sp.map fun n=>PyData.int (n:Nat)
theorem gG {K:Fg} {H:Hp}:∀ sp:List Nat,aH K H (eI sp) (jw sp)
 | []=>.nil
 | n :: t=>.cons (.int _) (gG t)
theorem iW:∀ sp:List Nat,PyData.canLayAll0 (jw sp)=true
 | []=>rfl
 | n :: t=>by
  show (PyData.canLay0 (.int (n:Nat)) && PyData.canLayAll0 (jw t))=true
  rw [iW t];rfl
theorem i7:∀ sp:List Nat,PyData.depthAll (jw sp)≤0
 | []=>Nat.le_refl _
 | n :: t=>by
  show max 0 (PyData.depthAll (jw t))≤0
  have:=i7 t
  omega
theorem mQ (sp:List Nat):PyData.eqv (.list (jw sp)) (.list [])=sp.isEmpty:=by cases sp <;> rfl
theorem eW {X:Cx} {K:Fg} (hK:X.K=K):b8 X (.type "tuple") (fun xs H Q=>∃ p ys,xs=[.ref p]/\((aQ K H p ys/\∀ l,H l=none->Q (.ref l) (upd H l (.tup ys)))∨(aV K H p ys/\Q (.ref p) H))):=by subst hK;exact bV
theorem pU {r q:R} (hr:0 < r.2) (hq:0 < q.2) (h1:0 < r.1) (h2:0 < q.1):0 < (bG r q).1:=kO (Int.mul_pos h1 h2) (Int.mul_pos hr hq)
theorem vO {ds:List PyData} (h:¬ ds.length=2):eG (.tuple ds)=false:=by
 cases c:eG (.tuple ds) with
 | false=>rfl
 | true=>
  obtain⟨a,b,e,_⟩:=vP c
  cases e
  exact absurd rfl h
def rF (m:Nat) (q:Pc):Prop:=Bq D1 N0 q.2/\0 < q.2.1/\Wf 110 q.2/\0≤q.1/\q.1 < m
def m9 (pl:List (List Pc)) (n:Nat):Prop:=∃ c∈pl,∃ q∈c,q.1=(n:Int)
structure De (m:Nat) (pl:List (List Pc)):Prop where
 len:pl.length=24
 wd:∀ t∈pl,t.length≤12
 pc:∀ t∈pl,∀ q∈t,rF m q
 has:∀ n,n < m->m9 pl n
theorem wR {α:Type} {c:List α} {j:Nat} {x q:α} (h:q∈c):q∈c.take j++x :: c.drop j:=by
 rw [← List.take_append_drop j c] at h
 rcases List.mem_append.mp h with h | h
 ·exact List.mem_append_left _ h
 ·exact List.mem_append_right _ (List.mem_cons_of_mem _ h)
theorem w9 {pl:List (List Pc)} {u j n:Nat} {c:List Pc} {x:Pc} (hc:pl[u]?=some c) (h:m9 pl n):m9 (pl.set u (c.take j++x :: c.drop j)) n:=by
 obtain⟨c',m,q,hq,e⟩:=h
 have ul:=(List.getElem?_eq_some_iff.mp hc).1
 obtain⟨v,hv⟩:=List.getElem?_of_mem m
 by_cases z:v=u
 ·subst z
  rw [hc] at hv
  cases hv
  exact⟨_,List.mem_of_getElem? (List.getElem?_set_self ul),q,wR hq,e⟩
 ·exact⟨c',List.mem_of_getElem? (i:=v) (by rw [List.getElem?_set_ne (Ne.symm z)];exact hv),q,hq,e⟩
theorem w6 {pl:List (List Pc)} {u j n:Nat} {c:List Pc} {r:R} (hc:pl[u]?=some c):m9 (pl.set u (c.take j++((n:Int),r) :: c.drop j)) n:=
 ⟨_,List.mem_of_getElem? (List.getElem?_set_self (List.getElem?_eq_some_iff.mp hc).1),_,List.mem_append_right _ List.mem_cons_self,rfl⟩
def lT (K:Fg):Sp:=fun vs H Q _=>∃ (t s:Addr) (v:V) (ws:List Wk),vs=[.ref t,v]/\bE H t s/\lm K H v ws/\ws.length≤12/\(∀ w∈ws,DF w)/\∀ (v':V) (pl:List (List Pc)) (H':Hp),Step t H H'->bE H' t s->ig K H' v' pl->De ws.length pl->Q v' H'
def kl (K:Fg):Sp:=fun vs H Q _=>∃ (v:V) (pl:List (List Pc)) (k:Nat),vs=[v,.int k]/\ig K H v pl/\pl.length≤24/\(∀ t∈pl,t.length≤15)/\∀ (l:Addr) (xs:List V) (H':Hp),aA H H'->H' l=some (.lst xs)->cv (rE K H') xs (bO pl k)->Q (.ref l) H'
def BO (o:Nat) (t:List Pc) (k:Nat):List (Int×Int):=((List.range t.length).filter fun j=>decide ((t.getD j gS).1=(k:Int))).map fun j:Nat=>((o:Int),(j:Int))
theorem nE (l:List (List Pc)) (t:List Pc) (k:Nat):bO (l++[t]) k=bO l k++BO l.length t k:=by
 unfold bO BO
 rw [jL,List.filter_append,List.map_append,Nat.zero_add]
 congr 1
 unfold gy
 rw [List.filter_map,List.map_map]
 rfl
theorem pX {pl:List (List Pc)} (k:Nat) (h:∀ t∈pl,t.length≤15):(bO pl k).length≤15 * pl.length:=by
 have go:∀ (l:List (List Pc)),(∀ t∈l,t.length≤15)->l.flatten.length≤15 * l.length:=by
  intro l
  induction l with
  | nil=>intro _;exact Nat.le_refl _
  | cons t r ih=>
   intro h
   have h1:=h t List.mem_cons_self
   have h2:=ih fun x hx=>h x (List.mem_cons_of_mem _ hx)
   rw [List.flatten_cons,List.length_append,List.length_cons]
   omega
 rw [cK,List.length_map]
 unfold b9
 exact Nat.le_trans (List.length_filter_le _ _) (by rw [List.length_range];exact go pl h)
def iF (K:Fg):Sp:=fun vs H Q _=>∃ (t s:Addr) (v x:V) (ws:List Wk) (pl:List (List Pc)),vs=[.ref t,v,x]/\bE H t s/\lm K H v ws/\ws.length≤12/\ig K H x pl/\De ws.length pl/\∀ (u:V) (ls:List Ln) (H':Hp),Step t H H'->bE H' t s->rn K H' u ls->ls.length≤8->(∀ l∈ls,l.1 < ws.length/\l.2 < ws.length/\l.1≠l.2)->Q u H'
theorem mJ {pl:List (List Pc)} {n:Nat} (h:m9 pl n):0 < (bO pl n).length:=by
 obtain⟨c,hc,q,hq,e⟩:=h
 rw [cK,List.length_map]
 have mq:q∈pl.flatten:=List.mem_flatten.mpr ⟨c,hc,hq⟩
 obtain⟨j,hj⟩:=List.getElem?_of_mem mq
 have jl:=(List.getElem?_eq_some_iff.mp hj).1
 refine List.length_pos_of_mem (a:=j) (List.mem_filter.mpr ⟨List.mem_range.mpr jl,?_⟩)
 rw [List.getD_eq_getElem?_getD,hj]
 exact decide_eq_true e
theorem i8 (K:Fg) (H:Hp):∀ bs:List Bool,aH K H (bs.map V.bl) (bs.map PyData.bool)
 | []=>.nil
 | b :: t=>.cons (.bl b) (i8 K H t)
theorem mC (bs:List Bool):oA (bs.map PyData.bool):=fun e he=>by
 obtain⟨b,_,rfl⟩:=List.mem_map.mp he
 exact⟨rfl,by show 0≤32;decide⟩
theorem lh:∀ bs:List Bool,((bs.map PyData.bool).any fun e=>PyData.eqv e (.bool false))=bs.contains false
 | []=>rfl
 | b :: t=>by
  rw [List.map_cons,List.any_cons,lh t,List.contains_cons]
  cases b <;> rfl
def iG (K:Fg):Sp:=fun vs H Q _=>∃ (v x:V) (ws:List Wk) (ls:List Ln) (d:PyData),vs=[v,x]/\xI K H v ws ls/\rm ws ls/\aW K H x d/\A7 ws.length d/\∀ (u:V) (H':Hp),aA H H'->aW K H' u (C2 (js ws ls d))->Q u H'
def lQ (K:Fg):Sp:=iG K
theorem oq {X:Cx} {K:Fg} (hK:X.K=K):b8 X (.builtin "isinstance") (yi K):=by subst hK;exact bW
def wW:PyData->Bool
 | .tuple _=>true
 | _=>false
theorem wV {K:Fg} {H:Hp} {v:V} {d:PyData} (h:aW K H v d):f6 (ii d) "tuple" = some (wW d):=by
 rcases fk h with ⟨e,_,_,ds,_,rfl,_⟩ | ⟨e,no⟩
 ·exact e
 ·rw [e]
  cases d with
  | tuple ds=>exact absurd rfl (no ds)
  | _=>rfl
theorem mV {α:Type} (f:α->Bool) (l:List α):(l.map f).contains false=!l.all f:=by
 induction l with
 | nil=>rfl
 | cons d t ih=>
  rw [List.map_cons,List.contains_cons,List.all_cons,ih]
  cases f d <;> rfl
theorem mx {α β:Type} (l:List α) (f:α->β) (z:α):(List.range l.length).map (fun i=>f (l.getD i z))=l.map f:=by
 have:=lg z f l
 rw [List.filter_eq_self.mpr (fun _ _=>rfl)] at this
 exact this
def mG (ns:List Int):List PyData:=ns.map PyData.int
theorem jT {K:Fg} {H:Hp}:∀ ns:List Int,aH K H (ns.map V.int) (mG ns)
 | []=>.nil
 | n :: t=>.cons (.int n) (jT t)
theorem mD:∀ ns:List Int,PyData.canLayAll0 (mG ns)=true
 | []=>rfl
 | n :: t=>by
  show (PyData.canLay0 (.int n) && PyData.canLayAll0 (mG t))=true
  rw [mD t];rfl
theorem mS:∀ ns:List Int,PyData.depthAll (mG ns)≤0
 | []=>Nat.le_refl _
 | n :: t=>by
  show max 0 (PyData.depthAll (mG t))≤0
  have:=mS t
  omega
theorem uW (ns:List Int):PyData.eqv (.list (mG ns)) (.list [])=ns.isEmpty:=by cases ns <;> rfl
theorem ve {α:Type} {f g:α->Bool}:∀ {l:List α},(∀ a∈l,f a=g a)->l.all f=l.all g
 | [],_=>rfl
 | a :: t,h=>by rw [List.all_cons,List.all_cons,h a List.mem_cons_self,ve fun b hb=>h b (List.mem_cons_of_mem _ hb)]
def gJ (ws:List Wk) (u:Nat) (ns:List Int) (k:Int):Bool:=decide ((ns.count k:Int) > 1) || (decide ((u:Int) < (j9 ws k).1) || decide ((u:Int) > (j9 ws k).2.1))
theorem xz (ws:List Wk) (u:Nat) (t:List Pc):((bB t).filter (gJ ws u (bB t))).isEmpty=uB ws u t:=by
 unfold uB
 generalize bB t=ns
 have e:(ns.filter (gJ ws u ns)).isEmpty=ns.all fun k=>!gJ ws u ns k:=by
  generalize gJ ws u ns=f
  induction ns with
  | nil=>rfl
  | cons a r ih=>
   rw [List.filter_cons,List.all_cons,← ih]
   cases f a <;> rfl
 rw [e]
 by_cases c:ns.Nodup
 ·rw [decide_eq_true c,Bool.true_and]
  refine ve fun k hk=>?_
  unfold gJ vo
  rw [decide_eq_false (by have:=List.nodup_iff_count.mp c k;omega),Bool.false_or]
  by_cases c1:(j9 ws k).1≤u
  ·rw [decide_eq_true c1,decide_eq_false (by omega),Bool.false_or,Bool.true_and]
   by_cases c2:u≤(j9 ws k).2.1
   ·rw [decide_eq_true c2,decide_eq_false (by omega)];rfl
   ·rw [decide_eq_false c2,decide_eq_true (by omega)];rfl
  ·rw [decide_eq_false c1,decide_eq_true (by omega)];rfl
 ·rw [decide_eq_false c,Bool.false_and,List.all_eq_false]
  have:¬ ∀ a,List.count a ns≤1:=fun z=>c (List.nodup_iff_count.mpr z)
  obtain⟨k,hk⟩:=Classical.not_forall.mp this
  have h2:1 < List.count k ns:=by omega
  refine⟨k,List.count_pos_iff.mp (by omega),?_⟩
  unfold gJ
  rw [decide_eq_true (by omega)]
  simp
theorem oQ:∀ (l:List (List Pc)) (o:Nat),∀ x∈cD o l,∃ (u p:Nat) (t:List Pc),x.1=(((o+u:Nat):Int),(p:Int))/\l[u]?=some t/\t[p]?=some x.2
 | [],_,x,h=>by cases h
 | t :: r,o,x,h=>by
  rcases List.mem_append.mp h with h | h
  ·obtain⟨j,hj,rfl⟩:=List.mem_map.mp h
   have jl:=List.mem_range.mp hj
   refine⟨0,j,t,rfl,rfl,?_⟩
   show t[j]?=some (t.getD j gS)
   rw [List.getD_eq_getElem?_getD,List.getElem?_eq_getElem jl];rfl
  ·obtain⟨u,p,t',e1,e2,e3⟩:=oQ r (o+1) x h
   refine⟨u+1,p,t',?_,e2,e3⟩
   rw [e1,show o+1+u=o+(u+1) by omega]
theorem pL {α β:Type} {P:V->β->Prop} {f:α->β}:∀ {xs:List V} {l:List α},cv P xs (l.map f)->cv (fun v a=>P v (f a)) xs l
 | _,[],h=>by cases h;exact .nil
 | _,a :: t,h=>by
  cases h with
  | cons p q=>exact .cons p (pL q)
def eK (H:Hp) (t D:Addr):Hp:=fz (fz H t) D
theorem cP {t D:Addr} {H H':Hp} (s:aA H H'):aA (eK H t D) (eK H' t D):=k8 (k8 s)
theorem kW {t D:Addr} {H H':Hp} (S:Step t H H'):aA (eK H t D) (eK H' t D):=k8 (xq S)
theorem pf {t D:Addr} {H:Hp}:aA (eK H t D) H:=pq.trans pq
theorem CT {t D:Addr} {H:Hp} (n:D≠t) (h:∃ ys,H D=some (.lst ys)):∃ ys,fz H t D=some (.lst ys):=let ⟨ys,q⟩:=h;⟨ys,by rw [eV n];exact q⟩
theorem gE {t D p:Addr} {H:Hp} {o:HO} (g:H p=none) (h:∃ xs,H t=some (.lst xs)) (h2:∃ ys,H D=some (.lst ys)):eK (upd H p o) t D p=some o:=by
 unfold eK
 rw [eV (show p≠D from fun z=>by subst z;obtain⟨_,q⟩:=h2;rw [g] at q;cases q)]
 exact AW g h
theorem eA {K:Fg} {t D:Addr} {H:Hp} (h:∃ xs,H t=some (.lst xs)) (n:D≠t) (h2:∃ ys,H D=some (.lst ys)):aI K H (eK H t D):=(uZ h).trans (uZ (CT n h2))
theorem CS {t D:Addr} {H:Hp} {o:HO} (n:D≠t):aA (eK H t D) (eK (upd H D o) t D):=fun b x q=>by
 unfold eK at q ⊢
 by_cases z:b=D
 ·subst z;unfold fz at q;rw [if_pos rfl] at q;cases q
 ·rw [eV z] at q ⊢
  by_cases y:b=t
  ·subst y;unfold fz at q;rw [if_pos rfl] at q;cases q
  ·rw [eV y] at q ⊢
   rw [aw z]
   exact q
theorem gW {k n k' n':Nat} {d:PyData} (h:Gd k n d) (hk:k≤k':=by decide) (hn:n≤n':=by decide):Gd k' n' d:=h.mono hk hn
theorem gN {k n:Nat}:∀ d∈([]:List PyData),Gd k n d:=fun d hd=>by cases hd
theorem gC {k n:Nat} {e:PyData} {ds:List PyData} (h:Gd k n e) (t:∀ d∈ds,Gd k n d):∀ d∈e :: ds,Gd k n d:=fun d hd=>(List.mem_cons.mp hd).elim (fun z=>z ▸ h) (t d)
def gM (K:Fg) (m:Int) (H:Hp) (t D:Addr) (v:V):Prop:=∃ d,aW K (eK H t D) v d/\Gd 3 21000 d/\xK m d
def ng (K:Fg) (m:Int) (H:Hp) (t D:Addr) (v:V):Prop:=∃ d,aW K (eK H t D) v d/\Gd 4 316000 d/\C8 m d
def jr (K:Fg) (m:Int) (H:Hp) (t D:Addr) (v:V):Prop:=∃ d,aW K (eK H t D) v d/\A7 m d
section
variable {K:Fg} {m:Int} {H0 H H':Hp} {t s D p:Addr} {v:V} {zs:List V}
theorem gM.sm (e:aA H H') (h:gM K m H t D v):gM K m H' t D v:=let ⟨d,a,b⟩:=h;⟨d,a.same (cP e),b⟩
theorem gM.st (e:Step t H H') (h:gM K m H t D v):gM K m H' t D v:=let ⟨d,a,b⟩:=h;⟨d,a.same (kW e),b⟩
theorem ng.sm (e:aA H H') (h:ng K m H t D v):ng K m H' t D v:=let ⟨d,a,b⟩:=h;⟨d,a.same (cP e),b⟩
theorem jr.sm (e:aA H H') (h:jr K m H t D v):jr K m H' t D v:=let ⟨d,a,b⟩:=h;⟨d,a.same (cP e),b⟩
theorem jr.st (e:Step t H H') (h:jr K m H t D v):jr K m H' t D v:=let ⟨d,a,b⟩:=h;⟨d,a.same (kW e),b⟩
theorem jm {P:PyData->Prop} (h:∀ x∈zs,∃ d,aW K (eK H t D) x d/\P d):∃ ds,aH K (eK H t D) zs ds/\(∀ d∈ds,P d)/\ds.length=zs.length:=by
 induction zs with
 | nil=>exact⟨[],.nil,(fun d hd=>by cases hd),rfl⟩
 | cons x r ih=>
  obtain⟨ds,a,b,c⟩:=ih fun y hy=>h y (List.mem_cons_of_mem _ hy)
  obtain⟨d,x1,x2⟩:=h x List.mem_cons_self
  refine⟨d :: ds,.cons x1 a,fun e he=>?_,congrArg (·+1) c⟩
  rcases List.mem_cons.mp he with z | z
  ·rw [z];exact x2
  ·exact b e z
theorem Bx (hx:aV K (eK H t D) p zs) (h:∀ x∈zs,gM K m H t D x) (l:zs.length≤15):ng K m H t D (.ref p):=by
 obtain⟨ds,a,b,c⟩:=jm h
 exact⟨.tuple ds,.tup hx a,Gd.tup (m:=15) (fun d hd=>(b d hd).1) (by omega) (by decide),⟨by show ds.length≤15;omega,fun q hq=>(b q hq).2⟩⟩
theorem yk (hx:aV K (eK H t D) p zs) (h:∀ x∈zs,ng K m H t D x) (l:zs.length≤26):jr K m H t D (.ref p):=by
 obtain⟨ds,a,b,c⟩:=jm h
 exact⟨.tuple ds,.tup hx a,⟨(Gd.tup (m:=26) (fun d hd=>(b d hd).1) (by omega) (by decide:(316000+3) * 26+8≤9000000)).mono (by decide) (Nat.le_refl _),by show ds.length≤26;omega,fun q hq=>(b q hq).2⟩⟩
theorem yJ (hx:eK H t D p=some (.lst zs)) (h:∀ x∈zs,gM K m H t D x) (l:zs.length≤15):ng K m H t D (.ref p):=by
 obtain⟨ds,a,b,c⟩:=jm h
 exact⟨.list ds,.lst (aQ.of hx) a,Gd.lst (m:=15) (fun d hd=>(b d hd).1) (by omega) (by decide),⟨Nat.zero_le _,fun q hq=>by cases hq⟩⟩
theorem zT (hx:eK H t D p=some (.lst zs)) (h:∀ x∈zs,ng K m H t D x) (l:zs.length≤26):jr K m H t D (.ref p):=by
 obtain⟨ds,a,b,c⟩:=jm h
 exact⟨.list ds,.lst (aQ.of hx) a,⟨(Gd.lst (m:=26) (fun d hd=>(b d hd).1) (by omega) (by decide:(316000+3) * 26+8≤9000000)).mono (by decide) (Nat.le_refl _),Nat.zero_le _,fun q hq=>by cases hq⟩⟩
theorem tV:jr K m H t D .non:=⟨.none,.non,⟨kX.mono (by decide) (by decide),Nat.zero_le _,fun q hq=>by cases hq⟩⟩
theorem CV {k:Int} {r:R} (hk:k.natAbs < 2 ^ 230) (hr:Wf 230 r):Gd 2 10014 (.tuple [.int k,dR r]):=gF (k:=1) (n:=5000) ((cH hk).mono (by decide) (Nat.le_refl _)) (uO hr) (by decide)
theorem um {x:PyData} {r:R} (h:bY (dR r)=true->Bq D2 NB r):xK m (.tuple [x,dR r]):=fun hp=>by
 obtain⟨k,y,e,_,_,hy⟩:=fe hp
 injection e with e
 injection e with e1 e2
 injection e2 with e2
 subst e1 e2
 exact h hy
theorem rF.d2 {n:Nat} {c:Pc} (h:rF n c):Bq D2 NB c.2:=h.1.mono ⟨5040,rfl⟩ (by decide)
theorem wE {n:Nat} {c:Pc} (T:∃ xs,H t=some (.lst xs)) (nD:D≠t) (hD:∃ ys,H D=some (.lst ys)) (h:m6 K H v c) (b:rF n c) (hn:n≤100):gM K m H t D v:=by
 obtain⟨p,x,rfl,hS,rx⟩:=h.mono (eA T nD hD)
 refine⟨.tuple [.int c.1,dR c.2],.tup hS (.cons (.int _) (.cons rx.deep .nil)),(CV ?_ (b.2.2.1.mono (by decide))).mono (by decide) (by decide),um fun _=>b.d2⟩
 obtain⟨_,_,_,h0,h1⟩:=b
 have:c.1.natAbs < 2 ^ 10:=by omega
 exact Nat.lt_of_lt_of_le this (by decide)
theorem ge {α:Type} {P:V->α->Prop} {xs:List V} {l:List α} (h:cv P xs l):∀ x∈xs,∃ a∈l,P x a:=fun x hx=>by
 obtain⟨i,hi⟩:=List.getElem?_of_mem hx
 obtain⟨a,ha,p⟩:=h.at hi
 exact⟨a,List.mem_of_getElem? ha,p⟩
def oz (K:Fg) (m:Int) (H:Hp) (t D:Addr) (v:V):Prop:=∃ d,aW K (eK H t D) v d/\Gd 1 10014 d/\bY d=false/\br m d=false
theorem oz.sm (e:aA H H') (h:oz K m H t D v):oz K m H' t D v:=let ⟨d,a,b⟩:=h;⟨d,a.same (cP e),b⟩
theorem oz.st (e:Step t H H') (h:oz K m H t D v):oz K m H' t D v:=let ⟨d,a,b⟩:=h;⟨d,a.same (kW e),b⟩
theorem oz.pc (h:oz K m H t D v):gM K m H t D v:=let ⟨d,a,b,_,c⟩:=h;⟨d,a,b.mono (by decide) (by decide),fun z=>by rw [c] at z;cases z⟩
theorem nZ {i:Int} (h:i.natAbs < 2 ^ 230):oz K m H t D (.int i):=⟨.int i,.int i,(cH h).mono (by decide) (by decide),rfl,rfl⟩
structure Bp (K:Fg) (m:Nat) (H0 H:Hp) (t s D pp:Addr) (k:Int) (va:V) (r:R) (Rs:List (V×R)) (O L:List V) (M:List (Addr×List V)):Prop where
 S:Step t H0 H
 T:bE H t s
 nD:D≠t
 hD:∃ ys,H D=some (.lst ys)
 hP:aV K H pp [.int k,va]
 ra:RV K H va r
 RS:∀ x∈Rs,RV K H x.1 x.2
 PO:∀ v∈O,oz K m H t D v
 PL:∀ v∈L,gM K m H t D v
 LL:∀ x∈M,x.1≠t/\H x.1=some (.lst x.2)
variable {n:Nat} {pp:Addr} {k:Int} {va:V} {r:R} {Rs:List (V×R)} {O L:List V} {M:List (Addr×List V)}
theorem Bp.sm (e:aA H H') (B:Bp K n H0 H t s D pp k va r Rs O L M):Bp K n H0 H' t s D pp k va r Rs O L M:=
 ⟨B.S.trans (.same e B.T.lst),B.T.same e,B.nD,B.hD.imp fun _ q=>e _ _ q,aI.same e _ _ B.hP,B.ra.mono (aI.same e),fun x h=>(B.RS x h).mono (aI.same e),fun v h=>(B.PO v h).sm e,fun v h=>(B.PL v h).sm e,fun x h=>⟨(B.LL x h).1,e _ _ (B.LL x h).2⟩⟩
theorem Bp.dr {x:List V} (T:bE (upd H t (.lst x)) t s) (B:Bp K n H0 H t s D pp k va r Rs O L M):Bp K n H0 (upd H t (.lst x)) t s D pp k va r Rs O L M:=
 have e:Step t H (upd H t (.lst x)):=Step.up (ys:=x) B.T.lst.choose_spec
 ⟨B.S.trans e,T,B.nD,B.hD.imp fun _ q=>e.keep _ _ B.nD q,aI.step e _ _ B.hP,B.ra.mono (aI.step e),fun x h=>(B.RS x h).mono (aI.step e),fun v h=>(B.PO v h).st e,fun v h=>(B.PL v h).st e,fun x h=>⟨(B.LL x h).1,e.keep _ _ (B.LL x h).1 (B.LL x h).2⟩⟩
theorem Bp.nr {a b:Int} (g:H p=none) (B:Bp K n H0 H t s D pp k va r Rs O L M):Bp K n H0 (upd H p (.tup [.int a,.int b])) t s D pp k va r ((.ref p,(a,b)) :: Rs) O L M:=
 have B':=B.sm (ak g (.tup [.int a,.int b]))
 ⟨B'.S,B'.T,B'.nD,B'.hD,B'.hP,B'.ra,fun x hx=>(List.mem_cons.mp hx).elim (fun q=>by rw [q];exact RV.of ai) (B'.RS x),B'.PO,B'.PL,B'.LL⟩
theorem Bp.no {o:HO} (g:H p=none) (B:Bp K n H0 H t s D pp k va r Rs O L M) (h:oz K n (upd H p o) t D (.ref p)):Bp K n H0 (upd H p o) t s D pp k va r Rs (.ref p :: O) L M:=
 have B':=B.sm (ak g o)
 ⟨B'.S,B'.T,B'.nD,B'.hD,B'.hP,B'.ra,B'.RS,fun v hv=>(List.mem_cons.mp hv).elim (fun q=>by rw [q];exact h) (B'.PO v),B'.PL,B'.LL⟩
theorem Bp.nl {o:HO} (g:H p=none) (B:Bp K n H0 H t s D pp k va r Rs O L M) (h:gM K n (upd H p o) t D (.ref p)):Bp K n H0 (upd H p o) t s D pp k va r Rs O (.ref p :: L) M:=
 have B':=B.sm (ak g o)
 ⟨B'.S,B'.T,B'.nD,B'.hD,B'.hP,B'.ra,B'.RS,B'.PO,fun v hv=>(List.mem_cons.mp hv).elim (fun q=>by rw [q];exact h) (B'.PL v),B'.LL⟩
theorem Bp.ns {xs:List V} (g:H p=none) (B:Bp K n H0 H t s D pp k va r Rs O L M):Bp K n H0 (upd H p (.lst xs)) t s D pp k va r Rs O L ((p,xs) :: M):=
 have B':=B.sm (ak g (.lst xs))
 ⟨B'.S,B'.T,B'.nD,B'.hD,B'.hP,B'.ra,B'.RS,B'.PO,B'.PL,fun x hx=>(List.mem_cons.mp hx).elim (fun q=>by rw [q];exact⟨(fun z=>by obtain⟨_,e⟩:=B.T.lst;rw [← z,g] at e;cases e),ai⟩) (B'.LL x)⟩
theorem Bp.od {v:V} (B:Bp K n H0 H t s D pp k va r Rs O L M) (h:oz K n H t D v):Bp K n H0 H t s D pp k va r Rs (v :: O) L M:=
 ⟨B.S,B.T,B.nD,B.hD,B.hP,B.ra,B.RS,fun w hw=>(List.mem_cons.mp hw).elim (fun q=>by rw [q];exact h) (B.PO w),B.PL,B.LL⟩
theorem Bp.pl {v:V} (B:Bp K n H0 H t s D pp k va r Rs O L M) (h:gM K n H t D v):Bp K n H0 H t s D pp k va r Rs O (v :: L) M:=
 ⟨B.S,B.T,B.nD,B.hD,B.hP,B.ra,B.RS,B.PO,fun w hw=>(List.mem_cons.mp hw).elim (fun q=>by rw [q];exact h) (B.PL w),B.LL⟩
theorem nY {xs:List V} {ds:List PyData} (T:∃ xs,H t=some (.lst xs)) (hD:∃ ys,H D=some (.lst ys)) (g:H p=none) (ha:aH K (eK H t D) xs ds) (gd:Gd 1 10014 (.tuple ds)) (a:bY (.tuple ds)=false) (b:br m (.tuple ds)=false):oz K m (upd H p (.tup xs)) t D (.ref p):=
 ⟨.tuple ds,.tup (aV.of (gE g T hD)) (aH.same (cP (ak g (.tup xs))) ha),gd,a,b⟩
theorem wF (T:∃ xs,H t=some (.lst xs)) (nD:D≠t) (hD:∃ ys,H D=some (.lst ys)) (g:H p=none) (hk:k.natAbs < 2 ^ 230) (ra:RV K H va r) (wr:Wf 230 r):gM K m (upd H p (.lst [.int k,va])) t D (.ref p):=
 have sm:=ak g (.lst [.int k,va])
 ⟨.list [.int k,dR r],.lst (aQ.of (gE g T hD)) (.cons (.int _) (.cons (((ra.mono (eA T nD hD)).deep).same (cP sm)) .nil)),(Gd.lst (k:=1) (n:=10014) (m:=2) (N:=20042) (gC (gW (cH hk)) (gC (uO wr |>.mono (by decide) (by decide)) gN)) (Nat.le_refl _) (by decide)).mono (by decide) (by decide),fun z=>by cases z⟩
theorem uq {w:V} (T:∃ xs,H t=some (.lst xs)) (nD:D≠t) (hD:∃ ys,H D=some (.lst ys)) (g:aV K H p ([.int k,va]++[.int 1])) (hk:k.natAbs < 2 ^ 230) (ra:RV K H va r) (wr:Wf 230 r):gM K m H t D (.ref p):=
 ⟨.tuple [.int k,dR r,.int 1],.tup (eA T nD hD _ _ g) (.cons (.int _) (.cons (ra.mono (eA T nD hD)).deep (.cons (.int _) .nil))),(Gd.tup (k:=1) (n:=5000) (m:=3) (N:=15017) (gC (gW (cH hk)) (gC (uO wr) (gC (gW (cH (by decide))) gN))) (Nat.le_refl _) (by decide)).mono (by decide) (by decide),fun z=>by cases z⟩
theorem A5 {a b:Int} (h:0 < a):bY (dR (0 - a,b))=false:=by
 have h':decide (0 < 0 - a)=false:=decide_eq_false (by omega)
 show ((decide (1≤b) && decide (Int.gcd (0 - a) b=1)) && decide (0 < 0 - a))=false
 rw [h',Bool.and_false]
theorem A4 {a b:Int}:bY (dR (2 * a,2 * b))=false:=by
 have h':decide (Int.gcd (2 * a) (2 * b)=1)=false:=decide_eq_false (by rw [Int.gcd_mul_left];show ¬ 2 * _=1;omega)
 show ((decide (1≤2 * b) && decide (Int.gcd (2 * a) (2 * b)=1)) && decide (0 < 2 * a))=false
 rw [h',Bool.and_false,Bool.false_and]
theorem rg {d:Int} (h0:0≤d) (h9:d < 9):Bq 2520 1 ((1,1+d):R):=by
 refine⟨by show 0 < 1+d;omega,Int.one_gcd,?_,by show 1≤1 * (1+d).natAbs;omega⟩
 obtain⟨j,rfl⟩:=Int.eq_ofNat_of_zero_le h0
 have:j < 9:=by omega
 match j,this with
 | 0,_=>exact⟨2520,by decide⟩
 | 1,_=>exact⟨1260,by decide⟩
 | 2,_=>exact⟨840,by decide⟩
 | 3,_=>exact⟨630,by decide⟩
 | 4,_=>exact⟨504,by decide⟩
 | 5,_=>exact⟨420,by decide⟩
 | 6,_=>exact⟨360,by decide⟩
 | 7,_=>exact⟨315,by decide⟩
 | 8,_=>exact⟨280,by decide⟩
theorem xy:Bq 2 1 ((1,2):R):=⟨by decide,by decide,⟨1,by decide⟩,by decide⟩
theorem re {r:R} {d:Int} (b:Bq D1 N0 r) (h0:0≤d) (h9:d < 9):Bq D2 NB (ci r (1,1+d)):=
 (Bq.plus (D:=D1 * 2520) (by decide) (b.mono ⟨2520,rfl⟩ (Nat.le_refl _)) ((rg h0 h9).mono ⟨D1,Nat.mul_comm _ _⟩ (Nat.le_refl _))).mono ⟨2,by decide⟩ (by decide)
theorem jg {r:R} (b:Bq D1 N0 r):Bq D2 NB (bG r (1,2)):=(b.times xy).mono ⟨2520,by decide⟩ (by decide)
theorem eO {x w:V} {dx:PyData} {q:R} (T:∃ xs,H t=some (.lst xs)) (nD:D≠t) (hD:∃ ys,H D=some (.lst ys)) (g:H p=none) (hx:aW K (eK H t D) x dx) (gx:Gd 1 10014 dx) (rw_:RV K H w q) (wq:q.1.natAbs < 2 ^ 230/\q.2.natAbs < 2 ^ 230) (ok:bY (dR q)=true->Bq D2 NB q):gM K m (upd H p (.tup [x,w])) t D (.ref p):=by
 have sm:=ak g (.tup [x,w])
 have dq:aW K (eK H t D) w (dR q):=(rw_.mono (eA T nD hD)).deep
 refine⟨.tuple [dx,dR q],.tup (aV.of (gE g T hD)) (.cons (hx.same (cP sm)) (.cons (dq.same (cP sm)) .nil)),(gF (k:=1) (n:=10014) (N:=20042) gx ?_ (by decide)).mono (by decide) (by decide),um ok⟩
 exact gF (k:=0) (n:=5000) (cH wq.1) (cH wq.2) (by decide)
theorem Ah {x w:V} {dx:PyData} (T:∃ xs,H t=some (.lst xs)) (hD:∃ ys,H D=some (.lst ys)) (g:H p=none) (hx:aW K (eK H t D) x dx) (gx:Gd 1 10014 dx) (ho:oz K m H t D w):gM K m (upd H p (.tup [x,w])) t D (.ref p):=by
 have sm:=ak g (.tup [x,w])
 obtain⟨d,a,b,c,e⟩:=ho
 refine⟨.tuple [dx,d],.tup (aV.of (gE g T hD)) (.cons (hx.same (cP sm)) (.cons (a.same (cP sm)) .nil)),(gF (k:=1) (n:=10014) (N:=20042) gx b (by decide)).mono (by decide) (by decide),fun z=>?_⟩
 have z':(ib m dx && bY d)=true:=z
 rw [c,Bool.and_false] at z'
 cases z'
end
def lP (K:Fg):Sp:=fun vs H Q _=>∃ (p:Addr) (xs:List V) (j:Nat) (v:V),vs=[.ref p,.int j,v]/\aV K H p xs/\j < xs.length/\xs.length≤1000/\∀ (q:Addr) (H':Hp),aA H H'->aV K H' q (xs.set j v)->Q (.ref q) H'
theorem vM {α:Type} (xs:List α) (j:Nat) (v:α) (h:j < xs.length):xs.take j++[v]++xs.drop (j+1)=xs.set j v:=by
 rw [List.set_eq_take_append_cons_drop,if_pos h,List.append_assoc]
 rfl
theorem iy {xs:List V} {b:Nat} (hb:b≤xs.length):dw xs none (some (b:Int))=xs.take b:=by
 unfold dw
 rw [HT.sIx_none,HT.sIx_nat,Nat.min_eq_left hb,List.drop_zero,Nat.sub_zero]
theorem iz {xs:List V} {a:Nat} (ha:a≤xs.length):dw xs (some (a:Int)) none=xs.drop a:=by
 unfold dw
 rw [HT.sIx_none,HT.sIx_nat,Nat.min_eq_left ha]
 exact List.take_of_length_le (by rw [List.length_drop];omega)
def fV (K:Fg):Sp:=fun vs H Q _=>∃ (t s D:Addr) (v:V) (m:Nat) (c:Pc),vs=[.ref t,v,.int m]/\bE H t s/\D≠t/\(∃ ys,H D=some (.lst ys))/\m6 K H v c/\rF m c/\1≤m/\m≤12/\∀ (u:V) (H':Hp),Step t H H'->bE H' t s->gM K m H' t D u->Q u H'
def nh (K:Fg) (m:Int) (H:Hp) (t D:Addr) (v:V):Prop:=∃ a us,v=.ref a/\aV K H a us/\(∀ x∈us,gM K m H t D x)/\us.length≤12
section
variable {K:Fg} {m:Int} {H0 H H':Hp} {t s D p:Addr} {v:V} {xs zs:List V}
theorem nh.sm (e:aA H H') (h:nh K m H t D v):nh K m H' t D v:=let ⟨a,us,q,h1,h2,l⟩:=h;⟨a,us,q,aI.same e _ _ h1,fun x hx=>(h2 x hx).sm e,l⟩
theorem nh.st (e:Step t H H') (h:nh K m H t D v):nh K m H' t D v:=let ⟨a,us,q,h1,h2,l⟩:=h;⟨a,us,q,aI.step e _ _ h1,fun x hx=>(h2 x hx).st e,l⟩
theorem jF (T:∃ xs,H t=some (.lst xs)) (nD:D≠t) (hD:∃ ys,H D=some (.lst ys)) (hq:aV K H p zs) (h:∀ x∈zs,gM K m H t D x) (l:zs.length≤15):ng K m H t D (.ref p):=Bx (eA T nD hD _ _ hq) h l
theorem nh.tu (T:∃ xs,H t=some (.lst xs)) (nD:D≠t) (hD:∃ ys,H D=some (.lst ys)) (h:nh K m H t D v):ng K m H t D v:=by
 obtain⟨a,us,rfl,h1,h2,l⟩:=h
 exact jF T nD hD h1 h2 (by omega)
theorem fc {y:V} {j:Nat} (T:∃ xs,H t=some (.lst xs)) (nD:D≠t) (hD:∃ ys,H D=some (.lst ys)) (hr:aV K H p (xs.set j y)) (h:∀ x∈xs,nh K m H t D x) (hy:ng K m H t D y) (l:xs.length≤26):jr K m H t D (.ref p):=
 yk (eA T nD hD _ _ hr) (fun x hx=>(List.mem_or_eq_of_mem_set hx).elim (fun q=>(h x q).tu T nD hD) fun q=>by rw [q];exact hy) (by rw [List.length_set];exact l)
theorem xO {n:Nat} {pl:List (List Pc)} (T:∃ xs,H t=some (.lst xs)) (nD:D≠t) (hD:∃ ys,H D=some (.lst ys)) (al:cv (rC K H) xs pl) (wd:∀ t∈pl,t.length≤12) (pcs:∀ t∈pl,∀ q∈t,rF n q) (hn:n≤12):∀ x∈xs,nh K m H t D x:=fun x hx=>by
 obtain⟨c,hc,tv⟩:=ge al x hx
 obtain⟨a,us,rfl,h1,h2⟩:=tv
 refine⟨a,us,rfl,h1,fun y hy=>?_,by rw [h2.len];exact wd c hc⟩
 obtain⟨q,hq,pv⟩:=ge h2 y hy
 exact wE T nD hD pv (pcs c hc q hq) (by omega)
theorem ft {n:Nat} {pl:List (List Pc)} (T:∃ xs,H t=some (.lst xs)) (nD:D≠t) (hD:∃ ys,H D=some (.lst ys)) (al:cv (rC K H) xs pl) (ok:De n pl) (hn:n≤12):∀ x∈xs,nh K m H t D x:=xO T nD hD al ok.wd ok.pc hn
theorem vB (T:∃ xs,H t=some (.lst xs)) (nD:D≠t) (hD:∃ ys,H D=some (.lst ys)) (hq:aV K H p zs) (h:∀ x∈zs,gM K m H t D x) (l:zs.length≤15):∃ ds,aW K H (.ref p) (.tuple ds)/\Gd 4 316000 (.tuple ds)/\ds.length=zs.length:=by
 obtain⟨ds,a,b,c⟩:=jm (P:=fun d=>Gd 3 21000 d/\xK m d) h
 exact⟨ds,(aW.tup (eA T nD hD _ _ hq) a).same pf,Gd.tup (m:=15) (fun d hd=>(b d hd).1) (by omega) (by decide),c⟩
theorem C0 (ds:List PyData):PyData.eqv (.tuple ds) (.tuple [])=ds.isEmpty:=by cases ds <;> rfl
theorem xD {us:List V} {l:List Nat} (h:cv (fun v (j:Nat)=>v=V.int (j:Nat)) us l):us=eI l:=by
 induction h with
 | nil=>rfl
 | cons e _ ih=>unfold eI at ih ⊢;rw [List.map_cons,e,ih]
structure Bl (K:Fg) (m:Nat) (H0 H:Hp) (t s D p:Addr) (xs:List V) (pl:List (List Pc)) (v:V) (ws:List Wk) (ls:List Ln) (L:List V) (M:List (Addr×List V)):Prop where
 S:Step t H0 H
 T:bE H t s
 nD:D≠t
 hD:∃ ys,H D=some (.lst ys)
 hS:aV K H p xs
 al:cv (rC K H) xs pl
 hv:xI K H v ws ls
 PL:∀ v∈L,jr K m H t D v
 LL:∀ x∈M,x.1≠t/\H x.1=some (.lst x.2)
variable {n:Nat} {pp:Addr} {pl:List (List Pc)} {w:V} {ws:List Wk} {ls:List Ln} {L:List V} {M:List (Addr×List V)}
theorem Bl.sm (e:aA H H') (B:Bl K n H0 H t s D pp xs pl w ws ls L M):Bl K n H0 H' t s D pp xs pl w ws ls L M:=
 ⟨B.S.trans (.same e B.T.lst),B.T.same e,B.nD,B.hD.imp fun _ q=>e _ _ q,aI.same e _ _ B.hS,B.al.mono fun _ _ z=>z.mono (aI.same e),B.hv.mono (aI.same e),fun v h=>(B.PL v h).sm e,fun x h=>⟨(B.LL x h).1,e _ _ (B.LL x h).2⟩⟩
theorem Bl.st (e:Step t H H') (T:bE H' t s) (B:Bl K n H0 H t s D pp xs pl w ws ls L M):Bl K n H0 H' t s D pp xs pl w ws ls L M:=
 ⟨B.S.trans e,T,B.nD,B.hD.imp fun _ q=>e.keep _ _ B.nD q,aI.step e _ _ B.hS,B.al.mono fun _ _ z=>z.mono (aI.step e),B.hv.mono (aI.step e),fun v h=>(B.PL v h).st e,fun x h=>⟨(B.LL x h).1,e.keep _ _ (B.LL x h).1 (B.LL x h).2⟩⟩
theorem Bl.dr {x:List V} (T:bE (upd H t (.lst x)) t s) (B:Bl K n H0 H t s D pp xs pl w ws ls L M):Bl K n H0 (upd H t (.lst x)) t s D pp xs pl w ws ls L M:=B.st (Step.up (ys:=x) B.T.lst.choose_spec) T
theorem Bl.pl' {v:V} (B:Bl K n H0 H t s D pp xs pl w ws ls L M) (h:jr K n H t D v):Bl K n H0 H t s D pp xs pl w ws ls (v :: L) M:=
 ⟨B.S,B.T,B.nD,B.hD,B.hS,B.al,B.hv,fun w hw=>(List.mem_cons.mp hw).elim (fun q=>by rw [q];exact h) (B.PL w),B.LL⟩
theorem Bl.ns {us:List V} (g:H p=none) (B:Bl K n H0 H t s D pp xs pl w ws ls L M):Bl K n H0 (upd H p (.lst us)) t s D pp xs pl w ws ls L ((p,us) :: M):=
 have B':=B.sm (ak g (.lst us))
 ⟨B'.S,B'.T,B'.nD,B'.hD,B'.hS,B'.al,B'.hv,B'.PL,fun x hx=>(List.mem_cons.mp hx).elim (fun q=>by rw [q];exact⟨(fun z=>by obtain⟨_,e⟩:=B.T.lst;rw [← z,g] at e;cases e),ai⟩) (B'.LL x)⟩
theorem Cp (T:∃ xs,H t=some (.lst xs)) (hD:∃ ys,H D=some (.lst ys)) (g:H p=none) (h:∀ x∈xs,ng K m H t D x) (l:xs.length≤26):jr K m (upd H p (.lst xs)) t D (.ref p):=zT (gE g T hD) (fun x hx=>(h x hx).sm (ak g _)) l
theorem ia (T:∃ xs,H t=some (.lst xs)) (nD:D≠t) (hD:∃ ys,H D=some (.lst ys)) (hq:aV K H p xs) (h:∀ x∈xs,ng K m H t D x) (l:xs.length≤26):jr K m H t D (.ref p):=yk (eA T nD hD _ _ hq) h l
theorem yK (T:∃ xs,H t=some (.lst xs)) (hD:∃ ys,H D=some (.lst ys)) (g:H p=none) (h:∀ x∈zs,gM K m H t D x) (l:zs.length≤15):ng K m (upd H p (.lst zs)) t D (.ref p):=yJ (gE g T hD) (fun x hx=>(h x hx).sm (ak g _)) l
end
def lW (K:Fg):Sp:=fun vs H Q _=>∃ (t s D:Addr) (v x:V) (ws:List Wk) (ls:List Ln) (pl:List (List Pc)),vs=[.ref t,v,x]/\bE H t s/\D≠t/\(∃ ys,H D=some (.lst ys))/\xI K H v ws ls/\ig K H x pl/\De ws.length pl/\ws.length≤12/\∀ (u:V) (H':Hp),Step t H H'->bE H' t s->jr K ws.length H' t D u->Q u H'
def yQ (a b n:Int):Int:=if n=b then a else if n=a then b else n
theorem BK (a b:Int):dm [] [((.inl a:bS),V.int b),(.inl b,.int a)]=if a=b then [(.inl a,.int a)] else [(.inl a,.int b),(.inl b,.int a)]:=by
 show cX [((.inl a:bS),V.int b)] (.inl b) (.int a)=_
 by_cases e:a=b
 ·subst e;rw [if_pos rfl];simp [cX]
 ·rw [if_neg e];simp [cX,e]
theorem yP (a b n:Int):(fQ (dm [] [((.inl a:bS),V.int b),(.inl b,.int a)]) (.inl n)).getD (.int n)=.int (yQ a b n):=by
 rw [BK]
 unfold yQ
 by_cases e:a=b
 ·subst e
  rw [if_pos rfl]
  by_cases e2:n=a
  ·subst e2;rw [dg rfl,if_pos rfl];rfl
  ·rw [cQ (fun z=>e2 (by injection z with z;exact z.symm)),if_neg e2,if_neg e2];rfl
 ·rw [if_neg e]
  by_cases e2:n=b
  ·subst e2
   rw [cQ (fun z=>e (by injection z)),dg rfl,if_pos rfl];rfl
  ·rw [if_neg e2]
   by_cases e3:n=a
   ·subst e3
    rw [dg rfl,if_pos rfl];rfl
   ·rw [cQ (fun z=>e3 (by injection z with z;exact z.symm)),cQ (fun z=>e2 (by injection z with z;exact z.symm)),if_neg e3];rfl
theorem xY {a b n:Int} {m:Nat} (ha:0≤a/\a < m) (hb:0≤b/\b < m) (hn:0≤n/\n < m):0≤yQ a b n/\yQ a b n < m:=by
 unfold yQ
 split
 ·exact ha
 ·split
  ·exact hb
  ·exact hn
def Dt (a b:Int) (c:Pc):Pc:=(yQ a b c.1,c.2)
theorem Ag {a b:Int} {m:Nat} {c:Pc} (ha:0≤a/\a < m) (hb:0≤b/\b < m) (h:rF m c):rF m (Dt a b c):=⟨h.1,h.2.1,h.2.2.1,(xY ha hb ⟨h.2.2.2.1,h.2.2.2.2⟩).1,(xY ha hb ⟨h.2.2.2.1,h.2.2.2.2⟩).2⟩
def iH (K:Fg):Sp:=fun vs H Q _=>∃ (v:V) (pl:List (List Pc)) (a b:Int),vs=[v,.int a,.int b]/\ig K H v pl/\pl.length≤24/\(∀ t∈pl,t.length≤12)/\∀ (v':V) (H':Hp),aA H H'->ig K H' v' (pl.map fun t=>t.map (Dt a b))->Q v' H'
def ko (K:Fg):Sp:=fun vs H Q _=>∃ (t s D:Addr) (v:V) (m j z:Nat) (pl:List (List Pc)),vs=[.ref t,v,.int j,.int z]/\bE H t s/\D≠t/\(∃ ys,H D=some (.lst ys))/\ig K H v pl/\De m pl/\m≤12/\j < 24/\z < (pl.getD j []).length/\∀ (u:V) (H':Hp),Step t H H'->bE H' t s->jr K m H' t D u->Q u H'
theorem oZ {xs:List V} {z:Nat} {x:V} (h:x∈xs.take z++xs.drop (z+1)):x∈xs:=by
 rcases List.mem_append.mp h with h | h
 ·exact List.mem_of_mem_take h
 ·exact List.mem_of_mem_drop h
theorem pE {xs:List V} {z:Nat}:(xs.take z++xs.drop (z+1)).length≤xs.length:=by
 rw [List.length_append,List.length_take,List.length_drop];omega
theorem yA {xs:List V} {b:Int} {n:Nat} (e:b=(n:Int)) (hb:n≤xs.length):dw xs none (some b)=xs.take n:=by rw [e];exact iy hb
theorem pF {xs:List V} {b:Int} {n:Nat} (e:b=(n:Int)) (hb:n≤xs.length):dw xs (some b) none=xs.drop n:=by rw [e];exact iz hb
theorem iu {x:Str} {n:Int} (hx:x=Str.ofString "shape" ∨ x=Str.ofString "piece" ∨ x=Str.ofString "amount" ∨ x=Str.ofString "lean") (hn:n.natAbs < 100):Gd 1 20000 (.tuple [.str x,.int n]):=Gd.tup (m:=2) (n:=5000) (k:=0) (fun d hd=>by
 simp only [List.mem_cons,List.not_mem_nil,or_false] at hd
 rcases hd with rfl | rfl
 ·rcases hx with rfl | rfl | rfl | rfl <;> exact uN (by decide +kernel) (by decide +kernel) (by decide +kernel)
 ·exact cH (Nat.lt_of_lt_of_le hn (by decide))) (Nat.le_refl _) (by decide)
theorem om {m n:Nat} {f:Nat->Bool} (h:(List.range m).find? f=some n):n < m:=List.mem_range.mp (List.mem_of_find?_eq_some h)
theorem uM {ws:List Wk} {ls:List Ln} (d:PyData) (ok:rm ws ls):Gd 1 20000 (C2 (js ws ls d)):=by
 have n12:=ok.n12
 have l8:=ok.l8
 unfold js
 split
 rotate_left
 ·exact iu (.inl rfl) (by decide)
 generalize kH d=pl
 unfold fB
 split
 ·rename_i u hu
  have:=om hu
  exact iu (.inr (.inl rfl)) (by omega)
 ·split
  ·rename_i u hu
   have:=om hu
   exact iu (.inr (.inr (.inl rfl))) (by omega)
  ·split
   ·rename_i u hu
    have:=om hu
    exact iu (.inr (.inr (.inr rfl))) (by omega)
   ·exact kX.mono (by decide) (by decide)
theorem vc {α:Type} {P:V->α->Prop} {xs:List V} {l:List α} (n:Nat) (h:cv P xs l):cv P (xs.take n) (l.take n):=by
 induction h generalizing n with
 | nil=>rw [List.take_nil,List.take_nil];exact .nil
 | cons p q ih=>
  cases n with
  | zero=>exact .nil
  | succ n=>exact .cons p (ih n)
def Bm (K:Fg) (H:Hp) (p:Addr) (v u:V) (ws:List Wk) (ls:List Ln):Prop:=aV K H p [v,u]/\lm K H v ws/\rn K H u ls
theorem Bm.mono {K:Fg} {H H':Hp} {p:Addr} {v u:V} {ws:List Wk} {ls:List Ln} (h:Bm K H p v u ws ls) (t:aI K H H'):Bm K H' p v u ws ls:=⟨t _ _ h.1,h.2.1.mono t,h.2.2.mono t⟩
theorem Bm.sh {K:Fg} {H:Hp} {p:Addr} {v u:V} {ws:List Wk} {ls:List Ln} (h:Bm K H p v u ws ls):xI K H (.ref p) ws ls:=⟨p,v,u,rfl,h.1,h.2.1,h.2.2⟩
def DW (e:Ln):Ln:=(e.2,e.1)
theorem qo {ws:List Wk} {ls:List Ln} (ok:rm ws ls):rm ws ((ls.take 1).map DW):=⟨ok.n12,ok.wk,by rw [List.length_map,List.length_take];omega,fun l hl=>by
 obtain⟨e,he,rfl⟩:=List.mem_map.mp hl
 obtain⟨a,b,c⟩:=ok.ln e (List.mem_of_mem_take he)
 exact⟨b,a,Ne.symm c⟩⟩
theorem za:aF ["thing"] ["thing"] (au sQ):=dU
theorem BS:aF ["thing", "length"] ["thing", "length"] (au zf):=dU
theorem BT:aF ["thing", "count"] ["thing", "count"] (au zj):=dU
theorem yW:aF ["thing"] ["thing"] (au sy):=dU
theorem jI:aF ["one", "other", "high", "low", "rest"] ["one", "other"] (au zp):=dU
theorem nK:aF ["thing", "top", "bottom"] ["thing"] (au sO):=dU
theorem BV:aF ["thing"] ["thing"] (au zo):=dU
theorem nI:aF ["top", "bottom", "shared"] ["top", "bottom"] (au sx):=dU
theorem kx:aF ["one", "other", "shared", "top", "rest"] ["one", "other"] (au sv):=dU
theorem fG:aF ["some", "tops", "one", "so_far", "bottom", "top"] ["some"] (au sw):=dU
theorem zd:aF ["work", "turn"] ["work", "turn"] (au sX):=dU
theorem y9:aF ["thing", "count"] ["thing", "count"] (au sN):=dU
theorem ze:aF ["thing", "count"] ["thing", "count"] (au sZ):=dU
theorem BU:aF ["thing", "count"] ["thing", "count"] (au zm):=dU
theorem yc:aF ["works", "turn", "pieces", "numbers"] ["works", "turn", "pieces"] (au zi):=dU
theorem sr:aF ["plan", "row", "pieces"] ["plan"] (au zn):=dU
theorem sk:aF ["row", "lean", "ahead", "behind"] ["row", "lean"] (au zh):=dU
theorem d8:aF ["sheet", "thing", "works", "turn", "pieces", "row", "number", "work", "lean"] ["sheet", "thing"] (au sY):=dU
theorem yZ:aF ["_law_script"] ["_law_script"] (au sM):=dU
theorem eM:aF ["_law_tape_here", "_law_many", "_law_script", "_law_spot", "_law_left", "_law_cell", "_law_mixed"] ["_law_tape_here", "_law_many"] (au sL):=dU
theorem so:aF ["_law_one", "_law_other"] ["_law_one", "_law_other"] (au sE):=dU
theorem nM:aF ["_law_top", "_law_bottom", "_law_by"] ["_law_top", "_law_bottom"] (au sW):=dU
theorem yY:aF ["_law_one", "_law_other"] ["_law_one", "_law_other"] (au sK):=dU
theorem zc:aF ["_law_one", "_law_other"] ["_law_one", "_law_other"] (au sV):=dU
theorem ky:aF ["_law_some", "_law_found", "_law_one"] ["_law_some"] (au sC):=dU
theorem nJ:aF ["_law_tape_here", "_law_tops", "_law_bottoms"] ["_law_tape_here"] (au sJ):=dU
theorem eN:aF ["_law_tape_here", "_law_most", "_law_end", "_law_found", "_law_k", "_law_first", "_law_last"] ["_law_tape_here", "_law_most", "_law_end"] (au sU):=dU
theorem dG:aF ["_law_tape_here", "_law_works_here", "_law_turns", "_law_number", "_law_work", "_law_spots_here", "_law_shares", "_law_t", "_law_share", "_law_piece"] ["_law_tape_here", "_law_works_here"] (au sI):=dU
theorem nL:aF ["_law_plan_here", "_law_number", "_law_found", "_law_t"] ["_law_plan_here", "_law_number"] (au sT):=dU
theorem iK:aF ["_law_tape_here", "_law_works_here", "_law_plan_here", "_law_found", "_law_k", "_law_one", "_law_other"] ["_law_tape_here", "_law_works_here", "_law_plan_here"] (au tj):=dU
theorem zb:aF ["_law_thing"] ["_law_thing"] (au sS):=dU
theorem yb:aF ["_law_thing", "_law_many", "_law_part_here"] ["_law_thing", "_law_many"] (au zg):=dU
theorem eL:aF ["_law_sheet", "_law_thing", "_law_works_here", "_law_leans", "_law_turn", "_law_t", "_law_numbers", "_law_n"] ["_law_sheet", "_law_thing"] (au sB):=dU
theorem yX:aF ["_law_row", "_law_at", "_law_thing"] ["_law_row", "_law_at", "_law_thing"] (au sH):=dU
theorem gQ:aF ["_law_tape_here", "_law_piece", "_law_many", "_law_number", "_law_amount", "_law_little", "_law_odd", "_law_some"] ["_law_tape_here", "_law_piece", "_law_many"] (au zk):=dU
theorem gr:aF ["_law_tape_here", "_law_plan_here", "_law_t", "_law_place", "_law_piece", "_law_turn", "_law_half", "_law_other"] ["_law_tape_here", "_law_plan_here", "_law_t", "_law_place"] (au sR):=dU
theorem ss:aF ["_law_plan_here", "_law_one", "_law_other", "_law_names"] ["_law_plan_here", "_law_one", "_law_other"] (au tf):=dU
theorem gk:aF ["_law_tape_here", "_law_sheet", "_law_plan_here", "_law_full", "_law_way", "_law_some", "_law_t", "_law_place"] ["_law_tape_here", "_law_sheet", "_law_plan_here"] (au sG):=dU
theorem iJ:aF ["_law_sheet", "_law_thing", "_law_found", "e"] ["_law_sheet", "_law_thing"] (au sF):=dU
theorem d7:aF ["_law_script", "_law_tape_here", "_law_k", "_law_works_here", "_law_plan_here", "_law_sheet", "_law_thing", "_law_kept", "_law_about"] ["_law_script"] (au su):=dU
theorem yV:aF ["self", "word", "number"] ["self", "word", "number"] (au jJ):=dU
end My
namespace My
open PySem L2 B PyProof.Rows
section
variable {P:Program} {w:World} {K:Fg} {mg:Str->Option Value} {base:Heap} {t:Ad}
theorem nV (T:dM K mg t):bh P w K mg base cZ 1 t.a_Q23 t.d_Q23 ["thing"] (gO K):=by
 refine T.F_Q23.ok za (fun vs H Q E h=>?_) (fun cdv A outer s H vs Q E hr h=>?_)
 ·obtain⟨_,_,rfl,_⟩:=h;rfl
 obtain⟨v,d,rfl,hD,k⟩:=h
 obtain⟨b,c,e1,e2,e3⟩:=o8 hD
 refine cM.ok (am (aD (dj (ar bW (by rfl) T.z_isinstance boot_isinstance (ad (qv 0) (ad (ck (v:=V.ty "int") rfl T.z_int boot_int rfl) ag af) af)) (eh (tJ (ar bW (by rfl) T.z_isinstance boot_isinstance (ad (qv 0) (ad (ck (v:=V.ty "bool") rfl T.z_bool boot_bool rfl) ag af) af))))))) ?_
 extract_lets +lift
 try dsimp -zeta -zetaDelta only [Cx.nox,Cx.wish,bx]
 rw [e3] at k
 refine⟨_,rfl,_,_,_,_,rfl,hD,e1,_,rfl,?_⟩
 cases b with
 | false=>exact k
 | true=>exact⟨_,rfl,_,_,_,_,rfl,hD,e2,_,rfl,k⟩
theorem uv (T:dM K mg t):bh P w K mg base cZ 1 t.a_Q9 t.d_Q9 ["thing", "length"] (iI K):=by
 refine T.F_Q9.ok BS (fun vs H Q E h=>?_) (fun cdv A outer s H vs Q E hr h=>?_)
 ·obtain⟨_,_,_,rfl,_⟩:=h;rfl
 obtain⟨v,d,m,rfl,hD,k⟩:=h
 refine cM.ok (am (aD (dj (ar bW (by rfl) T.z_isinstance boot_isinstance (ad (qv 0) (ad (ck (v:=V.ty "tuple") rfl T.z_tuple boot_tuple rfl) ag af) af)) (eh (dC cS (ar aC (by rfl) T.z_len boot_len (ad (qv 0) ag af)) (qv 1) (aK _)))))) ?_
 extract_lets +lift
 try dsimp -zeta -zetaDelta only [Cx.nox,Cx.wish,bx]
 rcases fk hD with ⟨e,p,xs,ds,rfl,rfl,hS,hA⟩ | ⟨e,no⟩
 ·refine⟨_,rfl,_,_,_,_,rfl,hD,e,_,rfl,?_⟩
  refine⟨_,rfl,p,_,rfl,.inr hS,_,rfl,rfl,?_⟩
  have q:decide ((V.int xs.length:V)=.int m)=fS m (.tuple ds):=by
   show _=decide (ds.length=m)
   rw [hA.len]
   refine decide_eq_decide.mpr ⟨fun z=>by injection z with z;omega,fun z=>by rw [z]⟩
  rw [q]
  exact k
 ·refine⟨_,rfl,_,_,_,_,rfl,hD,e,_,rfl,?_⟩
  rw [vA no] at k
  exact k
theorem CB (T:dM K mg t):bh P w K mg base cZ 2 t.a_Q5 t.d_Q5 ["thing", "count"] (hW K):=by
 refine T.F_Q5.ok BT (fun vs H Q E h=>?_) (fun cdv A outer s H vs Q E hr h=>?_)
 ·obtain⟨_,_,_,rfl,_⟩:=h;rfl
 obtain⟨v,d,m,rfl,hD,k⟩:=h
 refine cM.ok (am (aD (dj (bI (nV T) hr T.m_Q23 T.F_Q23.kp T.b_Q23 (ad (qv 0) ag af)) (eh (l7 oV eQ ah (qv 0) (qv 1)))))) ?_
 extract_lets +lift
 try dsimp -zeta -zetaDelta only [Cx.nox,Cx.wish,bx]
 refine⟨_,rfl,v,d,rfl,hD,?_⟩
 cases c:cV d with
 | false=>
  rw [oY c] at k
  exact⟨_,rfl,k⟩
 | true=>
  obtain⟨i,rfl⟩:=cJ c
  cases hD
  have kk:Q (.bl (decide (0≤i) && decide (i < m))) H:=k
  refine⟨_,rfl,?_⟩
  refine⟨_,rfl,_,_,rfl,rfl,_,rfl,?_⟩
  by_cases c1:0≤i
  ·refine cr c1 ?_
   rw [decide_eq_true c1,Bool.true_and] at kk
   exact⟨_,rfl,_,_,rfl,rfl,kk⟩
  ·refine cu c1 ?_
   rw [decide_eq_false c1,Bool.false_and] at kk
   exact kk
theorem uw (T:dM K mg t):bh P w K mg base cZ 1 t.a_Q39 t.d_Q39 ["thing"] (pY K):=by
 refine T.F_Q39.ok yW (fun vs H Q E h=>?_) (fun cdv A outer s H vs Q E hr h=>?_)
 ·obtain⟨_,rfl,_⟩:=h;rfl
 obtain⟨v,rfl,hv,k⟩:=h
 refine cM.ok (aj (be (cf (ar dX (by rfl) T.z_isinstance boot_isinstance (ad (qv 0) (ad (ck (v:=V.ty "list") rfl T.z_list boot_list rfl) ag af) af))) (am iM) aO)
   (aj (be (cf (ar dX (by rfl) T.z_isinstance boot_isinstance (ad (qv 0) (ad (ck (v:=V.ty "tuple") rfl T.z_tuple boot_tuple rfl) ag af) af))) (am iM) aO)
   (am (aD (qv 0))))) ?_
 extract_lets +lift
 try dsimp -zeta -zetaDelta only [Cx.nox,Cx.wish,bx]
 rcases hv with ⟨i,rfl⟩ | ⟨x,rfl⟩
 ·refine⟨_,rfl,_,_, "int", false,rfl,.int i,by decide +kernel,false,rfl,cC ?_⟩
  refine⟨_,rfl,_,_, "int", false,rfl,.int i,by decide +kernel,false,rfl,cC ?_⟩
  exact⟨_,rfl,k⟩
 ·refine⟨_,rfl,_,_, "str", false,rfl,.str x,by decide +kernel,false,rfl,cC ?_⟩
  refine⟨_,rfl,_,_, "str", false,rfl,.str x,by decide +kernel,false,rfl,cC ?_⟩
  exact⟨_,rfl,k⟩
theorem oW (T:dM K mg t):bh P w K mg base cZ 1 t.a_Q0 t.d_Q0 ["one", "other"] (fu K):=by
 refine T.F_Q0.ok jI (fun vs H Q E h=>?_) (fun cdv A outer s H vs Q E hr h=>?_)
 ·obtain⟨_,_,rfl,_⟩:=h;rfl
 obtain⟨a,b,rfl,k⟩:=h
 refine cM.ok (aj (cn 2 jI.nd (ar dY (by rfl) T.z_abs boot_abs (ad (qv 0) ag af)))
   (aj (cn 3 jI.nd (ar dY (by rfl) T.z_abs boot_abs (ad (qv 1) ag af)))
   (aj (iL PassesOwn.never (aE gU (qv 3) ah (aK _))
   (aj (cn 4 jI.nd (aB dk (qv 2) (qv 3)))
   (aj (cn 2 jI.nd (qv 3))
   (am (cn 3 jI.nd (qv 4))))))
   (am (aD (qv 2)))))) ?_
 extract_lets +lift
 try dsimp -zeta -zetaDelta only [Cx.nox,Cx.wish,bx]
 refine⟨_,rfl,_,rfl,_,rfl,_,rfl,?_⟩
 rw [lj,lj]
 refine⟨fun m σ H'=>∃ (x y:Int) (v:Option V),σ=[some (.int a),some (.int b),some (.int x),some (.int y),v]/\H'=H/\0≤x/\0≤y/\Int.gcd x y=Int.gcd a b/\m=y.toNat,⟨_,_,_,_,rfl,rfl,by omega,by omega,(by simp [Int.gcd]),rfl⟩,?_⟩
 rintro m σ H' ⟨x,y,v,rfl,rfl,hx,hy,hg,rfl⟩
 refine⟨_,rfl,rfl,_,rfl,?_⟩
 by_cases c:y=0
 ·subst c
  refine g0 rfl ?_
  rw [← hg] at k
  refine⟨_,rfl,?_⟩
  have e:(x:Int)=(Int.gcd x 0:Nat):=by simp [Int.gcd];omega
  rw [← e] at k
  exact k
 ·refine jP (fun z=>c (by injection z)) ?_
  refine⟨_,fun _ _ z=>z,?_⟩
  refine⟨_,rfl,_,rfl,_,_,rfl,rfl,(by omega),_,rfl,_,rfl,?_⟩
  refine⟨_,?_,y,x % y,_,rfl,rfl,hy,Int.emod_nonneg _ c,?_,rfl⟩
  ·have:=Int.emod_lt_of_pos x (show 0 < y by omega)
   have:=Int.emod_nonneg x c
   omega
  ·rw [mK hx (by omega),hg]
theorem Ay (T:dM K mg t):bh P w K mg base cZ 2 t.a_Q24 t.d_Q24 ["thing"] (lX K):=by
 refine T.F_Q24.ok nK (fun vs H Q E h=>?_) (fun cdv A outer s H vs Q E hr h=>?_)
 ·obtain⟨_,_,rfl,_⟩:=h;rfl
 obtain⟨v,d,rfl,hD,k⟩:=h
 refine cM.ok (aj (be (cF (cf (bI (uv T) hr T.m_Q9 T.F_Q9.kp T.b_Q9 (ad (qv 0) (ad ah ag aq) af)))) (am (aD di)) aO)
   (aj (cn 1 nK.nd (bv av (qv 0) ah))
   (aj (cn 2 nK.nd (bv av (qv 0) ah))
   (aj (be (fx (dA (cF (cf (bI (nV T) hr T.m_Q23 T.F_Q23.kp T.b_Q23 (ad (qv 1) ag af)))) (dA (cF (cf (bI (nV T) hr T.m_Q23 T.F_Q23.kp T.b_Q23 (ad (qv 2) ag af)))) (fH (aE eQ (qv 2) ah (aK _)))))) (am (aD di)) aO)
   (am (aD (dC cS (bI (oW T) hr T.m_Q0 T.F_Q0.kp T.b_Q0 (ad (qv 1) (ad (qv 2) ag af) af)) ah (aK _)))))))) ?_
 extract_lets +lift
 try dsimp -zeta -zetaDelta only [Cx.nox,Cx.wish,bx]
 refine⟨_,rfl,v,d,2,rfl,hD,⟨_,rfl,?_⟩⟩
 cases c2:fS 2 d with
 | false=>
  refine bM ?_
  rw [vQ c2] at k
  exact k
 | true=>
  refine cC ?_
  obtain⟨p,x,y,dx,dy,rfl,rfl,hS,hx,hy⟩:=hD.two c2
  refine⟨_,rfl,p,_,_,_,rfl,rfl,hS,rfl,_,rfl,p,_,_,_,rfl,rfl,hS,rfl,?_⟩
  refine⟨_,rfl,x,dx,rfl,hx,_,rfl,?_⟩
  cases cx:cV dx with
  | false=>
   refine bM (bM ?_)
   rw [yh cx] at k
   exact k
  | true=>
   refine cC ?_
   refine⟨_,rfl,y,dy,rfl,hy,_,rfl,?_⟩
   cases cy:cV dy with
   | false=>
    refine bM (bM ?_)
    rw [yg cy] at k
    exact k
   | true=>
    refine cC ?_
    obtain⟨i,rfl⟩:=cJ cx
    obtain⟨j,rfl⟩:=cJ cy
    cases hx
    cases hy
    have kk:Q (.bl (decide (1≤j) && decide (Int.gcd i j=1))) H:=k
    refine⟨_,rfl,_,_,rfl,rfl,_,rfl,?_⟩
    by_cases c:j < 1
    ·refine cr c ?_
     rw [decide_eq_false (show ¬ 1≤j by omega)] at kk
     exact kk
    ·refine cu c ?_
     refine⟨_,rfl,_,rfl,i,j,rfl,rfl,?_⟩
     rw [decide_eq_true (show 1≤j by omega),Bool.true_and] at kk
     have q:decide ((V.int (Int.gcd i j:Nat):V)=.int 1)=decide (Int.gcd i j=1):=decide_eq_decide.mpr ⟨fun z=>by injection z with z;omega,fun z=>by rw [z];rfl⟩
     rw [q]
     exact kk
theorem CG (T:dM K mg t):bh P w K mg base cZ 3 t.a_Q1 t.d_Q1 ["thing"] (fE K):=by
 refine T.F_Q1.ok BV (fun vs H Q E h=>?_) (fun cdv A outer s H vs Q E hr h=>?_)
 ·obtain⟨_,_,rfl,_⟩:=h;rfl
 obtain⟨v,d,rfl,hD,k⟩:=h
 refine cM.ok (am (aD (dj (bI (Ay T) hr T.m_Q24 T.F_Q24.kp T.b_Q24 (ad (qv 0) ag af)) (eh (dC gX (bv av (qv 0) ah) ah (aK _)))))) ?_
 extract_lets +lift
 try dsimp -zeta -zetaDelta only [Cx.nox,Cx.wish,bx]
 refine⟨_,rfl,v,d,rfl,hD,?_⟩
 cases c:eG d with
 | false=>
  rw [j8 c] at k
  exact⟨_,rfl,k⟩
 | true=>
  obtain⟨i,j,rfl⟩:=tz c
  obtain⟨p,x,y,dx,dy,rfl,e,hS,hx,hy⟩:=hD.two rfl
  cases e
  cases hx
  rw [ow c] at k
  exact⟨_,rfl,_,rfl,p,_,_,_,rfl,rfl,hS,rfl,_,_,rfl,rfl,k⟩
theorem Ar (T:dM K mg t):bh P w K mg base cZ 2 t.a_Q41 t.d_Q41 ["top", "bottom"] (lO K):=by
 refine T.F_Q41.ok nI (fun vs H Q E h=>?_) (fun cdv A outer s H vs Q E hr h=>?_)
 ·obtain⟨_,_,rfl,_⟩:=h;rfl
 obtain⟨a,b,rfl,hb,hz,k⟩:=h
 refine cM.ok (aj (be (aE cS (qv 1) ah (aK _)) (am iM) aO)
   (aj (cn 2 nI.nd (bI (oW T) hr T.m_Q0 T.F_Q0.kp T.b_Q0 (ad (qv 0) (ad (qv 1) ag af) af)))
   (aj (be (aE eQ (qv 1) ah (aK _)) (am (cn 2 nI.nd (gR d6 (qv 2)))) aO)
   (am (aD (aP (ad (aB ip (qv 0) (qv 2)) (ad (aB ip (qv 1) (qv 2)) ag aJ) aJ))))))) ?_
 extract_lets +lift
 try dsimp -zeta -zetaDelta only [Cx.nox,Cx.wish,bx]
 have gp:=i3 (a:=a) hb
 have gb:=kZ (a:=a) hb hz
 refine⟨_,rfl,rfl,_,rfl,?_⟩
 refine cu (fun z=>by injection z with z;omega) ?_
 refine⟨_,rfl,_,rfl,a,b,rfl,?_⟩
 refine⟨_,rfl,_,_,rfl,rfl,_,rfl,?_⟩
 by_cases hn:b < 0
 ·refine cr hn ?_
  rw [← mn hn] at k
  have gm:(-((Int.gcd a b:Nat):Int)).natAbs < 2 ^ 4000:=by rw [Int.natAbs_neg];exact gb
  refine⟨_,rfl,_,rfl,?_⟩
  refine⟨_,rfl,_,rfl,_,_,rfl,rfl,⟨by omega,gm⟩,_,rfl,_,rfl,_,_,rfl,rfl,⟨by omega,gm⟩,dJ,fun p hp=>?_⟩
  exact k p hp
 ·refine cu hn ?_
  rw [← mm (by omega:0 < b)] at k
  refine⟨_,rfl,_,rfl,_,_,rfl,rfl,⟨by omega,gb⟩,_,rfl,_,rfl,_,_,rfl,rfl,⟨by omega,gb⟩,dJ,fun p hp=>?_⟩
  exact k p hp
theorem Ap (T:dM K mg t):bh P w K mg base cZ 2 t.a_Q43 t.d_Q43 ["one", "other"] (oK K):=by
 refine T.F_Q43.ok kx (fun vs H Q E h=>?_) (fun cdv A outer s H vs Q E hr h=>?_)
 ·obtain⟨_,_,_,_,_,_,rfl,_⟩:=h;rfl
 obtain⟨v,w,r,q,n,m,rfl,hv,hw,wr,wq,hz,k⟩:=h
 refine cM.ok (aj (cn 2 kx.nd (bI (oW T) hr T.m_Q0 T.F_Q0.kp T.b_Q0 (ad (bv av (qv 0) ah) (ad (bv av (qv 1) ah) ag aG) aG)))
   (aj (cn 3 kx.nd (aB bg (aB dD (bv av (qv 0) ah) (aB iP (bv av (qv 1) ah) (qv 2))) (aB dD (bv av (qv 1) ah) (aB iP (bv av (qv 0) ah) (qv 2)))))
   (aj (cn 4 kx.nd (bI (oW T) hr T.m_Q0 T.F_Q0.kp T.b_Q0 (ad (qv 3) (ad (qv 2) ag af) af)))
   (am (aD (aP (ad (aB iP (qv 3) (qv 4)) (ad (aB dD (aB iP (bv av (qv 0) ah) (qv 2)) (aB iP (bv av (qv 1) ah) (qv 4))) ag aJ) aJ))))))) ?_
 extract_lets +lift
 try dsimp -zeta -zetaDelta only [Cx.nox,Cx.wish,bx]
 obtain⟨p,rfl,hv⟩:=hv
 obtain⟨p',rfl,hw⟩:=hw
 have c1:=cj wr.top (show n≤4000 by omega)
 have c2:=cj wr.bot (show n≤4000 by omega)
 have c3:=cj wq.top (show m≤4000 by omega)
 have c4:=cj wq.bot (show m≤4000 by omega)
 have gp:(0:Int) < (Int.gcd r.2 q.2:Nat):=bL wq.pos
 have gb:=uQ (a:=r.2) wq.pos c4
 refine⟨_,rfl,p,_,_,_,rfl,rfl,hv,rfl,_,rfl,p',_,_,_,rfl,rfl,hw,rfl,r.2,q.2,rfl,?_⟩
 have z:=tU ⟨wr.pos,wr.cop⟩ ⟨wq.pos,wq.cop⟩
 have kk:qr H Q (me r q):=by rw [z];exact k
 unfold me at kk
 simp only at kk
 generalize ((Int.gcd r.2 q.2:Nat):Int)=d at gp gb kk ⊢
 refine⟨_,rfl,p,_,_,_,rfl,rfl,hv,rfl,_,rfl,p',_,_,_,rfl,rfl,hw,rfl,_,rfl,_,_,rfl,rfl,⟨gp,gb⟩,_,_,rfl,rfl,⟨c1,k9 gp c4⟩,_,rfl,p',_,_,_,rfl,rfl,hw,rfl,_,rfl,p,_,_,_,rfl,rfl,hv,rfl,_,rfl,_,_,rfl,rfl,⟨gp,gb⟩,_,_,rfl,rfl,⟨c3,k9 gp c2⟩,_,_,rfl,rfl,?_⟩
 refine⟨_,rfl,_,rfl,_,_,rfl,?_⟩
 have ep:(0:Int) < (Int.gcd (r.1 * (q.2 / d)+q.1 * (r.2 / d)) d:Nat):=bL gp
 have eb:=uQ (a:=r.1 * (q.2 / d)+q.1 * (r.2 / d)) gp gb
 generalize ((Int.gcd (r.1 * (q.2 / d)+q.1 * (r.2 / d)) d:Nat):Int)=e at ep eb kk ⊢
 refine⟨_,rfl,_,rfl,_,_,rfl,rfl,⟨ep,eb⟩,_,rfl,p,_,_,_,rfl,rfl,hv,rfl,_,rfl,_,_,rfl,rfl,⟨gp,gb⟩,_,rfl,p',_,_,_,rfl,rfl,hw,rfl,_,rfl,_,_,rfl,rfl,⟨ep,eb⟩,_,_,rfl,rfl,⟨k9 gp c2,k9 ep c4⟩,dJ,kk⟩
theorem Aq (T:dM K mg t):bh P w K mg base cZ 3 t.a_Q42 t.d_Q42 ["some"] (sg K):=by
 refine T.F_Q42.ok fG (fun vs H Q E h=>?_) (fun cdv A outer s H vs Q E hr h=>?_)
 ·obtain⟨_,_,_,_,_,rfl,_⟩:=h;rfl
 obtain⟨a,xs,rs,n,D₀,rfl,hS,hR,hWD,h0,hDn₀,hlen,hn,k⟩:=h
 refine cM.ok (aj (cn 1 fG.nd tK)
   (aj (bX PassesOwn.never rfl (zF (qv 0)) (ay (i:=2) fG.nd rfl (by first | exact Or.inl rfl | exact Or.inr rfl))
   (am (vU (mH hr) (qv 1) (bv av (qv 2) ah) (aB bg (l4 (mH hr) (qv 1) (bv av (qv 2) ah) ah ⟨rfl,rfl,rfl,rfl⟩) (bv av (qv 2) ah)) rfl)))
   (aj (cn 3 fG.nd (fb (v:=.ref t.c_NOUGHT) rfl T.m_NOUGHT rfl))
   (aj (bX PassesOwn.never rfl (tH (qv 1)) (ef rfl (aR (ay (i:=4) fG.nd rfl (by first | exact Or.inl rfl | exact Or.inr rfl)) (aR (ay (i:=5) fG.nd rfl (by first | exact Or.inl rfl | exact Or.inr rfl)) bZ)))
   (am (cn 3 fG.nd (bI (Ap T) hr T.m_Q43 T.F_Q43.kp T.b_Q43 (ad (qv 3) (ad (bI (Ar T) hr T.m_Q41 T.F_Q41.kp T.b_Q41 (ad (qv 5) (ad (qv 4) ag af) af)) ag ax) af)))))
   (am (aD (qv 3))))))) ?_
 extract_lets +lift
 try dsimp -zeta -zetaDelta only [Cx.nox,Cx.wish,bx]
 refine fun D hDn=>⟨_,rfl,?_⟩
 have sD:=ak hDn (.dK [])
 rcases hS with hS | hS
 refine .inl ⟨a,rfl,⟨_,sD.seq hS⟩,i5 (K:=K) (a:=a) (xs:=xs) (fun i σ H'=>∃ (x:Option V) (ps:List (Int×Int)),σ=[some (.ref a),some (.ref D),x,none,none,none]/\aA H H'/\H' D=some (.dK (oo ps))/\ie n i ps/\(∀ p∈ps,p.1∣(D₀:Int))/\fT ps=hU (rs.take i)) ⟨none,[],rfl,sD,ai,ie.nil n,(fun _ h=>nomatch h),rfl⟩ (fun i σ H1 _ ⟨_,_,_,s1,_⟩=>s1.seq hS) ?_ ?_⟩
 rotate_left 2
 refine .inr ⟨a,rfl,⟨_,aI.same sD _ _ hS⟩,k4 (K:=K) (a:=a) (xs:=xs) (fun i σ H'=>∃ (x:Option V) (ps:List (Int×Int)),σ=[some (.ref a),some (.ref D),x,none,none,none]/\aA H H'/\H' D=some (.dK (oo ps))/\ie n i ps/\(∀ p∈ps,p.1∣(D₀:Int))/\fT ps=hU (rs.take i)) ⟨none,[],rfl,sD,ai,ie.nil n,(fun _ h=>nomatch h),rfl⟩ (fun i σ H1 _ ⟨_,_,_,s1,_⟩=>aI.same s1 _ _ hS) ?_ ?_⟩
 all_goals first
  | (
   rintro i y σ H1 hi ⟨x,ps,rfl,s1,hD1,ok,dv,ev⟩
   obtain⟨ry,hry,hyv⟩:=hR.at hi
   have my:ry∈rs:=List.mem_of_getElem? hry
   have hil:=(List.getElem?_eq_some_iff.mp hry).1
   obtain⟨py,rfl,hSy⟩:=hyv.mono (aI.same s1)
   have el:(oo ps).length=ps.length:=List.length_map _
   have hlp:(oo ps).length < sizeLine:=by rw [el];exact bA (by have:=ok.len;omega)
   refine⟨_,rfl,D,rfl,.inl ⟨_,.inl hD1⟩,_,rfl,py,_,_,_,rfl,rfl,hSy,rfl,_,jq.k (k:=Sum.inl ry.2) hD1,_,rfl,py,_,_,_,rfl,rfl,hSy,rfl,pT ps ry.2,ry.1,ph ps ry.2,rfl,_,rfl,_,rfl,py,_,_,_,rfl,rfl,hSy,rfl,D,_,rfl,rq.k (k:=Sum.inl ry.2) hD1 hlp,?_⟩
   refine⟨_,dZ ps ry.2 ry.1,rfl,fun b o q=>?_,?_,ok.add (hWD ry my).1,xG (i:=0) (n:=0) dv (hWD ry my).2,?_⟩
   ·rw [aw (aM q hDn)]
    exact s1 b o q
   ·rw [oO ps _ _ ok.nd]
    exact ai
   ·rw [lL,ev,List.take_add_one,hry]
    exact (jz _ _).symm)
  | (
   rintro σ H1 ⟨x,ps,rfl,s1,hD1,ok,dv,ev⟩
   rw [hR.1,List.take_length] at ev
   rw [hR.1] at ok
   refine⟨_,rfl,D,oo ps,rfl,hD1,fun ob=>qM (d:=D) (ob:=ob) (kvs:=oo ps) (fun j σ H'=>∃ (u:V) (acc:R) (y4 y5:Option V),σ=[some (.ref a),some (.ref D),x,some u,y4,y5]/\aA H H'/\H' D=some (.frz ob (.dK (oo ps)))/\RV K H' u acc/\Bq D₀ (64 * 2 ^ n * j) acc/\val acc=fT (ps.take j)) ⟨_,(0,1),none,none,rfl,?_,ai,⟨_,rfl,T.q_NOUGHT _⟩,⟨by decide,by decide,⟨(D₀:Int),by show (D₀:Int)=1 * D₀;omega⟩,by show 0≤_;exact Nat.zero_le _⟩,iA⟩ (fun i σ H1 ⟨_,_,_,_,_,_,z,_⟩=>z) ?_ ?_⟩
   ·intro b o q
    rw [aw (aM q hDn)]
    exact s1 b o q
   ·rintro j kk v p σ H2 hkv ⟨u,acc,y4,y5,rfl,s2,hD2,r2,w2,ev2⟩ hp
    have hkv':(ps.map fun p=>((Sum.inl p.1:bS),V.int p.2))[j]?=some (kk,v):=hkv
    rw [List.getElem?_map] at hkv'
    obtain⟨q,hq,e⟩:=Option.map_eq_some_iff.mp hkv'
    cases e
    have mq:=List.mem_of_getElem? hq
    have hjl:=(List.getElem?_eq_some_iff.mp hq).1
    have wq:=ok.wf (by omega) mq
    have lps:=ok.len
    have gq:=AQ ok dv hlen mq
    have wa:=A3 w2 (by omega) h0 hDn₀
    have bq:=ok.bot q mq
    have e1:=ak hp (.tup [kV (Sum.inl q.1),V.int q.2])
    refine⟨p,_,rfl,aV.of ai,rfl,_,_,rfl,_,_,rfl,rfl,?_⟩
    refine⟨_,rfl,_,rfl,_,rfl,q.2,q.1,rfl,(by have:=bq.1;omega),cj bq.2 (by omega),fun p1 g1=>?_⟩
    rw [ei bq.1]
    have e2:=ak g1 (.tup [.int (eJ q.2 q.1).1,.int (eJ q.2 q.1).2])
    refine⟨u,.ref p1,acc,eJ q.2 q.1,2 * n+12,n+8,rfl,(r2.mono (aI.same e1)).mono (aI.same e2),RV.of ai,wa,wq,by omega,fun p2 g2=>?_⟩
    have e3:=ak g2 (.tup [.int (ci acc (eJ q.2 q.1)).1,.int (ci acc (eJ q.2 q.1)).2])
    have s3:=((e1.trans e2).trans e3)
    refine⟨_,ci acc (eJ q.2 q.1),_,_,rfl,s2.trans s3,s3 _ _ hD2,RV.of ai,(by rw [Nat.mul_succ];exact Bq.plus h0 w2 gq),?_⟩
    rw [lF w2.pos wq.pos,rL bq.1,ev2,List.take_add_one,hq]
    exact (jG _ _).symm
   ·rintro σ H2 ⟨u,acc,y4,y5,rfl,s2,hD2,r2,w2,ev2⟩
    have el:(oo ps).length=ps.length:=List.length_map _
    rw [el,List.take_length] at ev2
    have es:=yR (fun r hr=>(hWD r hr).1.red) w2.red (ev2.trans ev)
    rw [es] at r2
    exact⟨_,rfl,k u H2 s2 r2⟩)
theorem AB (T:dM K mg t):bh P w K mg base cZ 1 t.a_Q14 t.d_Q14 ["work", "turn"] (kr K):=by
 refine T.F_Q14.ok zd (fun vs H Q E h=>?_) (fun cdv A outer s H vs Q E hr h=>?_)
 ·obtain⟨_,_,_,rfl,_⟩:=h;rfl
 obtain⟨v,w,t₀,rfl,⟨p,x,rfl,hS,rx⟩,k⟩:=h
 refine cM.ok (am (aD (l7 oV oV (bv av (qv 0) ah) (qv 1) (bv av (qv 0) ah)))) ?_
 extract_lets +lift
 try dsimp -zeta -zetaDelta only [Cx.nox,Cx.wish,bx]
 refine⟨_,rfl,p,_,_,_,rfl,rfl,hS,rfl,_,rfl,_,_,rfl,rfl,_,rfl,?_⟩
 by_cases c:w.1≤t₀
 ·refine cr (by omega) ?_
  have e:AN w t₀=decide ((t₀:Int)≤(w.2.1:Int)):=by
   unfold AN
   rw [decide_eq_true c,Bool.true_and]
   exact decide_eq_decide.mpr (by omega)
  rw [e] at k
  exact⟨_,rfl,p,_,_,_,rfl,rfl,hS,rfl,_,_,rfl,rfl,k⟩
 ·refine cu (by omega) ?_
  have e:AN w t₀=false:=by
   unfold AN
   rw [decide_eq_false c,Bool.false_and]
  rw [e] at k
  exact k
theorem Ax (T:dM K mg t):bh P w K mg base cZ 4 t.a_Q25 t.d_Q25 ["thing", "count"] (gP K):=by
 refine T.F_Q25.ok y9 (fun vs H Q E h=>?_) (fun cdv A outer s H vs Q E hr h=>?_)
 ·obtain⟨_,_,_,rfl,_⟩:=h;rfl
 obtain⟨v,d,m,rfl,hD,k⟩:=h
 refine cM.ok (am (aD (dj (bI (uv T) hr T.m_Q9 T.F_Q9.kp T.b_Q9 (ad (qv 0) (ad ah ag aq) af)) (dj (bI (CB T) hr T.m_Q5 T.F_Q5.kp T.b_Q5 (ad (bv av (qv 0) ah) (ad (qv 1) ag af) aG)) (eh (bI (CG T) hr T.m_Q1 T.F_Q1.kp T.b_Q1 (ad (bv av (qv 0) ah) ag aG))))))) ?_
 extract_lets +lift
 try dsimp -zeta -zetaDelta only [Cx.nox,Cx.wish,bx]
 refine⟨_,rfl,v,d,2,rfl,hD,?_⟩
 cases c:fS 2 d with
 | false=>
  rw [show br m d=false by cases d with
   | tuple ds=>match ds,c with
    | [],_=>rfl
    | [_],_=>rfl
    | [_,_],c=>cases c
    | _ :: _ :: _ :: _,_=>rfl
   | _=>rfl] at k
  exact⟨_,rfl,k⟩
 | true=>
  obtain⟨p,x,y,dx,dy,rfl,rfl,hS,hx,hy⟩:=hD.two c
  have km:Q (.bl (ib m dx && bY dy)) H:=k
  refine⟨_,rfl,?_⟩
  refine⟨_,rfl,p,_,_,_,rfl,rfl,hS,rfl,_,rfl,x,dx,m,rfl,hx,?_⟩
  cases c1:ib m dx with
  | false=>
   rw [c1] at km
   exact⟨_,rfl,km⟩
  | true=>
   rw [c1] at km
   refine⟨_,rfl,?_⟩
   exact⟨_,rfl,p,_,_,_,rfl,rfl,hS,rfl,y,dy,rfl,hy,km⟩
theorem AD (T:dM K mg t):bh P w K mg base cZ 5 t.a_Q12 t.d_Q12 ["thing", "count"] (ju K):=by
 refine T.F_Q12.ok ze (fun vs H Q E h=>?_) (fun cdv A outer s H vs Q E hr h=>?_)
 ·obtain⟨_,_,_,rfl,_⟩:=h;rfl
 obtain⟨v,d,m,rfl,hD,hl,k⟩:=h
 refine cM.ok (am (aD (dj (ar bW (by rfl) T.z_isinstance boot_isinstance (ad (qv 0) (ad (ck (v:=V.ty "tuple") rfl T.z_tuple boot_tuple rfl) ag af) af)) (eh (ar (gH rfl) (by rfl) T.z_all boot_all (ad (bC (N':=["piece", "count"]) (src:=[none,some 1]) rfl (by exact (dH (qv 0))) (fun _ _ _ _ _=>(by exact (by exact ay (i:=0) (by show List.Nodup (["piece", "count"]:List Str);decide +kernel) (by exact rfl) (by first | exact Or.inl rfl | exact Or.inr rfl)))) (fun _ _ _ _ _=>bQ) (fun _ _ _ _ _=>(by exact (by exact (c6 (Ax T) (by exact hr.mono (by decide)) (by exact rfl) T.m_Q25 T.F_Q25.kp T.b_Q25 (by exact .nil) (by exact gT) (ad (by exact (qv 0)) (ad (by exact (qv 1)) ag af) af))))) (by exact⟨rfl,rfl,rfl,rfl,trivial⟩) rfl (by decide +kernel) rfl (by decide +kernel) (by exact aY rfl ⟨rfl,trivial⟩)) ag cN)))))) ?_
 extract_lets +lift
 try dsimp -zeta -zetaDelta only [Cx.nox,Cx.wish,bx]
 rcases fk hD with ⟨e,p,xs,ds,rfl,rfl,hS,hA⟩ | ⟨e,no⟩
 rotate_left
 ·refine⟨_,rfl,_,_,_,_,rfl,hD,e,_,rfl,?_⟩
  have:=k _ (aA.refl _)
  rw [show cY m d=false by cases d with | tuple ds=>exact absurd rfl (no _) | _=>rfl] at this
  exact this
 refine⟨_,rfl,_,_,_,_,rfl,hD,e,_,rfl,?_⟩
 have len:=hA.len
 have hl':ds.length≤15:=hl
 have km:cY m (.tuple ds)=ds.all (br m):=rfl
 rw [km] at k
 refine⟨_,rfl,p,rfl,⟨_,hS⟩,fun D hDn=>eB (ka hS) (fun _=>true) (fun i=>V.bl (br m (ds.getD i .none))) hDn (by omega) (fun i x H' hi s' hx R E kR kE=>?_) fun H1 s1 h1=>?_⟩
 ·have hil:i < ds.length:=by omega
  obtain⟨v,hv,dv⟩:=aH.atN hA (List.getElem?_eq_getElem hil)
  rw [hx] at hv
  cases hv
  rw [cm PyData.none (List.getElem?_eq_getElem hil)] at kR
  exact⟨dz.set rfl,_,rfl,_,rfl,x,_,m,rfl,dv.same s',kR rfl _ (aA.refl _)⟩
 have e1:(((List.range xs.length).filter fun _=>true).map fun i=>V.bl (br m (ds.getD i .none)))=((List.range xs.length).map fun i=>br m (ds.getD i .none)).map V.bl:=by rw [List.filter_eq_self.mpr (fun _ _=>rfl),List.map_map];rfl
 rw [e1] at h1
 have al:((List.range xs.length).map fun i=>br m (ds.getD i .none)).all id=ds.all (br m):=by rw [len,vd]
 refine⟨D,_,rfl,aQ.of h1,?_⟩
 rw [al]
 exact k _ s1
theorem CD (T:dM K mg t):bh P w K mg base cZ 6 t.a_Q3 t.d_Q3 ["thing", "count"] (fW K):=by
 refine T.F_Q3.ok BU (fun vs H Q E h=>?_) (fun cdv A outer s H vs Q E hr h=>?_)
 ·obtain⟨_,_,_,rfl,_⟩:=h;rfl
 obtain⟨v,d,m,rfl,hD,wd,k⟩:=h
 refine cM.ok (am (aD (dj (bI (uv T) hr T.m_Q9 T.F_Q9.kp T.b_Q9 (ad (qv 0) (ad (fb (v:=.int (24)) rfl T.m_TURNS ⟨_,rfl⟩) ag af) af)) (eh (ar (gH rfl) (by rfl) T.z_all boot_all (ad (bC (N':=["pieces", "count"]) (src:=[none,some 1]) rfl (by exact (dH (qv 0))) (fun _ _ _ _ _=>(by exact (by exact ay (i:=0) (by show List.Nodup (["pieces", "count"]:List Str);decide +kernel) (by exact rfl) (by first | exact Or.inl rfl | exact Or.inr rfl)))) (fun _ _ _ _ _=>bQ) (fun _ _ _ _ _=>(by exact (by exact (c6 (AD T) (by exact hr.mono (by decide)) (by exact rfl) T.m_Q12 T.F_Q12.kp T.b_Q12 (by exact .nil) (by exact gT) (ad (by exact (qv 0)) (ad (by exact (qv 1)) ag af) af))))) (by exact⟨rfl,rfl,rfl,rfl,trivial⟩) rfl (by decide +kernel) rfl (by decide +kernel) (by exact aY rfl ⟨rfl,trivial⟩)) ag cN)))))) ?_
 extract_lets +lift
 try dsimp -zeta -zetaDelta only [Cx.nox,Cx.wish,bx]
 refine⟨_,rfl,v,d,24,rfl,hD,?_⟩
 unfold cG at k
 cases c:fS 24 d with
 | false=>
  rw [c] at k
  exact⟨_,rfl,k _ (aA.refl _)⟩
 | true=>
 rw [c] at k
 have wW:∃ ds,d=.tuple ds:=by cases d with | tuple ds=>exact⟨ds,rfl⟩ | _=>cases c
 obtain⟨ds,rfl⟩:=wW
 cases hD with
 | @tup p xs _ hS hA=>
 have len:=hA.len
 have l26:ds.length≤26:=wd.1
 have l24:ds.length=24:=of_decide_eq_true c
 refine⟨_,rfl,_,rfl,p,rfl,⟨_,hS⟩,fun D hDn=>de (K:=K) (a:=p) (xs:=xs) (ds:=ds) (P:=fun _ v b=>v=V.bl b) (f:=fun t=>cY m t) (fun _ _ _ _ _ z=>z) hDn hS len (by omega) (fun i x d' H' hx hd s' R E kR=>?_) fun H1 ys s1 h1 al1=>?_⟩
 ·obtain⟨v,hv,dv⟩:=aH.atN hA hd
  rw [hx] at hv
  cases hv
  exact⟨dz.set rfl,_,rfl,_,rfl,x,d',m,rfl,dv.same s',wd.2 d' (List.mem_of_getElem? hd),fun H'' s''=>kR _ _ s'' rfl⟩
 have ey:∀ (us:List V) (bs:List Bool),cv (fun v b=>v=V.bl b) us bs->us=bs.map V.bl:=fun us bs h=>by
  induction h with
  | nil=>rfl
  | cons e _ ih=>rw [List.map_cons,e,ih]
 rw [ey _ _ al1] at h1
 refine⟨D,_,rfl,aQ.of h1,?_⟩
 have ae:(ds.map fun t=>cY m t).all id=ds.all (cY m):=by rw [List.all_map];rfl
 rw [ae]
 exact k _ s1
theorem CA (T:dM K mg t):bh P w K mg base cZ 2 t.a_Q6 t.d_Q6 ["works", "turn", "pieces"] (hZ K):=by
 refine T.F_Q6.ok yc (fun vs H Q E h=>?_) (fun cdv A outer s H vs Q E hr h=>?_)
 ·obtain⟨_,_,_,_,_,rfl,_⟩:=h;rfl
 obtain⟨v,x,u,ws,t,rfl,hw,⟨p,xs,rfl,hS,al⟩,l15,nb,k⟩:=h
 refine cM.ok (aj (ee (i:=3) (N':=["piece"]) (src:=[none]) yc.nd rfl (by first | exact Or.inl rfl | exact Or.inr rfl) rfl (by exact (dH (qv 2))) (fun _ _ _ _ _=>(by exact (by exact ay (i:=0) (by show List.Nodup (["piece"]:List Str);decide +kernel) (by exact rfl) (by first | exact Or.inl rfl | exact Or.inr rfl)))) (fun _ _ _ _ _=>bQ) (fun _ _ _ _ _=>(by exact (by exact (bP (bj (K:=K) (by exact rfl)) (by exact (qv 0)) ah (by exact fun _ _=>rfl))))) (by exact trivial) rfl (by decide +kernel) rfl (by decide +kernel) (by exact aY rfl trivial))
   (aj (be (aE eQ (ar qX (by rfl) T.z_len boot_len (ad (bJ (qU rfl) (by rfl) T.z_set rh (ad (qv 3) ag af)) ag ax)) (ar aC (by rfl) T.z_len boot_len (ad (qv 3) ag af)) (aK _)) (am (aD di)) aO)
   (am (aD (ar (gH rfl) (by rfl) T.z_all boot_all (ad (bC (N':=["number", "turn", "works"]) (src:=[none,some 1,some 0]) rfl (by exact (dB (qv 3))) (fun _ _ _ _ _=>(by exact (by exact ay (i:=0) (by show List.Nodup (["number", "turn", "works"]:List Str);decide +kernel) (by exact rfl) (by first | exact Or.inl rfl | exact Or.inr rfl)))) (fun _ _ _ _ _=>bQ) (fun _ _ _ _ _=>(by exact (by exact (c6 (AB T) (by exact hr.mono (by decide)) (by exact rfl) T.m_Q14 T.F_Q14.kp T.b_Q14 (by exact .nil) (by exact gT) (ad (by exact (bP (bj (K:=K) (by exact rfl)) (by exact (qv 2)) (by exact (qv 0)) (by exact fun _ _=>rfl))) (ad (by exact (qv 1)) ag af) aG))))) (by exact⟨rfl,rfl,rfl,rfl,⟨rfl,rfl,rfl,rfl,trivial⟩⟩) rfl (by decide +kernel) rfl (by decide +kernel) (by exact aY rfl ⟨rfl,⟨rfl,trivial⟩⟩)) ag cN)))))) ?_
 extract_lets +lift
 try dsimp -zeta -zetaDelta only [Cx.nox,Cx.wish,bx]
 have len:=al.len
 refine⟨_,rfl,p,rfl,⟨_,hS⟩,fun D hDn=>de (K:=K) (a:=p) (xs:=xs) (ds:=t) (P:=fun _ v k=>v=V.int k) (f:=fun c=>c.1) (fun _ _ _ _ _ z=>z) hDn hS al.len (by omega) (fun i x c H' hx hc s' R E kR=>?_) fun H1 ys s1 h1 al1=>?_⟩
 ·obtain⟨c',hc',pv⟩:=al.at hx
  rw [hc] at hc'
  cases hc'
  obtain⟨pc,y,rfl,hSc,_⟩:=pv.mono (aI.same s')
  exact⟨dz.set rfl,_,rfl,pc,_,_,_,rfl,rfl,hSc,rfl,kR _ _ (aA.refl _) rfl⟩
 have ey:∀ (us:List V) (bs:List Int),cv (fun v b=>v=V.int b) us bs->us=bs.map V.int:=fun us bs h=>by
  induction h with
  | nil=>rfl
  | cons e _ ih=>rw [List.map_cons,e,ih]
 rw [ey _ _ al1] at h1
 have h1':H1 D=some (.lst ((bB t).map V.int)):=h1
 have ln:(bB t).length=t.length:=List.length_map _
 refine⟨_,rfl,D,bB t,rfl,aQ.of h1',by omega,fun q hq=>?_⟩
 have s2:=ak hq (.set (fun k=>(bR (bB t)).any (· == k)) (bR (bB t)).length)
 refine⟨q,_,_,rfl,ai,?_⟩
 refine⟨_,rfl,D,_,rfl,.inl (aQ.of (s2 _ _ h1')),_,_,rfl,rfl,_,rfl,?_⟩
 rw [List.length_map]
 have s12:=s1.trans s2
 by_cases c:(bB t).Nodup
 rotate_left
 ·refine cr (by have:=(iR (bB t)).mpr c;omega) ?_
  have:=k _ s12
  unfold uB at this
  rw [decide_eq_false c,Bool.false_and] at this
  exact this
 refine cu (by intro z;exact (iR (bB t)).mp (by omega) c) ?_
 have hlD:=s2 _ _ h1'
 generalize upd H1 q (.set (fun k=>(bR (bB t)).any (· == k)) (bR (bB t)).length)=H2 at s12 hlD ⊢
 obtain⟨pw,xw,rfl,hSw,alw⟩:=hw.mono (aI.same s12)
 have lw:=alw.len
 refine⟨_,rfl,D,rfl,⟨_,aQ.of hlD⟩,fun D2 hD2=>eB (oC (aQ.of hlD)) (fun _=>true) (fun i=>V.bl (vo ws u ((bB t).getD i 0))) hD2 (by rw [List.length_map];omega) (fun i x H' hi s' hx R E kR kE=>?_) fun H3 s3 h3=>?_⟩
 ·rw [List.length_map] at hi
  obtain⟨kk,hk⟩:∃ kk,(bB t)[i]?=some kk:=⟨_,List.getElem?_eq_getElem hi⟩
  rw [List.getElem?_map,hk] at hx
  cases hx
  rw [cm (0:Int) hk] at kR
  obtain⟨c',mc,ec⟩:=List.mem_map.mp (List.mem_of_getElem? hk)
  obtain⟨b0,b1⟩:=nb c' mc
  rw [ec] at b0 b1
  obtain⟨k',rfl⟩:=Int.eq_ofNat_of_zero_le b0
  obtain⟨w',hw'⟩:∃ w,ws[k']?=some w:=⟨_,List.getElem?_eq_getElem (by omega)⟩
  obtain⟨xv,hxv⟩:∃ x,xw[k']?=some x:=⟨_,List.getElem?_eq_getElem (by omega)⟩
  obtain⟨w2,hw2,wv⟩:=alw.at hxv
  rw [hw'] at hw2
  cases hw2
  have ew:vo ws u ((k':Nat):Int)=AN w' u:=by
   unfold vo j9 AN
   rw [show ((k':Nat):Int).toNat=k' by omega,List.getD_eq_getElem?_getD,hw'];rfl
  rw [ew] at kR
  refine⟨dz.set rfl,_,rfl,_,rfl,pw,_,_,_,rfl,rfl,aI.same (K:=K) s' _ _ hSw,aN hxv,_,rfl,xv,w',u,rfl,wv.mono (aI.same s'),kR rfl _ (aA.refl _)⟩
 have e1:(((List.range ((bB t).map V.int).length).filter fun _=>true).map fun i=>V.bl (vo ws u ((bB t).getD i 0)))=((List.range (bB t).length).map fun i=>vo ws u ((bB t).getD i 0)).map V.bl:=by rw [List.filter_eq_self.mpr (fun _ _=>rfl),List.map_map,List.length_map];rfl
 rw [e1] at h3
 have ae:((List.range (bB t).length).map fun i=>vo ws u ((bB t).getD i 0)).all id=(bB t).all (vo ws u):=by
  have:=congrArg (fun l:List Int=>l.all (vo ws u)) (gw (bB t) 0)
  rw [List.all_map] at this ⊢
  exact this
 refine⟨D2,_,rfl,aQ.of h3,?_⟩
 rw [ae]
 have:=k _ (s12.trans s3)
 unfold uB at this
 rw [decide_eq_true c,Bool.true_and] at this
 exact this
theorem CF (T:dM K mg t):bh P w K mg base cZ 1 t.a_Q2 t.d_Q2 ["plan"] (fD K):=by
 refine T.F_Q2.ok sr (fun vs H Q E h=>?_) (fun cdv A outer s H vs Q E hr h=>?_)
 ·obtain⟨_,_,_,rfl,_⟩:=h;rfl
 obtain⟨v,pl,n,rfl,⟨p,xs,rfl,hS,al⟩,ok,k⟩:=h
 refine cM.ok (aj (cn 1 sr.nd (bH ag))
   (aj (bX PassesOwn.never rfl (dH (qv 0)) (ay (i:=2) sr.nd rfl (by first | exact Or.inl rfl | exact Or.inr rfl))
   (am (fY (l9 PySem.F.plainAttrs_list PySem.F.slot_list_extend PySem.F.type_list_extend wQ (qv 1) (ad (qv 2) ag af)))))
   (am (aD (qv 1))))) ?_
 extract_lets +lift
 try dsimp -zeta -zetaDelta only [Cx.nox,Cx.wish,bx]
 have len:=al.len
 refine⟨rB,fun l hl=>?_⟩
 have nl:∀ b o,H b=some o->b≠l:=fun b o q=>aM q hl
 refine⟨_,rfl,p,rfl,⟨_,aI.same (ak hl _) _ _ hS⟩,k4 (K:=K) (a:=p) (xs:=xs) (fun i σ H'=>∃ (x2:Option V) (ys:List V),σ=[some (.ref p),some (.ref l),x2]/\aA H H'/\H' l=some (.lst ys)/\cv (m6 K H') ys (pl.take i).flatten) ⟨none,[],rfl,ak hl _,ai,.nil⟩ (fun i σ H1 _ ⟨_,_,_,sm,_⟩=>aI.same sm _ _ hS) ?_ ?_⟩
 ·rintro i x σ H1 hx ⟨x2,ys,rfl,sm,hl1,al1⟩
  obtain⟨t,ht,tv⟩:=al.at hx
  obtain⟨pt,zs,rfl,hSt,alt⟩:=tv.mono (aI.same sm)
  have lt:zs.length≤15:=by rw [alt.len];exact ok.wd t (List.mem_of_getElem? ht)
  have ly:ys.length≤360:=by
   rw [al1.len]
   have:=mM ok
   have e:pl.flatten=(pl.take i).flatten++(pl.drop i).flatten:=by rw [← List.flatten_append,List.take_append_drop]
   rw [e,List.length_append] at this
   omega
  refine⟨_,rfl,.inl ⟨rfl,_,aQ.of hl1⟩,_,rfl,l,pt,ys,zs,rfl,rfl,hl1,hSt,by omega,?_⟩
  have tm:=aI.up (K:=K) hl1 (ys++zs)
  refine⟨_,ys++zs,rfl,fun b o q=>?_,ai,?_⟩
  ·rw [aw (nl b o q)]
   exact sm _ _ q
  ·rw [List.take_add_one,ht,show (some t).toList=[t] from rfl,List.flatten_append,List.flatten_cons,List.flatten_nil,List.append_nil]
   exact (al1.mono fun _ _ z=>z.mono tm).join (alt.mono fun _ _ z=>z.mono tm)
 ·rintro σ H1 ⟨x2,ys,rfl,sm,hl1,al1⟩
  rw [len,List.take_length] at al1
  exact⟨_,rfl,k l ys H1 sm hl1 al1⟩
theorem Cz (T:dM K mg t):bh P w K mg base cZ 1 t.a_Q7 t.d_Q7 ["row", "lean"] (hX K):=by
 refine T.F_Q7.ok sk (fun vs H Q E h=>?_) (fun cdv A outer s H vs Q E hr h=>?_)
 ·obtain⟨_,_,_,_,_,rfl,_⟩:=h;rfl
 obtain⟨l,xs,row,v,e,rfl,hl,al,l400,⟨pe,rfl,hSe⟩,n1,n2,k⟩:=h
 refine cM.ok (aj (ee (i:=2) (N':=["place", "piece", "lean"]) (src:=[none,none,some 1]) sk.nd rfl (by first | exact Or.inl rfl | exact Or.inr rfl) rfl (by exact (l3 rfl T.z_enumerate (ad (qv 0) ag af))) (fun _ _ _ _ _=>(by exact (by exact fZ (K:=K) (n:=2) (by exact rfl) (by exact rfl) (by exact aR (by exact ay (i:=0) (by show List.Nodup (["place", "piece", "lean"]:List Str);decide +kernel) (by exact rfl) (by first | exact Or.inl rfl | exact Or.inr rfl)) (by exact aR (by exact ay (i:=1) (by show List.Nodup (["place", "piece", "lean"]:List Str);decide +kernel) (by exact rfl) (by first | exact Or.inl rfl | exact Or.inr rfl)) bZ))))) (fun _ _ _ _ _=>(d9 (aE cS (by exact (bP (bj (K:=K) (by exact rfl)) (by exact (qv 1)) ah (by exact fun _ _=>rfl))) (by exact (bP (bj (K:=K) (by exact rfl)) (by exact (qv 2)) ah (by exact fun _ _=>rfl))) (aK _)))) (fun _ _ _ _ _=>(by exact (by exact (qv 0)))) (by exact⟨rfl,rfl,rfl,rfl,trivial⟩) rfl (by decide +kernel) rfl (by decide +kernel) (by exact aY rfl ⟨rfl,trivial⟩))
   (aj (ee (i:=3) (N':=["place", "piece", "lean"]) (src:=[none,none,some 1]) sk.nd rfl (by first | exact Or.inl rfl | exact Or.inr rfl) rfl (by exact (l3 rfl T.z_enumerate (ad (qv 0) ag af))) (fun _ _ _ _ _=>(by exact (by exact fZ (K:=K) (n:=2) (by exact rfl) (by exact rfl) (by exact aR (by exact ay (i:=0) (by show List.Nodup (["place", "piece", "lean"]:List Str);decide +kernel) (by exact rfl) (by first | exact Or.inl rfl | exact Or.inr rfl)) (by exact aR (by exact ay (i:=1) (by show List.Nodup (["place", "piece", "lean"]:List Str);decide +kernel) (by exact rfl) (by first | exact Or.inl rfl | exact Or.inr rfl)) bZ))))) (fun _ _ _ _ _=>(d9 (aE cS (by exact (bP (bj (K:=K) (by exact rfl)) (by exact (qv 1)) ah (by exact fun _ _=>rfl))) (by exact (bP (bj (K:=K) (by exact rfl)) (by exact (qv 2)) ah (by exact fun _ _=>rfl))) (aK _)))) (fun _ _ _ _ _=>(by exact (by exact (qv 0)))) (by exact⟨rfl,rfl,rfl,rfl,trivial⟩) rfl (by decide +kernel) rfl (by decide +kernel) (by exact aY rfl ⟨rfl,trivial⟩))
   (am (aD (dC eQ (bv aX (qv 2) (gR d6 ah)) (bv aX (qv 3) ah) (aK _)))))) ?_
 extract_lets +lift
 try dsimp -zeta -zetaDelta only [Cx.nox,Cx.wish,bx]
 have len:=al.len
 refine⟨_,rfl,l,rfl,⟨_,aQ.of hl⟩,fun D1 hDD1=>eB (oE (aQ.of hl)) (fun j=>decide ((row.getD j gS).1=((e.1:Nat):Int))) (fun j=>V.int (j:Nat)) hDD1 (by omega) (fun i x H' hi s' hx R E kR kE=>?_) fun H1 s1 h1=>?_⟩
 ·obtain⟨pp,y,rfl,hy,hpp⟩:=hx
  obtain⟨c,hc,pv⟩:=al.at hy
  rw [cm gS hc] at kR kE
  obtain⟨pc,z,rfl,hSc,_⟩:=pv.mono (aI.same s')
  refine⟨pp,_,rfl,aV.of hpp,rfl,_,_,rfl,_,_,rfl,rfl,dz.set' (dz.set rfl) rfl,?_⟩
  refine⟨_,rfl,pc,_,_,_,rfl,rfl,hSc,rfl,_,rfl,pe,_,_,_,rfl,rfl,aI.same (K:=K) s' _ _ hSe,rfl,rfl,_,rfl,?_⟩
  by_cases ce:c.1=((e.1:Nat):Int)
  ·refine cr (by rw [ce]) ⟨_,rfl,kR (decide_eq_true ce) _ (aA.refl _)⟩
  ·exact cu (fun z=>ce (by injection z)) (kE (decide_eq_false ce) _ (aA.refl _))
 rw [len] at h1
 have h1':H1 D1=some (.lst ((b9 row e.1).map fun j=>V.int (j:Nat))):=h1
 have hl1:=s1 _ _ hl
 have al1:=al.mono fun _ _ z=>z.mono (aI.same s1)
 have hSe1:=aI.same (K:=K) s1 _ _ hSe
 refine⟨_,rfl,l,rfl,⟨_,aQ.of hl1⟩,fun D2 hDD2=>eB (oE (aQ.of hl1)) (fun j=>decide ((row.getD j gS).1=((e.2:Nat):Int))) (fun j=>V.int (j:Nat)) hDD2 (by omega) (fun i x H' hi s' hx R E kR kE=>?_) fun H2 s2 h2=>?_⟩
 ·obtain⟨pp,y,rfl,hy,hpp⟩:=hx
  obtain⟨c,hc,pv⟩:=al1.at hy
  rw [cm gS hc] at kR kE
  obtain⟨pc,z,rfl,hSc,_⟩:=pv.mono (aI.same s')
  refine⟨pp,_,rfl,aV.of hpp,rfl,_,_,rfl,_,_,rfl,rfl,dz.set' (dz.set rfl) rfl,?_⟩
  refine⟨_,rfl,pc,_,_,_,rfl,rfl,hSc,rfl,_,rfl,pe,_,_,_,rfl,rfl,aI.same (K:=K) s' _ _ hSe1,rfl,rfl,_,rfl,?_⟩
  by_cases ce:c.1=((e.2:Nat):Int)
  ·refine cr (by rw [ce]) ⟨_,rfl,kR (decide_eq_true ce) _ (aA.refl _)⟩
  ·exact cu (fun z=>ce (by injection z)) (kE (decide_eq_false ce) _ (aA.refl _))
 rw [len] at h2
 have h2':H2 D2=some (.lst ((b9 row e.2).map fun j=>V.int (j:Nat))):=h2
 have h12:=s2 _ _ h1'
 have at1:pJ ((b9 row e.1).map fun j=>V.int (j:Nat)) (-1)=some (.int (oh (b9 row e.1):Nat)):=by
  rw [hJ (by rw [List.length_map];exact n1),List.length_map,List.getElem?_map]
  unfold oh
  rw [List.getD_eq_getElem?_getD,List.getElem?_eq_getElem (show (b9 row e.1).length - 1 < _ by omega)]
  rfl
 have at2:pJ ((b9 row e.2).map fun j=>V.int (j:Nat)) 0=some (.int (on (b9 row e.2):Nat)):=by
  refine aN (j:=0) ?_
  rw [List.getElem?_map]
  unfold on
  rw [List.getD_eq_getElem?_getD,List.getElem?_eq_getElem n2]
  rfl
 refine⟨_,rfl,_,rfl,D1,_,_,_,rfl,rfl,aQ.of h12,at1,_,rfl,D2,_,_,_,rfl,rfl,aQ.of h2',at2,_,_,rfl,rfl,?_⟩
 have kk:=k _ (s1.trans s2)
 unfold f7 at kk
 dsimp only
 rw [show decide ((oh (b9 row e.1):Int) < (on (b9 row e.2):Int))=decide (oh (b9 row e.1) < on (b9 row e.2)) from decide_eq_decide.mpr (by omega)]
 exact kk
theorem Aw (T:dM K mg t):bh P w K mg base cZ 1 t.a_Q26 t.d_Q26 ["_law_script"] (lR K):=by
 refine T.F_Q26.ok yZ (fun vs H Q E h=>?_) (fun cdv A outer s H vs Q E hr h=>?_)
 ·obtain⟨_,_,rfl,_⟩:=h;rfl
 obtain⟨a,ns,rfl,hS,k⟩:=h
 refine cM.ok (am (aD (bH (ad (bU vL (qv 0) cA (cz ah)) (ad ah (ad ah (ad ah ag aq) aq) aq) aG)))) ?_
 extract_lets +lift
 try dsimp -zeta -zetaDelta only [Cx.nox,Cx.wish,bx]
 refine⟨_,rfl,63,rfl,a,_,rfl,hS,fun p hp=>⟨EL,fun t ht=>?_⟩⟩
 have npt:p≠t:=fun z=>by subst z;rw [ai] at ht;cases ht
 have h0:H t=none:=by rw [aw npt.symm] at ht;exact ht
 refine k t p _ ((ak hp _).trans (ak ht _)) h0 hp ⟨ns.take (min 63 ns.length),0,0,0,ai,?_,npt,?_,by decide,by decide,by decide⟩
 ·rw [aw npt,ai,C5]
 ·rw [List.length_take];omega
theorem bb (T:dM K mg t):bh P w K mg base cZ 1 t.a_Q27 t.d_Q27 ["_law_tape_here", "_law_many"] (lV K):=by
 refine T.F_Q27.ok eM (fun vs H Q E h=>?_) (fun cdv A outer s H vs Q E hr h=>?_)
 ·obtain⟨_,_,_,rfl,_⟩:=h;rfl
 obtain⟨t₁,s₁,m,rfl,tp,hm0,hm1,k⟩:=h
 obtain⟨ns,p,q₀,r₀,ht,hs,hne,hlen,hp0,hq0,hr0⟩:=tp.ex
 refine cM.ok (aj (cn 2 eM.nd (bv aX (qv 0) ah))
   (aj (cn 3 eM.nd (bv aX (qv 0) ah))
   (aj (fJ (aB bg (qv 3) ah) (kC (qv 0) ah fX))
   (aj (iL PassesOwn.never (fx (kB (aE cS (bv aX (qv 0) ah) ah (aK _)) (kA (aE eQ (bv aX (qv 0) ah) (ar aC (by rfl) T.z_len boot_len (ad (qv 2) ag af)) (aK _)))))
   (aj (be (aE Cv (ar dY (by rfl) T.z_abs boot_abs (ad (bv aX (qv 2) (bv aX (qv 0) ah)) ag aG)) (aB kJ ah ah) (aK _)) (am (fJ (ar dY (by rfl) T.z_abs boot_abs (ad (bv aX (qv 2) (bv aX (qv 0) ah)) ag aG)) (kC (qv 0) ah fX))) aO)
   (am (fJ (aB bg (bv aX (qv 0) ah) ah) (kC (qv 0) ah fX)))))
   (aj (be (aE gX (bv aX (qv 0) ah) ah (aK _)) (aj (cn 4 eM.nd (bv aX (qv 0) ah))
   (aj (fJ (aB wK (qv 4) (qv 1)) (kC (qv 0) ah fX))
   (am (aD (aB dk (qv 4) (qv 1)))))) aO)
   (aj (cn 5 eM.nd ah)
   (aj (be (aE gX (ar aC (by rfl) T.z_len boot_len (ad (qv 2) ag af)) ah (aK _)) (am (cn 5 eM.nd (bv aX (qv 2) (aB dk (qv 3) (ar aC (by rfl) T.z_len boot_len (ad (qv 2) ag af)))))) aO)
   (aj (cn 6 eM.nd (aB dk (aB eP (aB bg (aB dk (qv 5) ah) ah) (aB bg (aB bg (aB eP (aB dk (qv 3) ah) ah) ah) (qv 3))) ah))
   (aj (cn 6 eM.nd (aB dk (aB bg (aB bg (aB eP (qv 6) (qv 6)) (aB eP ah (qv 6))) (qv 3)) ah))
   (am (aD (aB dk (aB dk (aB eP (qv 6) ah) ah) (qv 1))))))))))))) ?_
 extract_lets +lift
 try dsimp -zeta -zetaDelta only [Cx.nox,Cx.wish,bx]
 have tap:∀ (q r:Int),0≤q->0≤r->bE (upd H t₁ (.lst [.ref s₁,.int (p+1),.int q,.int r])) t₁ s₁:=fun q r hq hr=>⟨ns,p+1,q,r,ai,by rw [aw hne];exact hs,hne,hlen,by omega,hq,hr⟩
 have hs':∀ o,(upd H t₁ o) s₁=some (.lst (ns.map V.int)):=fun o=>by rw [aw hne];exact hs
 have hl:((ns.map V.int).length:Int)=(ns.length:Int):=by rw [List.length_map]
 refine⟨_,rfl,t₁,_,_,_,rfl,rfl,aQ.of ht,rfl,?_⟩
 refine⟨_,rfl,t₁,_,_,_,rfl,rfl,aQ.of ht,rfl,?_⟩
 refine⟨_,rfl,_,_,rfl,rfl,_,rfl,t₁,_,_,_,rfl,rfl,ht,rfl,?_⟩
 refine⟨fun μ σ H'=>∃ q r:Int,σ=[some (.ref t₁),some (.int m),some (.ref s₁),some (.int p),none,none,none]/\H'=upd H t₁ (.lst [.ref s₁,.int (p+1),.int q,.int r])/\0≤q/\0≤r/\μ=ns.length - r.toNat,⟨_,q₀,r₀,rfl,rfl,hq0,hr0,rfl⟩,?_⟩
 rintro μ σ H' ⟨q,r,rfl,rfl,hq,hr',rfl⟩
 refine⟨_,rfl,t₁,_,_,_,rfl,rfl,aQ.of ai,rfl,rfl,_,rfl,?_⟩
 by_cases c:q=0/\r < (ns.length:Int)
 ·obtain⟨c1,c2⟩:=c
  subst c1
  refine cr rfl ?_
  refine⟨_,rfl,t₁,_,_,_,rfl,rfl,aQ.of ai,rfl,_,rfl,s₁,_,rfl,.inl (aQ.of (hs' _)),_,_,rfl,rfl,_,rfl,?_⟩
  refine cr (by rw [hl];exact c2) ?_
  refine⟨_,fun _ _ z=>z,?_⟩
  obtain⟨z,hz⟩:=tY (ns:=ns) hr' c2
  refine⟨_,rfl,_,rfl,t₁,_,_,_,rfl,rfl,aQ.of ai,rfl,s₁,_,_,_,rfl,rfl,aQ.of (hs' _),hz,_,rfl,_,_,rfl,rfl,⟨by decide,by decide,by decide⟩,_,_,rfl,rfl,_,rfl,?_⟩
  refine gA (fun _=>?_) (fun _=>?_)
  ·refine⟨_,rfl,_,rfl,t₁,_,_,_,rfl,rfl,aQ.of ai,rfl,s₁,_,_,_,rfl,rfl,aQ.of (hs' _),hz,_,rfl,_,rfl,t₁,_,_,_,rfl,rfl,ai,rfl,?_⟩
   rw [fR]
   refine⟨_,rfl,t₁,_,_,_,rfl,rfl,aQ.of ai,rfl,_,_,rfl,rfl,_,rfl,t₁,_,_,_,rfl,rfl,ai,rfl,?_⟩
   rw [fR]
   exact⟨_,by omega,_,r+1,rfl,rfl,by split <;> omega,by omega,rfl⟩
  ·refine⟨_,rfl,t₁,_,_,_,rfl,rfl,aQ.of ai,rfl,_,_,rfl,rfl,_,rfl,t₁,_,_,_,rfl,rfl,ai,rfl,?_⟩
   rw [fR]
   exact⟨_,by omega,0,r+1,rfl,rfl,by omega,by omega,rfl⟩
 by_cases c1:q=0
 ·refine cr (by rw [c1]) ?_
  refine⟨_,rfl,t₁,_,_,_,rfl,rfl,aQ.of ai,rfl,_,rfl,s₁,_,rfl,.inl (aQ.of (hs' _)),_,_,rfl,rfl,_,rfl,?_⟩
  refine cu (by rw [hl];exact fun z=>c ⟨c1,z⟩) ?_
  refine⟨_,rfl,t₁,_,_,_,rfl,rfl,aQ.of ai,rfl,_,_,rfl,rfl,_,rfl,?_⟩
  refine gA (fun _=>?_) (fun _=>?_)
  ·refine⟨_,rfl,t₁,_,_,_,rfl,rfl,aQ.of ai,rfl,?_⟩
   refine⟨_,rfl,_,rfl,_,_,rfl,rfl,⟨hm0,hm1⟩,_,rfl,t₁,_,_,_,rfl,rfl,ai,rfl,?_⟩
   refine⟨_,rfl,_,rfl,_,_,rfl,rfl,hm0,?_⟩
   rw [fR]
   exact k _ _ (Int.emod_nonneg _ (by omega)) (Int.emod_lt_of_pos _ hm0) (tap (q / m) r (Int.ediv_nonneg hq (by omega)) hr')
  ·refine⟨_,rfl,s₁,_,rfl,.inl (aQ.of (hs' _)),_,_,rfl,rfl,_,rfl,?_⟩
   refine gA (fun c9=>?_) (fun _=>?_)
   ·have c8:(0:Int) < (ns.length:Int):=by
     have c7:(0:Int) < ((ns.map V.int).length:Int):=of_decide_eq_true c9
     rw [hl] at c7;exact c7
    obtain⟨z,hz⟩:=tY (ns:=ns) (r:=p % (ns.length:Int)) (Int.emod_nonneg _ (by omega)) (Int.emod_lt_of_pos _ c8)
    rw [← hl] at hz c8
    refine⟨_,rfl,_,rfl,_,rfl,s₁,_,rfl,.inl (aQ.of (hs' _)),_,_,rfl,rfl,c8,s₁,_,_,_,rfl,rfl,aQ.of (hs' _),hz,?_⟩
    refine⟨_,rfl,_,_,rfl,rfl,(by show (0:Int) < _;decide),_,_,rfl,rfl,_,rfl,_,_,rfl,rfl,(by show (0:Int) < _;decide),_,_,rfl,rfl,.inl ⟨by omega,by omega⟩,_,_,rfl,rfl,_,rfl,_,_,rfl,rfl,_,_,rfl,rfl,.inl ⟨by omega,by omega⟩,_,_,rfl,rfl,(by show (0:Int) < _;decide),?_⟩
    refine⟨_,rfl,_,rfl,_,_,rfl,rfl,.inl ⟨by omega,by omega⟩,_,rfl,_,_,rfl,rfl,.inl ⟨by omega,by omega⟩,_,_,rfl,rfl,_,rfl,_,_,rfl,rfl,_,_,rfl,rfl,(by show (0:Int) < _;decide),?_⟩
    refine⟨_,rfl,_,_,rfl,rfl,.inl ⟨by omega,by omega⟩,_,_,rfl,rfl,(by show (0:Int) < _;decide),_,rfl,_,_,rfl,rfl,hm0,?_⟩
    exact k _ _ (Int.emod_nonneg _ (by omega)) (Int.emod_lt_of_pos _ hm0) (tap q r hq hr')
   ·refine⟨_,rfl,_,_,rfl,rfl,(by show (0:Int) < _;decide),_,_,rfl,rfl,_,rfl,_,_,rfl,rfl,(by show (0:Int) < _;decide),_,_,rfl,rfl,.inl ⟨by omega,by omega⟩,_,_,rfl,rfl,_,rfl,_,_,rfl,rfl,_,_,rfl,rfl,.inl ⟨by omega,by omega⟩,_,_,rfl,rfl,(by show (0:Int) < _;decide),?_⟩
    refine⟨_,rfl,_,rfl,_,_,rfl,rfl,.inl ⟨by omega,by omega⟩,_,rfl,_,_,rfl,rfl,.inl ⟨by omega,by omega⟩,_,_,rfl,rfl,_,rfl,_,_,rfl,rfl,_,_,rfl,rfl,(by show (0:Int) < _;decide),?_⟩
    refine⟨_,rfl,_,_,rfl,rfl,.inl ⟨by omega,by omega⟩,_,_,rfl,rfl,(by show (0:Int) < _;decide),_,rfl,_,_,rfl,rfl,hm0,?_⟩
    exact k _ _ (Int.emod_nonneg _ (by omega)) (Int.emod_lt_of_pos _ hm0) (tap q r hq hr')
 ·refine cu (fun z=>c1 (by injection z)) (cC ?_)
  refine⟨_,rfl,t₁,_,_,_,rfl,rfl,aQ.of ai,rfl,_,_,rfl,rfl,_,rfl,?_⟩
  refine gA (fun _=>?_) (fun _=>?_)
  ·refine⟨_,rfl,t₁,_,_,_,rfl,rfl,aQ.of ai,rfl,?_⟩
   refine⟨_,rfl,_,rfl,_,_,rfl,rfl,⟨hm0,hm1⟩,_,rfl,t₁,_,_,_,rfl,rfl,ai,rfl,?_⟩
   refine⟨_,rfl,_,rfl,_,_,rfl,rfl,hm0,?_⟩
   rw [fR]
   exact k _ _ (Int.emod_nonneg _ (by omega)) (Int.emod_lt_of_pos _ hm0) (tap (q / m) r (Int.ediv_nonneg hq (by omega)) hr')
  ·refine⟨_,rfl,s₁,_,rfl,.inl (aQ.of (hs' _)),_,_,rfl,rfl,_,rfl,?_⟩
   refine gA (fun c9=>?_) (fun _=>?_)
   ·have c8:(0:Int) < (ns.length:Int):=by
     have c7:(0:Int) < ((ns.map V.int).length:Int):=of_decide_eq_true c9
     rw [hl] at c7;exact c7
    obtain⟨z,hz⟩:=tY (ns:=ns) (r:=p % (ns.length:Int)) (Int.emod_nonneg _ (by omega)) (Int.emod_lt_of_pos _ c8)
    rw [← hl] at hz c8
    refine⟨_,rfl,_,rfl,_,rfl,s₁,_,rfl,.inl (aQ.of (hs' _)),_,_,rfl,rfl,c8,s₁,_,_,_,rfl,rfl,aQ.of (hs' _),hz,?_⟩
    refine⟨_,rfl,_,_,rfl,rfl,(by show (0:Int) < _;decide),_,_,rfl,rfl,_,rfl,_,_,rfl,rfl,(by show (0:Int) < _;decide),_,_,rfl,rfl,.inl ⟨by omega,by omega⟩,_,_,rfl,rfl,_,rfl,_,_,rfl,rfl,_,_,rfl,rfl,.inl ⟨by omega,by omega⟩,_,_,rfl,rfl,(by show (0:Int) < _;decide),?_⟩
    refine⟨_,rfl,_,rfl,_,_,rfl,rfl,.inl ⟨by omega,by omega⟩,_,rfl,_,_,rfl,rfl,.inl ⟨by omega,by omega⟩,_,_,rfl,rfl,_,rfl,_,_,rfl,rfl,_,_,rfl,rfl,(by show (0:Int) < _;decide),?_⟩
    refine⟨_,rfl,_,_,rfl,rfl,.inl ⟨by omega,by omega⟩,_,_,rfl,rfl,(by show (0:Int) < _;decide),_,rfl,_,_,rfl,rfl,hm0,?_⟩
    exact k _ _ (Int.emod_nonneg _ (by omega)) (Int.emod_lt_of_pos _ hm0) (tap q r hq hr')
   ·refine⟨_,rfl,_,_,rfl,rfl,(by show (0:Int) < _;decide),_,_,rfl,rfl,_,rfl,_,_,rfl,rfl,(by show (0:Int) < _;decide),_,_,rfl,rfl,.inl ⟨by omega,by omega⟩,_,_,rfl,rfl,_,rfl,_,_,rfl,rfl,_,_,rfl,rfl,.inl ⟨by omega,by omega⟩,_,_,rfl,rfl,(by show (0:Int) < _;decide),?_⟩
    refine⟨_,rfl,_,rfl,_,_,rfl,rfl,.inl ⟨by omega,by omega⟩,_,rfl,_,_,rfl,rfl,.inl ⟨by omega,by omega⟩,_,_,rfl,rfl,_,rfl,_,_,rfl,rfl,_,_,rfl,rfl,(by show (0:Int) < _;decide),?_⟩
    refine⟨_,rfl,_,_,rfl,rfl,.inl ⟨by omega,by omega⟩,_,_,rfl,rfl,(by show (0:Int) < _;decide),_,rfl,_,_,rfl,rfl,hm0,?_⟩
    exact k _ _ (Int.emod_nonneg _ (by omega)) (Int.emod_lt_of_pos _ hm0) (tap q r hq hr')
theorem uy (T:dM K mg t):bh P w K mg base cZ 1 t.a_Q34 t.d_Q34 ["_law_one", "_law_other"] (nG K):=by
 refine T.F_Q34.ok so (fun vs H Q E h=>?_) (fun cdv A outer s H vs Q E hr h=>?_)
 ·obtain⟨_,_,rfl,_⟩:=h;rfl
 obtain⟨a,b,rfl,ha,hb,k⟩:=h
 refine cM.ok (aj (iL PassesOwn.never (aE gU (qv 1) ah (aK _))
   (am (zy (i:=0) (j:=1) rfl so.nd rfl rfl (by decide) rfl rfl (ad (qv 1) (ad (aB dk (qv 0) (qv 1)) ag aJ) af) rfl)))
   (am (aD (qv 0)))) ?_
 extract_lets +lift
 try dsimp -zeta -zetaDelta only [Cx.nox,Cx.wish,bx]
 refine⟨fun m σ H'=>∃ (x y:Int),σ=[some (.int x),some (.int y)]/\H'=H/\0≤x/\0≤y/\Int.gcd x y=Int.gcd a b/\m=y.toNat,⟨_,_,_,rfl,rfl,ha,hb,rfl,rfl⟩,?_⟩
 rintro m σ H' ⟨x,y,rfl,rfl,hx,hy,hg,rfl⟩
 refine⟨_,rfl,rfl,_,rfl,?_⟩
 by_cases c:y=0
 ·subst c
  refine g0 rfl ?_
  rw [← hg] at k
  refine⟨_,rfl,?_⟩
  have e:(x:Int)=(Int.gcd x 0:Nat):=by simp [Int.gcd];omega
  rw [← e] at k
  exact k
 ·refine jP (fun z=>c (by injection z)) ?_
  refine⟨_,fun _ _ z=>z,?_⟩
  refine⟨_,rfl,_,rfl,_,rfl,_,_,rfl,rfl,(by omega),_,_,rfl,?_⟩
  refine⟨_,?_,y,x % y,rfl,rfl,hy,Int.emod_nonneg _ c,?_,rfl⟩
  ·have:=Int.emod_lt_of_pos x (show 0 < y by omega)
   have:=Int.emod_nonneg x c
   omega
  ·rw [mK hx (by omega),hg]
theorem kL (T:dM K mg t):bh P w K mg base cZ 2 t.a_Q15 t.d_Q15 ["_law_top", "_law_bottom"] (kn K):=by
 refine T.F_Q15.ok nM (fun vs H Q E h=>?_) (fun cdv A outer s H vs Q E hr h=>?_)
 ·obtain⟨_,_,rfl,_⟩:=h;rfl
 obtain⟨a,b,rfl,hb,hz,k⟩:=h
 refine cM.ok (aj (cn 2 nM.nd (bI (uy T) hr T.m_Q34 T.F_Q34.kp T.b_Q34 (ad (ar dY (by rfl) T.z_abs boot_abs (ad (qv 0) ag af)) (ad (ar dY (by rfl) T.z_abs boot_abs (ad (qv 1) ag af)) ag ax) ax)))
   (aj (be (aE eQ (qv 1) ah (aK _)) (am (cn 2 nM.nd (gR d6 (qv 2)))) aO)
   (am (aD (aP (ad (aB ip (qv 0) (qv 2)) (ad (aB ip (qv 1) (qv 2)) ag aJ) aJ)))))) ?_
 extract_lets +lift
 try dsimp -zeta -zetaDelta only [Cx.nox,Cx.wish,bx]
 have gp:=i3 (a:=a) hb
 have gb:=kZ (a:=a) hb hz
 refine⟨_,rfl,_,rfl,_,rfl,_,rfl,_,_,rfl,(by split <;> omega),(by split <;> omega),?_⟩
 rw [lj,lj]
 have eg:Int.gcd (a.natAbs:Int) (b.natAbs:Int)=Int.gcd a b:=by simp [Int.gcd]
 rw [eg]
 refine⟨_,rfl,_,_,rfl,rfl,_,rfl,?_⟩
 by_cases hn:b < 0
 ·refine cr hn ?_
  rw [← mn hn] at k
  have gm:(-((Int.gcd a b:Nat):Int)).natAbs < 2 ^ 4000:=by rw [Int.natAbs_neg];exact gb
  refine⟨_,rfl,_,rfl,?_⟩
  refine⟨_,rfl,_,rfl,_,_,rfl,rfl,⟨by omega,gm⟩,_,rfl,_,rfl,_,_,rfl,rfl,⟨by omega,gm⟩,dJ,fun p hp=>?_⟩
  exact k p hp
 ·refine cu hn ?_
  rw [← mm (by omega:0 < b)] at k
  refine⟨_,rfl,_,rfl,_,_,rfl,rfl,⟨by omega,gb⟩,_,rfl,_,rfl,_,_,rfl,rfl,⟨by omega,gb⟩,dJ,fun p hp=>?_⟩
  exact k p hp
theorem uA (T:dM K mg t):bh P w K mg base cZ 3 t.a_Q28 t.d_Q28 ["_law_one", "_law_other"] (lS K):=by
 refine T.F_Q28.ok yY (fun vs H Q E h=>?_) (fun cdv A outer s H vs Q E hr h=>?_)
 ·obtain⟨_,_,_,_,_,_,rfl,_⟩:=h;rfl
 obtain⟨v,w,r,q,n,m,rfl,hv,hw,wr,wq,hz,k⟩:=h
 refine cM.ok (am (aD (bI (kL T) hr T.m_Q15 T.F_Q15.kp T.b_Q15 (ad (aB bg (aB dD (bv av (qv 0) ah) (bv av (qv 1) ah)) (aB dD (bv av (qv 1) ah) (bv av (qv 0) ah))) (ad (aB dD (bv av (qv 0) ah) (bv av (qv 1) ah)) ag aJ) aJ)))) ?_
 extract_lets +lift
 try dsimp -zeta -zetaDelta only [Cx.nox,Cx.wish,bx]
 obtain⟨p,rfl,hv⟩:=hv
 obtain⟨p',rfl,hw⟩:=hw
 have c1:=cj wr.top (show n≤4000 by omega)
 have c2:=cj wr.bot (show n≤4000 by omega)
 have c3:=cj wq.top (show m≤4000 by omega)
 have c4:=cj wq.bot (show m≤4000 by omega)
 have bp:=Int.mul_pos wr.pos wq.pos
 refine⟨_,rfl,p,_,_,_,rfl,rfl,hv,rfl,_,rfl,p',_,_,_,rfl,rfl,hw,rfl,_,_,rfl,rfl,⟨c1,c4⟩,_,rfl,p',_,_,_,rfl,rfl,hw,rfl,_,rfl,p,_,_,_,rfl,rfl,hv,rfl,_,_,rfl,rfl,⟨c3,c2⟩,_,_,rfl,rfl,_,rfl,p,_,_,_,rfl,rfl,hv,rfl,_,rfl,p',_,_,_,rfl,rfl,hw,rfl,_,_,rfl,rfl,⟨c2,c4⟩,_,_,rfl,Int.ne_of_gt bp,cj (fK wr.bot wq.bot) (by omega),(by rw [ei bp];exact k)⟩
theorem nX (T:dM K mg t):bh P w K mg base cZ 3 t.a_Q16 t.d_Q16 ["_law_one", "_law_other"] (kj K):=by
 refine T.F_Q16.ok zc (fun vs H Q E h=>?_) (fun cdv A outer s H vs Q E hr h=>?_)
 ·obtain⟨_,_,_,_,_,_,rfl,_⟩:=h;rfl
 obtain⟨v,w,r,q,n,m,rfl,hv,hw,wr,wq,hz,k⟩:=h
 refine cM.ok (am (aD (bI (kL T) hr T.m_Q15 T.F_Q15.kp T.b_Q15 (ad (aB dD (bv av (qv 0) ah) (bv av (qv 1) ah)) (ad (aB dD (bv av (qv 0) ah) (bv av (qv 1) ah)) ag aJ) aJ)))) ?_
 extract_lets +lift
 try dsimp -zeta -zetaDelta only [Cx.nox,Cx.wish,bx]
 obtain⟨p,rfl,hv⟩:=hv
 obtain⟨p',rfl,hw⟩:=hw
 have c1:=cj wr.top (show n≤4000 by omega)
 have c2:=cj wr.bot (show n≤4000 by omega)
 have c3:=cj wq.top (show m≤4000 by omega)
 have c4:=cj wq.bot (show m≤4000 by omega)
 have bp:=Int.mul_pos wr.pos wq.pos
 refine⟨_,rfl,p,_,_,_,rfl,rfl,hv,rfl,_,rfl,p',_,_,_,rfl,rfl,hw,rfl,_,_,rfl,rfl,⟨c1,c3⟩,_,rfl,p,_,_,_,rfl,rfl,hv,rfl,_,rfl,p',_,_,_,rfl,rfl,hw,rfl,_,_,rfl,rfl,⟨c2,c4⟩,_,_,rfl,Int.ne_of_gt bp,cj (fK wr.bot wq.bot) (by omega),(by rw [ei bp];exact k)⟩
theorem As (T:dM K mg t):bh P w K mg base cZ 4 t.a_Q35 t.d_Q35 ["_law_some"] (nF K):=by
 refine T.F_Q35.ok ky (fun vs H Q E h=>?_) (fun cdv A outer s H vs Q E hr h=>?_)
 ·obtain⟨_,_,_,_,_,_,rfl,_⟩:=h;rfl
 obtain⟨a,xs,rs,D,N,n,rfl,hS,al,bq,h0,h1,h2,hl,hn,k⟩:=h
 refine cM.ok (aj (cn 1 ky.nd (aP (ad ah (ad ah ag aq) aq)))
   (aj (bX PassesOwn.never rfl (dB (qv 0)) (ay (i:=2) ky.nd rfl (by first | exact Or.inl rfl | exact Or.inr rfl))
   (am (cn 1 ky.nd (bI (uA T) hr T.m_Q28 T.F_Q28.kp T.b_Q28 (ad (qv 1) (ad (qv 2) ag af) af)))))
   (am (aD (qv 1))))) ?_
 extract_lets +lift
 try dsimp -zeta -zetaDelta only [Cx.nox,Cx.wish,bx]
 have hlen:=al.len
 refine⟨dJ,fun p0 hp0=>?_⟩
 have s0:=ak hp0 (.tup [.int 0,.int 1])
 refine⟨_,rfl,a,rfl,⟨_,s0.seq hS⟩,i5 (K:=K) (a:=a) (xs:=xs) (fun i σ H'=>∃ (u:V) (x3:Option V),σ=[some (.ref a),some u,x3]/\aA H H'/\RV K H' u (cW (rs.take i))) ⟨_,none,rfl,s0,RV.of ai⟩ (fun i σ H1 _ ⟨_,_,_,s1,_⟩=>s1.seq hS) ?_ ?_⟩
 ·rintro i y σ H1 hi ⟨u,x3,rfl,s1,ru⟩
  obtain⟨r,hr,rv⟩:=al.at hi
  have wr:=AZ (bq r (List.mem_of_getElem? hr)) h0 h1 h2
  have wu:Wf n (cW (rs.take i)):=vD (fun z hz=>bq z (List.mem_of_mem_take hz)) h0 h1 h2 (by rw [List.length_take];omega)
  have e:cW (rs.take (i+1))=ci (cW (rs.take i)) r:=by
   unfold cW
   rw [List.take_add_one,hr,List.foldl_append]
   rfl
  refine⟨_,rfl,_,rfl,u,y,cW (rs.take i),r,n,n,rfl,ru,rv.mono (aI.same s1),wu,wr,by omega,fun p hp=>?_⟩
  have s2:=ak hp (.tup [.int (ci (cW (rs.take i)) r).1,.int (ci (cW (rs.take i)) r).2])
  refine⟨_,_,rfl,s1.trans s2,?_⟩
  rw [e];exact RV.of ai
 ·rintro σ H1 ⟨u,x3,rfl,s1,ru⟩
  rw [hlen,List.take_length] at ru
  exact⟨_,rfl,k u H1 s1 ru⟩
theorem Av (T:dM K mg t):bh P w K mg base cZ 3 t.a_Q29 t.d_Q29 ["_law_tape_here"] (lU K):=by
 refine T.F_Q29.ok nJ (fun vs H Q E h=>?_) (fun cdv A outer s H vs Q E hr h=>?_)
 ·obtain⟨_,_,rfl,_⟩:=h;rfl
 obtain⟨t₁,s₀,rfl,T0,k⟩:=h
 refine cM.ok (aj (cn 1 nJ.nd (bH (ad ah (ad ah (ad ah (ad ah (ad (aB bg ah (bI (bb T) hr T.m_Q27 T.F_Q27.kp T.b_Q27 (ad (qv 0) (ad ah ag aq) af))) (ad (aB bg ah (bI (bb T) hr T.m_Q27 T.F_Q27.kp T.b_Q27 (ad (qv 0) (ad ah ag aq) af))) (ad (aB bg (aB kJ ah ah) ah) ag aJ) aJ) aJ) aq) aq) aq) aq)))
   (aj (cn 2 nJ.nd (bH (ad ah (ad ah (ad ah (ad ah (ad ah (ad ah (ad (aB bg ah (bI (bb T) hr T.m_Q27 T.F_Q27.kp T.b_Q27 (ad (qv 0) (ad ah ag aq) af))) (ad (aB kJ ah ah) ag aJ) aJ) aq) aq) aq) aq) aq) aq)))
   (am (aD (bI (kL T) hr T.m_Q15 T.F_Q15.kp T.b_Q15 (ad (bv aX (qv 1) (bI (bb T) hr T.m_Q27 T.F_Q27.kp T.b_Q27 (ad (qv 0) (ad ah ag aq) af))) (ad (bv aX (qv 2) (bI (bb T) hr T.m_Q27 T.F_Q27.kp T.b_Q27 (ad (qv 0) (ad ah ag aq) af))) ag aG) aG)))))) ?_
 extract_lets +lift
 try dsimp -zeta -zetaDelta only [Cx.nox,Cx.wish,bx]
 refine⟨_,rfl,t₁,s₀,40,rfl,T0,by decide,by decide,fun r1 x1 a1 b1 T1=>⟨_,_,rfl,rfl,_,rfl,t₁,s₀,60000,rfl,T1,by decide,by decide,fun r2 x2 a2 b2 T2=>⟨_,_,rfl,rfl,_,_,rfl,rfl,⟨by decide,by decide,by decide⟩,_,_,rfl,rfl,DP,fun l1 g1=>?_⟩⟩⟩
 have T3:=T2.new g1 (.lst [.int 1,.int 2,.int 3,.int 5,.int (1+r1),.int (1+r2),.int (10 ^ 9+7)])
 refine⟨_,rfl,t₁,s₀,30,rfl,T3,by decide,by decide,fun r3 x3 a3 b3 T4=>⟨_,_,rfl,rfl,_,_,rfl,rfl,⟨by decide,by decide,by decide⟩,Fw,fun l2 g2=>?_⟩⟩
 have T5:=T4.new g2 (.lst [.int 1,.int 1,.int 1,.int 2,.int 3,.int 6,.int (1+r3),.int (10 ^ 9)])
 have n1:l1≠t₁:=fun z=>by subst z;obtain⟨_,e⟩:=T2.lst;rw [g1] at e;cases e
 have n2:l2≠t₁:=fun z=>by subst z;obtain⟨_,e⟩:=T4.lst;rw [g2] at e;cases e
 have n3:l1≠l2:=fun z=>by subst z;rw [aw n1,ai] at g2;cases g2
 refine⟨_,rfl,_,rfl,t₁,s₀,7,rfl,T5,by decide,by decide,fun r4 x4 a4 b4 T6=>?_⟩
 obtain⟨v1,hv1,m1⟩:=zU (xs:=[.int 1,.int 2,.int 3,.int 5,.int (1+r1),.int (1+r2),.int (10 ^ 9+7)]) a4 b4
 refine⟨l1,_,_,v1,rfl,rfl,aQ.of (by rw [aw n1,aw n3,aw n1,ai] <;> rfl),hv1,?_⟩
 refine⟨_,rfl,_,rfl,t₁,s₀,8,rfl,T6,by decide,by decide,fun r5 x5 a5 b5 T7=>?_⟩
 obtain⟨v2,hv2,m2⟩:=zU (xs:=[.int 1,.int 1,.int 1,.int 2,.int 3,.int 6,.int (1+r3),.int (10 ^ 9)]) a5 b5
 refine⟨l2,_,_,v2,rfl,rfl,aQ.of (by rw [aw n2,aw n2,ai] <;> rfl),hv2,?_⟩
 obtain⟨z1,rfl,p1,q1⟩:∃ z:Int,v1=.int z/\0 < z/\z≤1000000007:=by
  simp only [List.mem_cons,List.not_mem_nil,or_false] at m1
  rcases m1 with e | e | e | e | e | e | e
  all_goals exact⟨_,e,by omega,by omega⟩
 obtain⟨z2,rfl,p2,q2,d2⟩:∃ z:Int,v2=.int z/\0 < z/\z < 2 ^ 31/\z∣(D0:Int):=by
  simp only [List.mem_cons,List.not_mem_nil,or_false] at m2
  rcases m2 with e | e | e | e | e | e | e | e
  ·exact⟨_,e,by decide,by decide,by decide⟩
  ·exact⟨_,e,by decide,by decide,by decide⟩
  ·exact⟨_,e,by decide,by decide,by decide⟩
  ·exact⟨_,e,by decide,by decide,by decide⟩
  ·exact⟨_,e,by decide,by decide,by decide⟩
  ·exact⟨_,e,by decide,by decide,by decide⟩
  ·exact⟨_,e,by omega,by omega,C4 a3 b3⟩
  ·exact⟨_,e,by decide,by decide,by decide⟩
 have w2:z2.natAbs < 2 ^ 31:=by omega
 refine⟨z1,z2,rfl,by omega,cj w2 (by decide),?_⟩
 rw [ei p2]
 intro p hp
 have S:=(((((((Step.up (ys:=x1) T0.lst.choose_spec).trans (Step.up (ys:=x2) ai)).trans (Step.new ⟨_,ai⟩ g1 _)).trans (Step.up (ys:=x3) T3.lst.choose_spec)).trans (Step.new T4.lst g2 _)).trans (Step.up (ys:=x4) T5.lst.choose_spec)).trans (Step.up (ys:=x5) T6.lst.choose_spec)).trans (Step.new T7.lst hp (.tup [.int (eJ z1 z2).1,.int (eJ z1 z2).2]))
 exact k _ (eJ z1 z2) _ (wG p1 q1 p2 d2) S (T7.new hp _) (RV.of ai)
theorem AA (T:dM K mg t):bh P w K mg base cZ 4 t.a_Q17 t.d_Q17 ["_law_tape_here", "_law_most", "_law_end"] (kh K):=by
 refine T.F_Q17.ok eN (fun vs H Q E h=>?_) (fun cdv A outer s H vs Q E hr h=>?_)
 ·obtain⟨_,_,_,_,rfl,_⟩:=h;rfl
 obtain⟨t₁,s₁,m,en,rfl,tp,hm,he1,he2,k⟩:=h
 refine cM.ok (aj (cn 3 eN.nd (bH ag))
   (aj (bX PassesOwn.never rfl (bK rfl T.z_range (ad (bI (bb T) hr T.m_Q27 T.F_Q27.kp T.b_Q27 (ad (qv 0) (ad (aB bg (qv 1) ah) ag aJ) af)) ag ax)) (ay (i:=4) eN.nd rfl (by first | exact Or.inl rfl | exact Or.inr rfl))
   (aj (cn 5 eN.nd (bI (bb T) hr T.m_Q27 T.F_Q27.kp T.b_Q27 (ad (qv 0) (ad (qv 2) ag af) af)))
   (aj (cn 6 eN.nd (aB bg (qv 5) (bI (bb T) hr T.m_Q27 T.F_Q27.kp T.b_Q27 (ad (qv 0) (ad (aB kI (qv 2) (qv 5)) ag aJ) af))))
   (aj (nQ (be (fx (kB (aE (iQ hr) (qv 3) (bH ag) (aK _)) (kA (aE cS (bI (bb T) hr T.m_Q27 T.F_Q27.kp T.b_Q27 (ad (qv 0) (ad ah ag aq) af)) ah (aK _))))) (am (fJ (bU cE (bv aX (qv 3) (bI (bb T) hr T.m_Q27 T.F_Q27.kp T.b_Q27 (ad (qv 0) (ad (ar aC (by rfl) T.z_len boot_len (ad (qv 3) ag af)) ag ax) af))) cA (cz ah)) (ef rfl (aR (ay (i:=5) eN.nd rfl (by first | exact Or.inl rfl | exact Or.inr rfl)) (aR (ay (i:=6) eN.nd rfl (by first | exact Or.inl rfl | exact Or.inr rfl)) bZ))))) aO))
   (aj (nQ (be (aE cS (bI (bb T) hr T.m_Q27 T.F_Q27.kp T.b_Q27 (ad (qv 0) (ad ah ag aq) af)) ah (aK _)) (am (cn 6 eN.nd (qv 5))) aO))
   (am (fY (l9 PySem.F.plainAttrs_list PySem.F.slot_list_append PySem.F.type_list_append gz (qv 3) (ad (aP (ad (qv 5) (ad (qv 6) (ad (bI (Av T) hr T.m_Q29 T.F_Q29.kp T.b_Q29 (ad (qv 0) ag af)) ag ax) af) af)) ag aZ)))))))))
   (am (aD (bJ bV (by rfl) T.z_tuple boot_tuple (ad (qv 3) ag af)))))) ?_
 extract_lets +lift
 try dsimp -zeta -zetaDelta only [Cx.nox,Cx.wish,bx]
 refine⟨(by show 0≤sizeLine;exact Nat.zero_le _),fun ls h0=>?_⟩
 obtain⟨y0,e0⟩:=tp.lst
 obtain⟨y0',e0'⟩:=tp.scr
 have nt:ls≠t₁:=fun z=>by subst z;rw [e0] at h0;cases h0
 have ns:ls≠s₁:=fun z=>by subst z;rw [e0'] at h0;cases h0
 have s0:=ak h0 (.lst [])
 have hl0:upd H ls (.lst []) ls=some (.lst []):=ai
 have T0:=tp.new h0 (.lst [])
 generalize upd H ls (.lst [])=H0 at s0 hl0 T0 ⊢
 obtain⟨y1,e1⟩:=T0.lst
 refine⟨_,rfl,_,rfl,_,_,rfl,rfl,t₁,s₁,_,rfl,T0,by omega,by omega,fun r1 z1 a1 b1 T1=>?_⟩
 have S1:Step t₁ H0 _:=Step.up (ys:=z1) e1
 generalize upd H0 t₁ (.lst z1)=H1 at T1 S1 ⊢
 have hl1:=S1.keep _ _ nt hl0
 refine⟨r1,rfl,by omega,by omega,cL (lo:=0) (n:=r1.toNat) (fun i σ H'=>∃ (xs:List V) (ws:List Wk) (x5 x6 x7:Option V),σ=[some (.ref t₁),some (.int m),some (.int en),some (.ref ls),x5,x6,x7]/\bE H' t₁ s₁/\(∀ b o,b≠t₁->H b=some o->H' b=some o)/\H' ls=some (.lst xs)/\cv (yB K H') xs ws/\ws.length=i/\∀ w∈ws,DF w) ⟨[],[],none,none,none,rfl,T1,(fun b o nb q=>S1.keep _ _ nb (s0 _ _ q)),hl1,.nil,rfl,fun w hw=>by cases hw⟩ ?_ ?_⟩
 ·rintro i σ HI hi ⟨xs,ws,x5,x6,x7,rfl,TI,kp,hlI,alw,hlen,okw⟩
  have hxl:=alw.len
  obtain⟨y2,e2⟩:=TI.lst
  refine⟨_,rfl,_,rfl,t₁,s₁,_,rfl,TI,by omega,by omega,fun r2 z2 a2 b2 T2=>?_⟩
  have S2:Step t₁ HI _:=Step.up (ys:=z2) e2
  generalize upd HI t₁ (.lst z2)=H2 at T2 S2 ⊢
  obtain⟨ff,rfl⟩:=Int.eq_ofNat_of_zero_le a2
  obtain⟨y3,e3⟩:=T2.lst
  refine⟨_,rfl,_,rfl,_,rfl,_,rfl,_,_,rfl,rfl,t₁,s₁,_,rfl,T2,by omega,by omega,fun r3 z3 a3 b3 T3=>?_⟩
  have S3:Step t₁ H2 _:=Step.up (ys:=z3) e3
  generalize upd H2 t₁ (.lst z3)=H3 at T3 S3 ⊢
  have S23:=S2.trans S3
  refine⟨_,_,rfl,rfl,?_⟩
  obtain⟨la,hla⟩:∃ la:Nat,(ff:Int)+r3=(la:Nat):=⟨((ff:Int)+r3).toNat,by omega⟩
  dsimp only
  rw [hla]
  have bf:ff≤la:=by omega
  have bl:la < 24:=by omega
  have hl3:=S23.keep _ _ nt hlI
  refine⟨fun σ H'=>∃ ff la:Nat,σ=[some (.ref t₁),some (.int m),some (.int en),some (.ref ls),some (.int (0+(i:Int))),some (.int (ff:Nat)),some (.int (la:Nat))]/\Step t₁ HI H'/\bE H' t₁ s₁/\ff≤la/\la < 24,?_,?_⟩
  ·refine⟨_,rfl,(by show 0≤sizeLine;exact Nat.zero_le _),fun q hq=>?_⟩
   have sq:=ak hq (.lst [])
   have TQ:=T3.new hq (.lst [])
   have hqq:upd H3 q (.lst []) q=some (.lst []):=ai
   generalize upd H3 q (.lst [])=HQ at sq TQ hqq ⊢
   have SQ:=S23.trans (Step.same sq T3.lst)
   refine⟨.list (ws.map Bk),.list [],.lst (aQ.of (sq _ _ hl3)) ((alw.mono fun _ _ z=>z.mono (aI.step (K:=K) SQ)).deep fun _ _ z=>z.deep),.lst (aQ.of hqq) .nil,yF ws,rfl,rJ ws,_,rfl,?_⟩
   cases ws with
   | nil=>exact cC (cC ⟨ff,la,rfl,SQ,TQ,bf,bl⟩)
   | cons w0 wr=>
    refine bM ?_
    have lp:0 < xs.length:=by rw [hxl];exact Nat.succ_pos _
    obtain⟨y4,e4⟩:=TQ.lst
    refine⟨_,rfl,t₁,s₁,_,rfl,TQ,by omega,by omega,fun r4 z4 a4 b4 T4=>?_⟩
    have S4:Step t₁ HQ _:=Step.up (ys:=z4) e4
    generalize upd HQ t₁ (.lst z4)=H4 at T4 S4 ⊢
    have S4':=SQ.trans S4
    refine⟨rfl,_,rfl,gA (fun _=>?_) (fun _=>⟨ff,la,rfl,S4',T4,bf,bl⟩)⟩
    have hl4:=S4'.keep _ _ nt hlI
    obtain⟨y5,e5⟩:=T4.lst
    refine⟨_,rfl,_,rfl,_,rfl,ls,_,rfl,.inl (aQ.of hl4),t₁,s₁,_,rfl,T4,by omega,by omega,fun r5 z5 a5 b5 T5=>?_⟩
    have S5:=S4'.trans (Step.up (ys:=z5) e5)
    generalize upd H4 t₁ (.lst z5)=H5 at T5 S5 ⊢
    obtain⟨j,rfl⟩:=Int.eq_ofNat_of_zero_le a5
    obtain⟨xw,hxw⟩:∃ xw,xs[j]?=some xw:=⟨_,List.getElem?_eq_getElem (by omega)⟩
    obtain⟨w,hw,pw0,xa,rfl,hSw,ra⟩:=alw.at hxw
    have wb:=okw w (List.mem_of_getElem? hw)
    refine⟨ls,_,_,_,rfl,rfl,aQ.of (S5.keep _ _ nt hlI),aN hxw,?_⟩
    refine⟨_,rfl,pw0,_,rfl,aI.step (K:=K) S5 _ _ hSw,fun pc HP sP hpc=>?_⟩
    rw [show dw [V.int (w.1:Nat),V.int (w.2.1:Nat),xa] none (some 2)=[V.int (w.1:Nat),V.int (w.2.1:Nat)] from AY (n:=2) (by show 2≤3;decide)] at hpc
    refine⟨pc,_,rfl,hpc,rfl,_,_,rfl,_,_,rfl,rfl,?_⟩
    exact⟨w.1,w.2.1,rfl,S5.trans (Step.same sP T5.lst),T5.same sP,wb.le,wb.l2⟩
  ·rintro σ H6 ⟨ff,la,rfl,S6,T6,bf,bl⟩
   refine⟨fun σ H'=>∃ la:Nat,σ=[some (.ref t₁),some (.int m),some (.int en),some (.ref ls),some (.int (0+(i:Int))),some (.int (ff:Nat)),some (.int (la:Nat))]/\Step t₁ HI H'/\bE H' t₁ s₁/\ff≤la/\la < 24,?_,?_⟩
   ·obtain⟨y7,e7⟩:=T6.lst
    refine⟨_,rfl,t₁,s₁,_,rfl,T6,by omega,by omega,fun r7 z7 a7 b7 T7=>?_⟩
    have S7:Step t₁ H6 _:=Step.up (ys:=z7) e7
    generalize upd H6 t₁ (.lst z7)=H7 at T7 S7 ⊢
    refine⟨rfl,_,rfl,gA (fun _=>?_) (fun _=>?_)⟩
    ·exact⟨_,rfl,ff,rfl,S6.trans S7,T7,Nat.le_refl _,by omega⟩
    ·exact⟨la,rfl,S6.trans S7,T7,bf,bl⟩
   ·rintro σ H8 ⟨la,rfl,S8,T8,bf,bl⟩
    have hl8:=S8.keep _ _ nt hlI
    refine⟨_,rfl,.inl ⟨rfl,_,aQ.of hl8⟩,_,rfl,_,rfl,_,rfl,t₁,s₁,rfl,T8,fun va ra H9 po S9 T9 rv=>?_⟩
    refine⟨Bs,fun pw hpw=>?_⟩
    have sA:=ak hpw (.tup [.int (ff:Nat),.int (la:Nat),va])
    have hA:aV K (upd H9 pw (.tup [.int (ff:Nat),.int (la:Nat),va])) pw [.int (ff:Nat),.int (la:Nat),va]:=aV.of ai
    have TA:=T9.same sA
    generalize upd H9 pw (.tup [.int (ff:Nat),.int (la:Nat),va])=HA at sA hA TA ⊢
    have SA:=(S8.trans S9).trans (Step.same sA T9.lst)
    have hlA:=SA.keep _ _ nt hlI
    refine⟨ls,xs,_,rfl,rfl,hlA,bA (by omega),?_⟩
    have tB:aI K HA (upd HA ls (.lst (xs++[.ref pw]))):=aI.up hlA _
    refine⟨_,ws++[(ff,la,ra)],_,_,_,rfl,TA.upl nt ns _,fun b o nb q=>?_,ai,(alw.mono fun v d q=>q.mono ((aI.step (K:=K) SA).trans tB)).snoc ⟨pw,va,rfl,tB _ _ hA,(rv.mono (aI.same sA)).mono tB⟩,by rw [List.length_append,hlen];rfl,fun z hz=>?_⟩
    ·rw [aw (aM q h0)]
     exact SA.keep _ _ nb (kp b o nb q)
    ·rcases List.mem_append.mp hz with h | h
     ·exact okw z h
     ·rw [List.mem_singleton.mp h]
      exact⟨bf,bl,po⟩
 ·rintro σ HI ⟨xs,ws,x5,x6,x7,rfl,TI,kp,hlI,alw,hlen,okw⟩
  refine⟨_,rfl,ls,_,rfl,.inl ⟨aQ.of hlI,fun p hp=>?_⟩⟩
  have s5:=ak hp (.tup xs)
  exact k (.ref p) ws _ (Step.trans ⟨kp,⟨_,e0⟩,TI.lst⟩ (Step.same s5 TI.lst)) (TI.same s5) ⟨p,xs,rfl,aV.of ai,alw.mono fun _ _ q=>q.mono (aI.same s5)⟩ (by rw [hlen];omega) okw
theorem Au (T:dM K mg t):bh P w K mg base cZ 4 t.a_Q30 t.d_Q30 ["_law_tape_here", "_law_works_here"] (lT K):=by
 refine T.F_Q30.ok dG (fun vs H Q E h=>?_) (fun cdv A outer s H vs Q E hr h=>?_)
 ·obtain⟨_,_,_,_,rfl,_⟩:=h;rfl
 obtain⟨t₁,s₁,v,ws,rfl,tp,⟨p,xs,rfl,hp,al⟩,l12,okw,k⟩:=h
 refine cM.ok (aj (ee (i:=2) (N':=["_law_t"]) (src:=[none]) dG.nd rfl (by first | exact Or.inl rfl | exact Or.inr rfl) rfl (by exact (bK rfl T.z_range (ad ah ag aq))) (fun _ _ _ _ _=>(by exact (by exact ay (i:=0) (by show List.Nodup (["_law_t"]:List Str);decide +kernel) (by exact rfl) (by first | exact Or.inl rfl | exact Or.inr rfl)))) (fun _ _ _ _ _=>bQ) (fun _ _ _ _ _=>(by exact (by exact (bH ag)))) (by exact trivial) rfl (by decide +kernel) rfl (by decide +kernel) (by exact aY rfl trivial))
   (aj (bX PassesOwn.never rfl (io rfl T.z_enumerate (ad (qv 1) ag af)) (ef rfl (aR (ay (i:=3) dG.nd rfl (by first | exact Or.inl rfl | exact Or.inr rfl)) (aR (ay (i:=4) dG.nd rfl (by first | exact Or.inl rfl | exact Or.inr rfl)) bZ)))
   (aj (ee (i:=5) (N':=["_law_t", "_law_tape_here"]) (src:=[none,some 0]) dG.nd rfl (by first | exact Or.inl rfl | exact Or.inr rfl) rfl (by exact (qg rfl T.z_range (ad (bv av (qv 4) ah) (ad (aB bg (bv av (qv 4) ah) ah) ag aJ) aG))) (fun _ _ _ _ _=>(by exact (by exact ay (i:=0) (by show List.Nodup (["_law_t", "_law_tape_here"]:List Str);decide +kernel) (by exact rfl) (by first | exact Or.inl rfl | exact Or.inr rfl)))) (fun _ _ _ _ _=>(d9 (aE cS (by exact (c6 (bb T) (by exact hr.mono (by decide)) (by exact rfl) T.m_Q27 T.F_Q27.kp T.b_Q27 (by exact .nil) (by exact gT) (ad (by exact (qv 1)) (ad ah ag aq) af))) ah (aK _)))) (fun _ _ _ _ _=>(by exact (by exact (qv 0)))) (by exact⟨rfl,rfl,rfl,rfl,trivial⟩) rfl (by decide +kernel) rfl (by decide +kernel) (by exact aY rfl ⟨rfl,trivial⟩))
   (aj (nQ (be (aE (uu hr) (qv 5) (bH ag) (aK _)) (am (cn 5 dG.nd (bH (ad (aB bg (bv av (qv 4) ah) (bI (bb T) hr T.m_Q27 T.F_Q27.kp T.b_Q27 (ad (qv 0) (ad (aB bg (aB kI (bv av (qv 4) ah) (bv av (qv 4) ah)) ah) ag aJ) af))) ag aJ)))) aO))
   (aj (ee (i:=6) (N':=["_law_t", "_law_tape_here"]) (src:=[none,some 0]) dG.nd rfl (by first | exact Or.inl rfl | exact Or.inr rfl) rfl (by exact (dB (qv 5))) (fun _ _ _ _ _=>(by exact (by exact ay (i:=0) (by show List.Nodup (["_law_t", "_law_tape_here"]:List Str);decide +kernel) (by exact rfl) (by first | exact Or.inl rfl | exact Or.inr rfl)))) (fun _ _ _ _ _=>bQ) (fun _ _ _ _ _=>(by exact (by exact (aB bg ah (by exact (c6 (bb T) (by exact hr.mono (by decide)) (by exact rfl) T.m_Q27 T.F_Q27.kp T.b_Q27 (by exact .nil) (by exact gT) (ad (by exact (qv 1)) (ad ah ag aq) af))))))) (by exact⟨rfl,rfl,rfl,rfl,trivial⟩) rfl (by decide +kernel) rfl (by decide +kernel) (by exact aY rfl ⟨rfl,trivial⟩))
   (am (bX PassesOwn.never rfl (tG rfl T.z_zip (ad (qv 5) (ad (qv 6) ag af) af)) (ef rfl (aR (ay (i:=7) dG.nd rfl (by first | exact Or.inl rfl | exact Or.inr rfl)) (aR (ay (i:=8) dG.nd rfl (by first | exact Or.inl rfl | exact Or.inr rfl)) bZ)))
   (aj (cn 9 dG.nd (aP (ad (qv 3) (ad (bI (nX T) hr T.m_Q16 T.F_Q16.kp T.b_Q16 (ad (bv av (qv 4) ah) (ad (bI (kL T) hr T.m_Q15 T.F_Q15.kp T.b_Q15 (ad (qv 8) (ad (ar (qT rfl) (by rfl) T.z_sum boot_sum (ad (qv 6) ag af)) ag ax) af)) ag ax) aG)) ag ax) af)))
   (am (fY (l9 PySem.F.plainAttrs_list PySem.F.slot_list_insert PySem.F.type_list_insert qu (bv aX (qv 2) (qv 7)) (ad (bI (bb T) hr T.m_Q27 T.F_Q27.kp T.b_Q27 (ad (qv 0) (ad (aB bg (ar aC (by rfl) T.z_len boot_len (ad (bv aX (qv 2) (qv 7)) ag aG)) ah) ag aJ) af)) (ad (qv 9) ag af) ax)))))))))))
   (am (aD (bJ bV (by rfl) T.z_tuple boot_tuple (ad (bC (N':=["_law_turn"]) (src:=[none]) rfl (by exact (dB (qv 2))) (fun _ _ _ _ _=>(by exact (by exact ay (i:=0) (by show List.Nodup (["_law_turn"]:List Str);decide +kernel) (by exact rfl) (by first | exact Or.inl rfl | exact Or.inr rfl)))) (fun _ _ _ _ _=>bQ) (fun _ _ _ _ _=>(by exact (by exact (bJ (eW (K:=K) (by exact rfl)) (by exact rfl) T.z_tuple boot_tuple (ad (by exact (qv 0)) ag af))))) (by exact trivial) rfl (by decide +kernel) rfl (by decide +kernel) (by exact aY rfl trivial)) ag cN)))))) ?_
 extract_lets +lift
 try dsimp -zeta -zetaDelta only [Cx.nox,Cx.wish,bx]
 refine⟨24,rfl,by decide,by decide,fun D hD=>gc (J:=rp 0 24) (n:=24) (fun i ys H'=>∃ rows:List Addr,ys=rows.map V.ref/\rows.length=i/\rows.Nodup/\D∉rows/\(∀ r∈rows,H r=none)/\aA H H'/\H' D=some (.lst ys)/\∀ r∈rows,H' r=some (.lst [])) ⟨[],rfl,rfl,List.nodup_nil,(fun z=>by cases z),(fun r hr=>by cases hr),ak hD _,ai,fun r hr=>by cases hr⟩ (fun i ys H' hi _=>hi) (fun ys H1 ⟨rows,e1,e2,e3,e4,e5,e6,e7,e8⟩=>⟨Nat.le_refl _,?_⟩) ?_⟩
 rotate_left
 ·rintro i ys H1 x H2 hi ⟨rows,rfl,e2,e3,e4,e5,e6,e7,e8⟩ ⟨rfl,rfl⟩ R E kR kE
  refine⟨dz.set rfl,?_⟩
  refine⟨(by show 0≤sizeLine;exact Nat.zero_le _),fun r hr=>?_⟩
  have s2:=ak hr (.lst [])
  have nr:r∉rows:=fun m=>by rw [e8 r m] at hr;cases hr
  have nD:r≠D:=fun z=>by subst z;rw [e7] at hr;cases hr
  have hD4:=s2 _ _ e7
  refine kR (.ref r) _ hD4 (bA (by rw [List.length_map];omega)) ⟨rows++[r],by rw [List.map_append];rfl,by rw [List.length_append,e2];rfl,?_,?_,fun z hz=>?_,fun b o q=>?_,ai,fun z hz=>?_⟩
  ·rw [List.nodup_append]
   exact⟨e3,List.nodup_cons.mpr ⟨(fun z=>by cases z),List.nodup_nil⟩,fun a ha b hb=>by rw [List.mem_singleton.mp hb];exact fun z=>nr (by rw [← z];exact ha)⟩
  ·intro m
   rcases List.mem_append.mp m with z | z
   ·exact e4 z
   ·exact nD (List.mem_singleton.mp z).symm
  ·rcases List.mem_append.mp hz with y | y
   ·exact e5 z y
   ·rw [List.mem_singleton.mp y]
    cases c:H r with
    | none=>rfl
    | some o=>rw [e6 _ _ c] at hr;cases hr
  ·rw [aw (aM q hD)]
   exact s2 _ _ (e6 _ _ q)
  ·rcases List.mem_append.mp hz with y | y
   ·rw [aw (show z≠D from fun w=>e4 (by rw [← w];exact y))]
    exact s2 _ _ (e8 z y)
   ·rw [List.mem_singleton.mp y,aw nD,ai]
 have nD1:D≠t₁:=fun z=>by subst z;obtain⟨_,e⟩:=tp.lst;rw [hD] at e;cases e
 have nrt:t₁∉rows:=fun m=>by obtain⟨_,e⟩:=tp.lst;rw [e5 _ m] at e;cases e
 have g1:pQ K H1 D rows (List.replicate 24 []):=by
  refine⟨by rw [e7,e1],e2,by rw [List.length_replicate],e3,e4,fun i r c hr hc=>?_⟩
  rw [List.getElem?_replicate] at hc
  split at hc
  ·cases hc;exact⟨[],e8 r (List.mem_of_getElem? hr),.nil⟩
  ·cases hc
 have T1:=tp.same e6
 have kp1:∀ b o,b≠t₁->H b=some o->H1 b=some o:=fun b o _ q=>e6 _ _ q
 have nul:∀ c∈List.replicate 24 ([]:List Pc),c.length≤0/\∀ q∈c,rF ws.length q:=fun c hc=>by
  rw [(List.mem_replicate.mp hc).2]
  exact⟨Nat.le_refl _,fun q hq=>by cases hq⟩
 generalize List.replicate 24 ([]:List Pc)=pl0 at g1 nul
 have Sall:Step t₁ H H1:=Step.same e6 tp.lst
 have rnH:∀ r∈rows,H r=none:=e5
 clear e1 e6 e7 e8
 have hp1:∀ {H':Hp},(∀ b o,b≠t₁->H b=some o->H' b=some o)->aV K H' p xs:=fun {H'} kp=>by
  rcases hp with (h | ⟨ob,h⟩) | h
  ·exact .inl (.inl (kp _ _ (fun z=>by subst z;obtain⟨_,e⟩:=tp.lst;rw [h] at e;cases e) h))
  ·exact .inl (.inr ⟨ob,kp _ _ (fun z=>by subst z;obtain⟨_,e⟩:=tp.lst;rw [h] at e;cases e) h⟩)
  ·exact .inr h
 refine⟨_,rfl,p,rfl,⟨_,hp1 kp1⟩,f8 (K:=K) (a:=p) (xs:=xs) (fun i σ H'=>∃ (pl:List (List Pc)) (x4 x5 x6 x7 x8 x9 xA:Option V),σ=[some (.ref t₁),some (.ref p),some (.ref D),x4,x5,x6,x7,x8,x9,xA]/\(∀ b o,b≠t₁->H b=some o->H' b=some o)/\bE H' t₁ s₁/\pQ K H' D rows pl/\(∀ c∈pl,c.length≤i/\∀ q∈c,rF ws.length q)/\∀ n,n < i->m9 pl n) ⟨pl0,none,none,none,none,none,none,none,rfl,kp1,T1,g1,nul,fun n hn=>absurd hn (Nat.not_lt_zero _)⟩ (fun i σ H' _ ⟨_,_,_,_,_,_,_,_,_,kp,_⟩=>hp1 kp) ?_ ?_⟩
 ·rintro i x pt σ H2 hx ⟨pl,x4,x5,x6,x7,x8,x9,xA,rfl,kp,T2,g2,okp,hasp⟩ hpt
  obtain⟨w,hw,pw,xa,rfl,hSw,ra⟩:=al.at hx
  have wb:=okw w (List.mem_of_getElem? hw)
  have S02:Step t₁ H H2:=⟨kp,tp.lst,T2.lst⟩
  have e0:=ak hpt (.tup [.int (i:Nat),.ref pw])
  have T3:=T2.same e0
  have g3:=g2.same e0
  have S03:=S02.trans (Step.same e0 T2.lst)
  refine⟨pt,_,rfl,aV.of ai,rfl,_,_,rfl,_,_,rfl,rfl,?_⟩
  generalize upd H2 pt (.tup [.int (i:Nat),.ref pw])=H3 at T3 g3 S03 ⊢
  clear e0 g2 T2 kp S02 hpt
  have t3:=aI.step (K:=K) S03
  have hSw3:=t3 _ _ hSw
  have wl:=wb.le
  have w24:=wb.l2
  obtain⟨n,hn⟩:∃ n:Nat,n=((((w.2.1:Nat):Int)+1) - (w.1:Nat)).toNat:=⟨_,rfl⟩
  refine⟨_,rfl,pw,_,_,_,rfl,rfl,hSw3,rfl,_,rfl,pw,_,_,_,rfl,rfl,hSw3,rfl,_,_,rfl,rfl,_,_,rfl,⟨by omega,by omega,by omega,by omega⟩,fun D2 hD2=>?_⟩
  rw [← hn]
  have n2t:D2≠t₁:=fun z=>by subst z;obtain⟨_,e⟩:=T3.lst;rw [hD2] at e;cases e
  have n2s:D2≠s₁:=fun z=>by subst z;obtain⟨_,e⟩:=T3.scr;rw [hD2] at e;cases e
  refine gc (J:=rp ((w.1:Nat):Int) n) (n:=n) (fun j ys H'=>∃ sp:List Nat,ys=eI sp/\sp.Pairwise (· < ·)/\(∀ z∈sp,w.1≤z/\z < w.1+j)/\sp.length≤j/\(∀ b o,b≠t₁->b≠D2->H3 b=some o->H' b=some o)/\bE H' t₁ s₁/\H' D2=some (.lst ys)) ⟨[],rfl,.nil,(fun z hz=>by cases hz),Nat.zero_le _,(fun b o _ nb q=>by rw [aw nb];exact q),T3.same (ak hD2 _),ai⟩ (fun j ys H' hj _=>hj) (fun ys H4 ⟨sp,e1,e2,e3,e4,e5,e6,e7⟩=>⟨Nat.le_refl _,?_⟩) ?_
  rotate_left
  ·rintro j ys H' x H'' hj ⟨sp,rfl,pw1,rng,ln,kp',T',hD'⟩ ⟨rfl,rfl⟩ Rk E kR kE
   obtain⟨y6,e6⟩:=T'.lst
   refine⟨dz.set rfl,_,rfl,t₁,s₁,3,rfl,T',by decide,by decide,fun r zs a b T6=>⟨rfl,_,rfl,?_⟩⟩
   have S6:Step t₁ _ _:=Step.up (ys:=zs) e6
   by_cases c:r=0
   ·refine cr (by rw [c]) ?_
    have hD6:=S6.keep _ _ n2t hD'
    refine⟨_,rfl,kR _ _ hD6 (bA (by unfold eI;rw [List.length_map];omega)) ⟨sp++[w.1+j],by unfold eI;rw [List.map_append];rfl,?_,?_,by rw [List.length_append];exact Nat.succ_le_succ ln,?_,T6.upl n2t n2s _,ai⟩⟩
    ·refine List.pairwise_append.mpr ⟨pw1,List.pairwise_singleton _ _,fun a ha b hb=>?_⟩
     rw [List.mem_singleton.mp hb]
     exact (rng a ha).2
    ·intro z hz
     rcases List.mem_append.mp hz with h | h
     ·have:=rng z h;omega
     ·rw [List.mem_singleton.mp h];omega
    ·intro b o nb nb2 q
     rw [aw nb2]
     exact S6.keep _ _ nb (kp' b o nb nb2 q)
   ·refine cu (fun z=>c (by injection z)) ?_
    exact kE _ ⟨sp,rfl,pw1,fun z hz=>by have:=rng z hz;omega,by omega,fun b o nb nb2 q=>S6.keep _ _ nb (kp' b o nb nb2 q),T6,S6.keep _ _ n2t hD'⟩
  have kp4:∀ b o,b≠t₁->H3 b=some o->H4 b=some o:=fun b o nb q=>e5 b o nb (aM q hD2) q
  have S34:Step t₁ H3 H4:=⟨kp4,T3.lst,e6.lst⟩
  have g4:=g3.step nD1 nrt S34
  refine⟨fun σ H'=>∃ (ls:Addr) (sp:List Nat),σ=[some (.ref t₁),some (.ref p),some (.ref D),some (.int (i:Nat)),some (.ref pw),some (.ref ls),x7,x8,x9,xA]/\Step t₁ H3 H'/\bE H' t₁ s₁/\H' ls=some (.lst (eI sp))/\ls≠t₁/\ls≠s₁/\sp.Pairwise (· < ·)/\(∀ z∈sp,w.1≤z/\z≤w.2.1)/\1≤sp.length/\sp.length≤24,?_,?_⟩
  ·refine⟨_,rfl,(by show 0≤sizeLine;exact Nat.zero_le _),fun q hq=>?_⟩
   have sq:=ak hq (.lst [])
   have Tq:=e6.same sq
   rw [e1] at e7
   have h2q:=sq _ _ e7
   have hqq:upd H4 q (.lst []) q=some (.lst []):=ai
   generalize upd H4 q (.lst [])=H5 at sq Tq h2q hqq ⊢
   have S35:=S34.trans (Step.same sq e6.lst)
   refine⟨.list (jw sp),.list [],.lst (aQ.of h2q) (gG sp),.lst (aQ.of hqq) .nil,iW sp,rfl,(by have:=i7 sp;show PyData.depthAll (jw sp)+1≤32;omega),_,rfl,?_⟩
   rw [mQ]
   cases sp with
   | cons z0 zr=>
    refine cC ?_
    exact⟨D2,z0 :: zr,rfl,S35,Tq,h2q,n2t,n2s,e2,fun z hz=>by have:=e3 z hz;omega,Nat.succ_le_succ (Nat.zero_le _),by have:(z0 :: zr).length≤n:=e4;omega⟩
   | nil=>
    refine bM ?_
    have hSw5:=aI.step (K:=K) S35 _ _ hSw3
    obtain⟨y7,e7'⟩:=Tq.lst
    refine⟨_,rfl,pw,_,_,_,rfl,rfl,hSw5,rfl,_,rfl,_,rfl,pw,_,_,_,rfl,rfl,hSw5,rfl,_,rfl,pw,_,_,_,rfl,rfl,hSw5,rfl,_,_,rfl,rfl,_,_,rfl,rfl,t₁,s₁,_,rfl,Tq,by omega,by omega,fun r zs a b T7=>⟨_,_,rfl,rfl,vn,fun l8 h8=>?_⟩⟩
    have S7:Step t₁ H5 _:=Step.up (ys:=zs) e7'
    obtain⟨rr,rfl⟩:=Int.eq_ofNat_of_zero_le a
    have nl8:l8≠t₁:=fun z=>by subst z;obtain⟨_,e⟩:=T7.lst;rw [h8] at e;cases e
    have ns8:l8≠s₁:=fun z=>by subst z;obtain⟨_,e⟩:=T7.scr;rw [h8] at e;cases e
    have e8:=ak h8 (.lst (eI [w.1+rr]))
    exact⟨l8,[w.1+rr],rfl,(S35.trans S7).trans (Step.same e8 T7.lst),T7.same e8,ai,nl8,ns8,List.pairwise_singleton _ _,fun z hz=>by rw [List.mem_singleton.mp hz];omega,Nat.le_refl 1,(by show 1≤24;decide)⟩
  ·rintro _ H6 ⟨ls,sp,rfl,S36,T6,hls,nlt,nls,spw,srg,sl1,sl24⟩
   have g6:=g3.step nD1 nrt S36
   have S06:=S03.trans S36
   clear e1 e2 e3 e4 e5 e6 e7 kp4 S34 g4 n2t n2s hD2
   have lns:(eI sp).length=sp.length:=by unfold eI;rw [List.length_map]
   refine⟨_,rfl,ls,rfl,⟨_,aQ.of hls⟩,fun D3 hD3=>?_⟩
   have n3t:D3≠t₁:=fun z=>by subst z;obtain⟨_,e⟩:=T6.lst;rw [hD3] at e;cases e
   have n3s:D3≠s₁:=fun z=>by subst z;obtain⟨_,e⟩:=T6.scr;rw [hD3] at e;cases e
   have n3l:ls≠D3:=fun z=>by rw [z,hD3] at hls;cases hls
   refine gc (J:=pP K ls) (n:=sp.length) (fun j ys H'=>∃ ns:List Int,ys=ns.map V.int/\ns.length=j/\(∀ z∈ns,1≤z/\z≤6)/\(∀ b o,b≠t₁->b≠D3->H6 b=some o->H' b=some o)/\bE H' t₁ s₁/\H' D3=some (.lst ys)) ⟨[],rfl,rfl,(fun z hz=>by cases hz),(fun b o _ nb q=>by rw [aw nb];exact q),T6.same (ak hD3 _),ai⟩ (fun j ys H' hj ⟨_,_,_,_,kp',_⟩=>⟨_,_,aQ.of (kp' _ _ nlt n3l hls),List.getElem?_eq_getElem (by rw [lns];exact hj)⟩) (fun ys H7 ⟨ns,e1,e2,e3,e5,e6,e7⟩=>⟨⟨_,aQ.of (e5 _ _ nlt n3l hls),by rw [lns];exact Nat.le_refl _⟩,?_⟩) ?_
   rotate_left
   ·rintro j ys H' x H'' hj ⟨ns,rfl,ln,rng,kp',T',hD'⟩ ⟨rfl,_⟩ Rk E kR kE
    obtain⟨y8,e8⟩:=T'.lst
    refine⟨dz.set rfl,_,rfl,t₁,s₁,6,rfl,T',by decide,by decide,fun r zs a b T8=>⟨_,_,rfl,rfl,?_⟩⟩
    have S8:Step t₁ _ _:=Step.up (ys:=zs) e8
    exact kR _ _ (S8.keep _ _ n3t hD') (bA (by rw [List.length_map];omega)) ⟨ns++[1+r],by rw [List.map_append];rfl,by rw [List.length_append,ln];rfl,(fun z hz=>by
     rcases List.mem_append.mp hz with h | h
     ·exact rng z h
     ·rw [List.mem_singleton.mp h];omega),(fun b o nb nb2 q=>by rw [aw nb2];exact S8.keep _ _ nb (kp' b o nb nb2 q)),T8.upl n3t n3s _,ai⟩
   have kp7:∀ b o,b≠t₁->H6 b=some o->H7 b=some o:=fun b o nb q=>e5 b o nb (aM q hD3) q
   have S67:Step t₁ H6 H7:=⟨kp7,T6.lst,e6.lst⟩
   have g7:=g6.step nD1 nrt S67
   have S07:=S06.trans S67
   have hls7:=S67.keep _ _ nlt hls
   rw [e1] at e7
   have n3r:D3∉rows:=fun m=>by obtain⟨_,_,h,_⟩:=g6.at m;rw [hD3] at h;cases h
   have nlr:ls∉rows:=fun m=>by
    obtain⟨xs',c,hx',al'⟩:=g6.at m
    rw [hls] at hx'
    cases hx'
    cases sp with
    | nil=>exact absurd sl1 (by decide)
    | cons z zr=>
     cases al' with
     | cons h _=>obtain⟨_,_,h,_⟩:=h;cases h
   refine⟨_,rfl,_,rfl,ls,D3,rfl,⟨_,aQ.of hls7⟩,⟨_,aQ.of e7⟩,qL (K:=K) (a:=ls) (b:=D3) (xs:=eI sp) (ys:=ns.map V.int) (n:=sp.length) (fun j σ H'=>∃ (pl':List (List Pc)) (x8 x9 xA:Option V),σ=[some (.ref t₁),some (.ref p),some (.ref D),some (.int (i:Nat)),some (.ref pw),some (.ref ls),some (.ref D3),x8,x9,xA]/\(∀ b o,b≠t₁->b∉rows->H7 b=some o->H' b=some o)/\bE H' t₁ s₁/\pQ K H' D rows pl'/\(∀ (u:Nat) (c:List Pc),pl'[u]?=some c->c.length≤i+(if u∈sp.take j then 1 else 0)/\∀ q∈c,rF ws.length q)/\(∀ n,n < i->m9 pl' n)/\(0 < j->m9 pl' i)) (by rw [lns];exact Nat.le_refl _) (by rw [List.length_map,e2];exact Nat.le_refl _) (.inl (by rw [lns];exact Nat.le_refl _)) ⟨pl,x8,x9,xA,rfl,(fun b o _ _ q=>q),e6,g7,(fun u c hc=>by have:=okp c (List.mem_of_getElem? hc);exact⟨by omega,this.2⟩),hasp,fun z=>absurd z (Nat.lt_irrefl 0)⟩ (fun j σ H' _ ⟨_,_,_,_,_,kp',_⟩=>⟨aQ.of (kp' _ _ nlt nlr hls7),aQ.of (kp' _ _ n3t n3r e7)⟩) ?_ ?_⟩
   rotate_left
   ·rintro σ H8 ⟨pl',x8,x9,xA,rfl,kp',T8,g8,ok8,hp8,hi8⟩
    refine⟨pl',_,_,_,_,_,_,_,rfl,fun b o nb q=>kp' b o nb (fun m=>by rw [rnH b m] at q;cases q) (S07.keep b o nb q),T8,g8,fun c hc=>?_,fun n hn=>?_⟩
    ·obtain⟨u,hu⟩:=List.getElem?_of_mem hc
     have:=ok8 u c hu
     refine⟨Nat.le_trans this.1 ?_,this.2⟩
     split <;> omega
    ·by_cases z:n < i
     ·exact hp8 n z
     ·have:n=i:=by omega
      rw [this];exact hi8 (by omega)
   rintro j x y pt σ H8 hj hx hy ⟨pl',x8,x9,xA,rfl,kp',T8,g8,ok8,hp8,hi8⟩ hpt
   obtain⟨u,hu⟩:∃ u,sp[j]?=some u:=⟨_,List.getElem?_eq_getElem hj⟩
   obtain⟨a,ha⟩:∃ a,ns[j]?=some a:=⟨_,List.getElem?_eq_getElem (by omega)⟩
   obtain rfl:x=V.int (u:Nat):=by unfold eI at hx;rw [List.getElem?_map,hu] at hx;cases hx;rfl
   obtain rfl:y=V.int a:=by rw [List.getElem?_map,ha] at hy;cases hy;rfl
   have kH8:∀ b o,b≠t₁->H b=some o->H8 b=some o:=fun b o nb q=>kp' b o nb (fun m=>by rw [rnH b m] at q;cases q) (S07.keep b o nb q)
   have S08:Step t₁ H H8:=⟨kH8,tp.lst,T8.lst⟩
   have e9:=ak hpt (.tup [.int (u:Nat),.int a])
   have T9:=T8.same e9
   have g9:=g8.same e9
   have S09:=S08.trans (Step.same e9 T8.lst)
   have h39:=e9 _ _ (kp' _ _ n3t n3r e7)
   have kp9:∀ b o,b≠t₁->b∉rows->H7 b=some o->upd H8 pt (.tup [.int (u:Nat),.int a]) b=some o:=fun b o nb nb2 q=>e9 _ _ (kp' b o nb nb2 q)
   refine⟨pt,_,rfl,aV.of ai,rfl,_,_,rfl,_,_,rfl,rfl,?_⟩
   generalize upd H8 pt (.tup [.int (u:Nat),.int a])=H9 at T9 g9 S09 h39 kp9 ⊢
   have t9:=aI.step (K:=K) S09
   have hSw9:=t9 _ _ hSw
   have ra9:=ra.mono t9
   have ma:=List.mem_of_getElem? ha
   have sm:a≤ns.sum/\ns.sum≤144:=yS e3 (by omega) ma
   have a1:=(e3 a ma).1
   obtain⟨bsh,psh⟩:=sj a1 sm.1 sm.2
   refine⟨_,rfl,_,rfl,pw,_,_,_,rfl,rfl,hSw9,rfl,_,rfl,_,rfl,D3,ns,rfl,aQ.of h39,a,ns.sum,rfl,by omega,cj (n:=8) (by omega) (by decide),fun q1 g1=>?_⟩
   have s10:=ak g1 (.tup [.int (fP a ns.sum).1,.int (fP a ns.sum).2])
   refine⟨xa,.ref q1,w.2.2,fP a ns.sum,98,210,rfl,ra9.mono (aI.same s10),tq (K:=K) s10,wb.po.wf,bsh.wf (by decide) (by decide) (by decide),by decide,fun q2 g2'=>⟨dJ,fun q3 g3'=>?_⟩⟩
   have s11:=ak g2' (.tup [.int (bG w.2.2 (fP a ns.sum)).1,.int (bG w.2.2 (fP a ns.sum)).2])
   have s12:=ak g3' (.tup [.int (i:Nat),.ref q2])
   have s9c:=(s10.trans s11).trans s12
   have iws:i < ws.length:=(List.getElem?_eq_some_iff.mp hw).1
   have w8:Wf 8 (fP a ns.sum):=by rw [ei (by omega)];exact kM (by omega) (by omega) (by omega)
   have bpc:rF ws.length ((i:Int),bG w.2.2 (fP a ns.sum)):=⟨(wb.po.bq.times bsh).mono ⟨1,by decide⟩ (by decide),pU wb.po.bq.pos bsh.pos wb.po.pos psh,(iD wb.po.wf w8).mono (by decide),Int.natCast_nonneg _,by show (i:Int) < _;omega⟩
   have hpc:m6 K (upd (upd (upd H9 q1 (.tup [.int (fP a ns.sum).1,.int (fP a ns.sum).2])) q2 (.tup [.int (bG w.2.2 (fP a ns.sum)).1,.int (bG w.2.2 (fP a ns.sum)).2])) q3 (.tup [.int (i:Nat),.ref q2])) (.ref q3) ((i:Int),bG w.2.2 (fP a ns.sum)):=⟨q3,.ref q2,rfl,aV.of ai,(tq (K:=K) s11).mono (aI.same s12)⟩
   have TC:=T9.same s9c
   have gC:=g9.same s9c
   have kpC:∀ b o,b≠t₁->b∉rows->H7 b=some o->(upd (upd (upd H9 q1 (.tup [.int (fP a ns.sum).1,.int (fP a ns.sum).2])) q2 (.tup [.int (bG w.2.2 (fP a ns.sum)).1,.int (bG w.2.2 (fP a ns.sum)).2])) q3 (.tup [.int (i:Nat),.ref q2])) b=some o:=fun b o nb nb2 q=>s9c _ _ (kp9 b o nb nb2 q)
   generalize (upd (upd (upd H9 q1 (.tup [.int (fP a ns.sum).1,.int (fP a ns.sum).2])) q2 (.tup [.int (bG w.2.2 (fP a ns.sum)).1,.int (bG w.2.2 (fP a ns.sum)).2])) q3 (.tup [.int (i:Nat),.ref q2]))=HC at hpc TC gC kpC ⊢
   generalize bG w.2.2 (fP a ns.sum)=pr at bpc hpc
   clear s9c s10 s11 s12 g1 g2' g3' T9 g9 kp9 h39 ra9 hSw9
   have u24:u < 24:=by have:=srg u (List.mem_of_getElem? hu);omega
   obtain⟨r,hr'⟩:∃ r,rows[u]?=some r:=⟨_,List.getElem?_eq_getElem (by rw [gC.len];exact u24)⟩
   obtain⟨c,hc⟩:∃ c,pl'[u]?=some c:=⟨_,List.getElem?_eq_getElem (by rw [gC.pln];exact u24)⟩
   obtain⟨zs,hz,az⟩:=gC.row u r c hr' hc
   have hat:(rows.map V.ref)[u]?=some (.ref r):=by rw [List.getElem?_map,hr'];rfl
   have mr:=List.mem_of_getElem? hr'
   have nrt1:r≠t₁:=fun z=>nrt (by rw [← z];exact mr)
   have okc:=ok8 u c hc
   have i12:i < 12:=by have:=(List.getElem?_eq_some_iff.mp hw).1;omega
   have lz:zs.length=c.length:=az.len
   have cl:c.length≤12:=by have:=okc.1;split at this <;> omega
   obtain⟨yC,eC⟩:=TC.lst
   refine⟨_,rfl,_,rfl,D,_,_,_,rfl,rfl,aQ.of gC.top,aN hat,.inl ⟨rfl,_,aQ.of hz⟩,_,rfl,_,rfl,_,rfl,D,_,_,_,rfl,rfl,aQ.of gC.top,aN hat,r,_,rfl,.inl (aQ.of hz),_,_,rfl,rfl,t₁,s₁,_,rfl,TC,by omega,by omega,fun rr vs' a' b' TD=>?_⟩
   obtain⟨jn,rfl⟩:=Int.eq_ofNat_of_zero_le a'
   have SD:Step t₁ HC _:=Step.up (ys:=vs') eC
   have gD:=gC.step nD1 nrt SD
   have hzD:=SD.keep _ _ nrt1 hz
   have azD:=az.mono fun _ _ z=>z.mono (aI.step (K:=K) SD)
   have hpD:=hpc.mono (aI.step (K:=K) SD)
   generalize upd HC t₁ (.lst vs')=HD at TD SD gD hzD azD hpD ⊢
   have nrs:r≠s₁:=fun z=>by obtain⟨_,e⟩:=tp.scr;rw [← z,rnH r mr] at e;cases e
   refine⟨_,rfl,r,zs,jn,.ref q3,rfl,rfl,hzD,by omega,bA (by omega),?_⟩
   refine⟨pl'.set u (c.take jn++((i:Int),pr) :: c.drop jn),_,_,_,rfl,fun b o nb nb2 q=>?_,TD.upl nrt1 nrs _,gD.ins hr' hc hzD azD hpD,fun u' c' hc'=>?_,fun n hn=>w9 hc (hp8 n hn),fun _=>w6 hc⟩
   ·rw [aw (fun z=>nb2 (by rw [z];exact mr))]
    exact SD.keep _ _ nb (kpC b o nb nb2 q)
   ·have tk:sp.take (j+1)=sp.take j++[u]:=by rw [List.take_add_one,hu];rfl
    by_cases e:u'=u
    ·subst e
     rw [List.getElem?_set_self (List.getElem?_eq_some_iff.mp hc).1] at hc'
     cases hc'
     have l0:=okc.1
     rw [if_neg (tw spw hu)] at l0
     rw [if_pos (by rw [tk];exact List.mem_append_right _ List.mem_cons_self)]
     refine⟨?_,fun q hq=>?_⟩
     ·rw [List.length_append,List.length_cons,List.length_take,List.length_drop]
      omega
     ·rcases List.mem_append.mp hq with h | h
      ·exact okc.2 q (List.mem_of_mem_take h)
      ·rcases List.mem_cons.mp h with h | h
       ·rw [h];exact bpc
       ·exact okc.2 q (List.mem_of_mem_drop h)
    ·rw [List.getElem?_set_ne (Ne.symm e)] at hc'
     have o':=ok8 u' c' hc'
     refine⟨Nat.le_trans o'.1 (Nat.add_le_add_left ?_ _),o'.2⟩
     by_cases m:u'∈sp.take j
     ·rw [if_pos m,if_pos (by rw [tk];exact List.mem_append_left _ m)]
      exact Nat.le_refl _
     ·rw [if_neg m];exact Nat.zero_le _
 ·rintro σ H2 ⟨pl,x4,x5,x6,x7,x8,x9,xA,rfl,kp,T2,g2,okp,hasp⟩
  have hl12:xs.length≤12:=by rw [al.len];exact l12
  refine⟨_,rfl,D,rfl,⟨_,aQ.of g2.top⟩,fun D2 hD2=>jV (K:=K) (a:=D) (xs:=rows.map V.ref) (ds:=pl) (P:=rC K) (f:=fun c=>c) (fun _ _ _ _ t z=>z.mono t) hD2 (aQ.of g2.top) (by rw [List.length_map,g2.len,g2.pln]) (by rw [g2.pln];decide) (fun i x d H' hx hd sm Rk E kR=>?_) fun HA ms sA hmA amA=>?_⟩
  ·rw [List.getElem?_map] at hx
   obtain⟨r,hr',rfl⟩:∃ r,rows[i]?=some r/\x=.ref r:=by
    cases hrr:rows[i]? with
    | none=>rw [hrr] at hx;cases hx
    | some r=>rw [hrr] at hx;cases hx;exact⟨r,rfl,rfl⟩
   obtain⟨zs,hz,az⟩:=g2.row i r d hr' hd
   refine⟨dz.set rfl,_,rfl,r,zs,rfl,.inl ⟨aQ.of (sm _ _ hz),fun l hl=>?_⟩⟩
   have e:=ak hl (.tup zs)
   exact kR _ _ e ⟨l,zs,rfl,aV.of ai,az.mono fun _ _ z=>z.mono (aI.same (sm.trans e))⟩
  rw [show pl.map (fun c=>c)=pl from List.map_id' pl] at amA
  refine⟨D2,ms,rfl,.inl ⟨aQ.of hmA,fun l hl=>?_⟩⟩
  have e:=ak hl (.tup ms)
  have sAe:=sA.trans e
  exact k _ pl _ ⟨fun b o nb q=>sAe _ _ (kp b o nb q),tp.lst,(T2.same sAe).lst⟩ (T2.same sAe) ⟨l,ms,rfl,aV.of ai,amA.mono fun _ _ z=>z.mono (aI.same e)⟩ ⟨g2.pln,fun c hc=>by have:=(okp c hc).1;omega,fun c hc=>(okp c hc).2,fun n hn=>hasp n (by rw [al.len];exact hn)⟩
theorem iS (T:dM K mg t):bh P w K mg base cZ 1 t.a_Q18 t.d_Q18 ["_law_plan_here", "_law_number"] (kl K):=by
 refine T.F_Q18.ok nL (fun vs H Q E h=>?_) (fun cdv A outer s H vs Q E hr h=>?_)
 ·obtain⟨_,_,_,rfl,_⟩:=h;rfl
 obtain⟨v,pl,k,rfl,⟨p,xs,rfl,hS,al⟩,l24,wd,kk⟩:=h
 refine cM.ok (aj (cn 2 nL.nd (bH ag))
   (aj (bX PassesOwn.never rfl (bK rfl T.z_range (ad (ar aC (by rfl) T.z_len boot_len (ad (qv 0) ag af)) ag ax)) (ay (i:=3) nL.nd rfl (by first | exact Or.inl rfl | exact Or.inr rfl))
   (am (fY (l9 PySem.F.plainAttrs_list PySem.F.slot_list_extend PySem.F.type_list_extend qw (qv 2) (ad (bC (N':=["_law_place", "_law_t", "_law_number", "_law_plan_here"]) (src:=[none,some 3,some 1,some 0]) rfl (by exact (bK rfl T.z_range (ad (ar aC (by rfl) T.z_len boot_len (ad (bP av (qv 0) (qv 3) (fun _ _=>rfl)) ag aG)) ag ax))) (fun _ _ _ _ _=>(by exact (by exact ay (i:=0) (by show List.Nodup (["_law_place", "_law_t", "_law_number", "_law_plan_here"]:List Str);decide +kernel) (by exact rfl) (by first | exact Or.inl rfl | exact Or.inr rfl)))) (fun _ _ _ _ _=>(d9 (aE cS (by exact (bP (bj (K:=K) (by exact rfl)) (by exact (bP (bj (K:=K) (by exact rfl)) (by exact (bP (bj (K:=K) (by exact rfl)) (by exact (qv 3)) (by exact (qv 1)) (by exact fun _ _=>rfl))) (by exact (qv 0)) (by exact fun _ _=>rfl))) ah (by exact fun _ _=>rfl))) (by exact (qv 2)) (aK _)))) (fun _ _ _ _ _=>(by exact (by exact (aP (ad (by exact (qv 1)) (ad (by exact (qv 0)) ag af) af))))) (by exact⟨rfl,rfl,rfl,rfl,⟨rfl,rfl,rfl,rfl,⟨rfl,rfl,rfl,rfl,trivial⟩⟩⟩) rfl (by decide +kernel) rfl (by decide +kernel) (by exact aY rfl ⟨rfl,⟨rfl,⟨rfl,trivial⟩⟩⟩)) ag cN)))))
   (am (aD (qv 2))))) ?_
 extract_lets +lift
 try dsimp -zeta -zetaDelta only [Cx.nox,Cx.wish,bx]
 have len:=al.len
 refine⟨rB,fun l hl=>?_⟩
 have nl:∀ b o,H b=some o->b≠l:=fun b o q=>aM q hl
 have s0:=ak hl (.lst [])
 refine⟨_,rfl,p,_,rfl,.inr (aI.same s0 _ _ hS),_,rfl,by omega,by omega,cL (lo:=0) (n:=xs.length) (fun i σ H'=>∃ (x3:Option V) (ys:List V),σ=[some (.ref p),some (.int (k:Nat)),some (.ref l),x3]/\aA H H'/\H' l=some (.lst ys)/\cv (rE K H') ys (bO (pl.take i) k)) ⟨none,[],rfl,s0,ai,.nil⟩ ?_ ?_⟩
 ·rintro i σ H1 hi ⟨x3,ys,rfl,sm,hl1,al1⟩
  rw [Int.zero_add]
  obtain⟨x,hx⟩:∃ x,xs[i]?=some x:=⟨_,List.getElem?_eq_getElem hi⟩
  obtain⟨t,ht,tv⟩:=al.at hx
  have t1:=aI.same (K:=K) sm
  obtain⟨pt,zs,rfl,hSt,alt⟩:=tv.mono t1
  have lt:=wd t (List.mem_of_getElem? ht)
  have lz:=alt.len
  have hS1:=t1 _ _ hS
  refine⟨_,rfl,.inl ⟨rfl,_,aQ.of hl1⟩,_,rfl,_,rfl,p,_,_,_,rfl,rfl,hS1,aN hx,pt,_,rfl,.inr hSt,_,rfl,by omega,by omega,fun D hD=>mX (K:=K) (P:=rE K) (p:=fun j=>decide ((t.getD j gS).1=(k:Int))) (f:=fun j:Nat=>((i:Int),(j:Int))) (fun _ _ _ _ t z=>z.mono t) hD (by omega) (fun j H' hj s' R E kR kE=>?_) fun H2 us s2 h2 al2=>?_⟩
  ·rw [Int.zero_add]
   have hj':j < zs.length:=by omega
   obtain⟨y,hy⟩:∃ y,zs[j]?=some y:=⟨_,List.getElem?_eq_getElem hj'⟩
   obtain⟨c,hc,pv⟩:=alt.at hy
   rw [cm gS hc] at kR kE
   have t':=aI.same (K:=K) s'
   obtain⟨pc,z,rfl,hSc,_⟩:=pv.mono t'
   refine⟨dz.set rfl,_,rfl,_,rfl,p,_,_,_,rfl,rfl,t' _ _ hS1,aN hx,_,rfl,pt,_,_,_,rfl,rfl,t' _ _ hSt,aN hy,pc,_,_,_,rfl,rfl,hSc,rfl,_,rfl,rfl,_,rfl,?_⟩
   by_cases ce:c.1=(k:Int)
   ·refine cr (by rw [ce]) ⟨_,rfl,_,rfl,dJ,fun q hq=>?_⟩
    exact kR (decide_eq_true ce) _ _ (ak hq _) ⟨q,rfl,aV.of ai⟩
   ·exact cu (fun z=>ce (by injection z)) (kE (decide_eq_false ce) _ (aA.refl _))
  have e2:(((List.range (zs.length:Int).toNat).filter fun j=>decide ((t.getD j gS).1=(k:Int))).map fun j:Nat=>((i:Int),(j:Int)))=BO i t k:=by
   unfold BO
   rw [show (zs.length:Int).toNat=t.length by omega]
  rw [e2] at al2
  have hl2:=s2 _ _ hl1
  have ly:ys.length≤360:=by
   rw [al1.len]
   refine Nat.le_trans (pX k fun t ht=>wd t (List.mem_of_mem_take ht)) ?_
   rw [List.length_take];omega
  have lu:us.length≤15:=by
   rw [al2.len]
   unfold BO
   rw [List.length_map]
   exact Nat.le_trans (List.length_filter_le _ _) (by rw [List.length_range];omega)
  refine⟨l,D,ys,us,rfl,rfl,hl2,h2,Nat.le_trans (show ys.length+us.length≤1000 by omega) (by decide),?_⟩
  have tm:=aI.up (K:=K) hl2 (ys++us)
  refine⟨_,ys++us,rfl,fun b o q=>?_,ai,?_⟩
  ·rw [aw (nl b o q)]
   exact s2 _ _ (sm _ _ q)
  ·have tk:pl.take (i+1)=pl.take i++[t]:=by rw [List.take_add_one,ht];rfl
   rw [tk,nE,show (pl.take i).length=i by rw [List.length_take];omega]
   exact (al1.mono fun _ _ z=>(z.mono (aI.same s2)).mono tm).join (al2.mono fun _ _ z=>z.mono tm)
 ·rintro σ H1 ⟨x3,ys,rfl,sm,hl1,al1⟩
  rw [len,List.take_length] at al1
  exact⟨_,rfl,kk l ys H1 sm hl1 al1⟩
theorem AF (T:dM K mg t):bh P w K mg base cZ 2 t.a_Q10 t.d_Q10 ["_law_tape_here", "_law_works_here", "_law_plan_here"] (iF K):=by
 refine T.F_Q10.ok iK (fun vs H Q E h=>?_) (fun cdv A outer s H vs Q E hr h=>?_)
 ·obtain⟨_,_,_,_,_,_,rfl,_⟩:=h;rfl
 obtain⟨t₁,s₀,v,x,ws,pl,rfl,T0,hw,n12,hp,ok,k⟩:=h
 refine cM.ok (aj (cn 3 iK.nd (bH ag))
   (aj (bX PassesOwn.never rfl (bK rfl T.z_range (ad (aB eP (bI (bb T) hr T.m_Q27 T.F_Q27.kp T.b_Q27 (ad (qv 0) (ad ah ag aq) af)) (bJ rc (by rfl) T.z_int boot_int (ad (dC gX (ar aC (by rfl) T.z_len boot_len (ad (qv 1) ag af)) ah (aK _)) ag se))) ag aJ)) (ay (i:=4) iK.nd rfl (by first | exact Or.inl rfl | exact Or.inr rfl))
   (aj (cn 5 iK.nd (bI (bb T) hr T.m_Q27 T.F_Q27.kp T.b_Q27 (ad (qv 0) (ad (ar aC (by rfl) T.z_len boot_len (ad (qv 1) ag af)) ag ax) af)))
   (aj (cn 6 iK.nd (aB dk (aB bg (aB bg (qv 5) ah) (bI (bb T) hr T.m_Q27 T.F_Q27.kp T.b_Q27 (ad (qv 0) (ad (aB kI (ar aC (by rfl) T.z_len boot_len (ad (qv 1) ag af)) ah) ag aJ) af))) (ar aC (by rfl) T.z_len boot_len (ad (qv 1) ag af))))
   (am (be (aE (Ak hr) (bv aX (bI (iS T) hr T.m_Q18 T.F_Q18.kp T.b_Q18 (ad (qv 2) (ad (qv 5) ag af) af)) (gR d6 ah)) (bv aX (bI (iS T) hr T.m_Q18 T.F_Q18.kp T.b_Q18 (ad (qv 2) (ad (qv 6) ag af) af)) ah) (aK _)) (am (fY (l9 PySem.F.plainAttrs_list PySem.F.slot_list_append PySem.F.type_list_append gz (qv 3) (ad (aP (ad (qv 5) (ad (qv 6) ag af) af)) ag aZ)))) aO)))))
   (am (aD (bJ bV (by rfl) T.z_tuple boot_tuple (ad (qv 3) ag af)))))) ?_
 extract_lets +lift
 try dsimp -zeta -zetaDelta only [Cx.nox,Cx.wish,bx]
 obtain⟨pw,xw,rfl,hSw,alw⟩:=id hw
 have lw:=alw.len
 refine⟨rB,fun l hl=>?_⟩
 have s0:=ak hl (.lst [])
 have nlt:l≠t₁:=fun z=>by subst z;obtain⟨_,e⟩:=T0.lst;rw [hl] at e;cases e
 have nls:l≠s₀:=fun z=>by subst z;obtain⟨_,e⟩:=T0.scr;rw [hl] at e;cases e
 have nin:∀ b o,H b=some o->b≠l:=fun b o q=>aM q hl
 have T1:=T0.same s0
 refine⟨_,rfl,t₁,s₀,8,rfl,T1,by decide,by decide,fun r1 x1 a1 b1 T2=>?_⟩
 have S2:Step t₁ H (upd (upd H l (.lst [])) t₁ (.lst x1)):=(Step.same s0 T0.lst).trans (Step.up (ys:=x1) T1.lst.choose_spec)
 have hl2:(upd (upd H l (.lst [])) t₁ (.lst x1)) l=some (.lst []):=by rw [aw nlt];exact ai
 generalize (upd (upd H l (.lst [])) t₁ (.lst x1))=H2 at S2 hl2 T2 ⊢
 refine⟨_,rfl,pw,_,rfl,.inr (aI.step (K:=K) S2 _ _ hSw),_,_,rfl,rfl,.inr ⟨_,rfl,?_⟩⟩
 refine⟨_,_,rfl,rfl,.inl ⟨by omega,by omega⟩,?_⟩
 obtain⟨m,hm⟩:∃ m:Int,m=r1 * (if decide ((xw.length:Int) > 1)=true then 1 else 0):=⟨_,rfl⟩
 have cases_:(1 < ws.length/\m=r1)∨m=0:=by
  by_cases c:(xw.length:Int) > 1
  ·exact .inl ⟨by omega,by rw [hm,if_pos (decide_eq_true c),Int.mul_one]⟩
  ·exact .inr (by rw [hm,if_neg (by rw [decide_eq_false c];exact Bool.false_ne_true),Int.mul_zero])
 have m0:0≤m/\m < 8:=by rcases cases_ with c | c <;> omega
 refine⟨m,(by subst hm;rfl),by omega,by omega,cL (lo:=0) (n:=m.toNat) (fun i σ H'=>∃ (x4 x5 x6:Option V) (ys:List V) (ls:List Ln),σ=[some (.ref t₁),some (.ref pw),some x,some (.ref l),x4,x5,x6]/\bE H' t₁ s₀/\(∀ b o,b≠t₁->H b=some o->H' b=some o)/\H' l=some (.lst ys)/\cv (yD K H') ys ls/\ls.length≤i/\∀ e∈ls,e.1 < ws.length/\e.2 < ws.length/\e.1≠e.2) ⟨none,none,none,[],[],rfl,T2,S2.keep,hl2,.nil,Nat.le_refl _,fun e he=>by cases he⟩ ?_ ?_⟩
 ·rintro i σ H3 hi ⟨x4,x5,x6,ys,ls,rfl,T3,kp,hl3,al3,le3,ok3⟩
  have n2:1 < ws.length:=by rcases cases_ with c | c <;> omega
  have S3:Step t₁ H H3:=⟨kp,T0.lst,T3.lst⟩
  refine⟨_,rfl,_,rfl,pw,_,rfl,.inr (aI.step (K:=K) S3 _ _ hSw),t₁,s₀,_,rfl,T3,by omega,by omega,fun r2 y2 a2 b2 T4=>?_⟩
  have S4:=S3.trans (Step.up (ys:=y2) T3.lst.choose_spec)
  have hl4:(upd H3 t₁ (.lst y2)) l=some (.lst ys):=by rw [aw nlt];exact hl3
  have al4:=al3.mono fun _ _ z=>z.mono (aI.step (K:=K) (Step.up (ys:=y2) T3.lst.choose_spec))
  generalize upd H3 t₁ (.lst y2)=H4 at S4 hl4 T4 al4 ⊢
  refine⟨_,rfl,_,_,rfl,rfl,_,rfl,_,rfl,pw,_,rfl,.inr (aI.step (K:=K) S4 _ _ hSw),_,_,rfl,rfl,t₁,s₀,_,rfl,T4,by omega,by omega,fun r3 y3 a3 b3 T5=>⟨_,_,rfl,rfl,?_⟩⟩
  have S5:=S4.trans (Step.up (ys:=y3) T4.lst.choose_spec)
  have hl5:(upd H4 t₁ (.lst y3)) l=some (.lst ys):=by rw [aw nlt];exact hl4
  have al5:=al4.mono fun _ _ z=>z.mono (aI.step (K:=K) (Step.up (ys:=y3) T4.lst.choose_spec))
  generalize upd H4 t₁ (.lst y3)=H5 at S5 hl5 T5 al5 ⊢
  have t5:=aI.step (K:=K) S5
  refine⟨_,rfl,pw,_,rfl,.inr (t5 _ _ hSw),_,_,rfl,rfl,by omega,?_⟩
  obtain⟨one,rfl⟩:=Int.eq_ofNat_of_zero_le a2
  obtain⟨dd,rfl⟩:=Int.eq_ofNat_of_zero_le a3
  obtain⟨other,ho,o1,o2⟩:∃ other:Nat,((one:Int)+1+(dd:Int)) % (xw.length:Int)=(other:Int)/\other < ws.length/\one≠other:=by
   have n0:(0:Int) < (xw.length:Int):=by omega
   have e1:=Int.emod_nonneg ((one:Int)+1+(dd:Int)) (show (xw.length:Int)≠0 by omega)
   have e2:=Int.emod_lt_of_pos ((one:Int)+1+(dd:Int)) n0
   refine⟨(((one:Int)+1+(dd:Int)) % (xw.length:Int)).toNat,by omega,by omega,fun z=>?_⟩
   have e3:((one:Int)+1+(dd:Int)) % (xw.length:Int)=(one:Int):=by omega
   have e4:=Int.emod_add_mul_ediv ((one:Int)+1+(dd:Int)) (xw.length:Int)
   rw [e3] at e4
   have e5:(xw.length:Int) * (((one:Int)+1+(dd:Int)) / (xw.length:Int))=1+(dd:Int):=by omega
   have e6:0 < ((one:Int)+1+(dd:Int)) / (xw.length:Int):=by
    apply Classical.byContradiction
    intro nn
    have:=Int.mul_le_mul_of_nonneg_left (show ((one:Int)+1+(dd:Int)) / (xw.length:Int)≤0 by omega) (Int.le_of_lt n0)
    rw [Int.mul_zero] at this
    omega
   have:=Int.mul_le_mul_of_nonneg_left (show 1≤((one:Int)+1+(dd:Int)) / (xw.length:Int) by omega) (Int.le_of_lt n0)
   rw [Int.mul_one] at this
   omega
  rw [show (fun i j:Int=>V.int (i % j)) ((one:Int)+1+(dd:Int)) (xw.length:Int)=V.int (other:Nat) from congrArg V.int ho]
  have hp5:=hp.mono t5
  have wd:∀ t∈pl,t.length≤15:=fun t ht=>Nat.le_trans (ok.wd t ht) (by decide)
  have one':one < ws.length:=by omega
  refine⟨_,rfl,_,rfl,x,pl,one,rfl,hp5,by rw [ok.len];decide,wd,fun la xa H6 s6 ha aa=>?_⟩
  have na:=mJ (ok.has one one')
  have nb:=mJ (ok.has other o1)
  have lxa:=aa.len
  obtain⟨va,hva⟩:∃ va,xa[xa.length - 1]?=some va:=⟨_,List.getElem?_eq_getElem (by omega)⟩
  obtain⟨qa,hqa,pva⟩:=aa.at hva
  refine⟨_,rfl,la,_,_,_,rfl,rfl,aQ.of ha,(by rw [hJ (by omega)];exact hva),?_⟩
  refine⟨_,rfl,_,rfl,x,pl,other,rfl,hp5.mono (aI.same s6),by rw [ok.len];decide,wd,fun lb xb H7 s7 hb ab=>?_⟩
  have lxb:=ab.len
  obtain⟨vb,hvb⟩:∃ vb,xb[0]?=some vb:=⟨_,List.getElem?_eq_getElem (by omega)⟩
  obtain⟨qb,hqb,pvb⟩:=ab.at hvb
  refine⟨lb,_,_,_,rfl,rfl,aQ.of hb,aN hvb,qa,qb,pva.mono (aI.same s7),pvb,_,rfl,?_⟩
  have s57:=s6.trans s7
  have T7:=T5.same s57
  have hl7:=s57 _ _ hl5
  have al7:=al5.mono fun _ _ z=>z.mono (aI.same s57)
  have S7:=S5.trans (Step.same s57 T5.lst)
  clear hp5 s6 s7 s57 ha hb aa ab pva pvb
  cases iq qa qb with
  | false=>exact cC ⟨_,_,_,ys,ls,rfl,T7,S7.keep,hl7,al7,by omega,ok3⟩
  | true=>
   refine bM ⟨_,rfl,.inl ⟨rfl,_,aQ.of hl7⟩,_,rfl,_,rfl,dJ,fun p8 h8=>?_⟩
   have s8:=ak h8 (.tup [.int (one:Nat),.int (other:Nat)])
   have hl8:=s8 _ _ hl7
   have lys:ys.length≤8:=by rw [al3.len];omega
   refine⟨l,ys,_,rfl,rfl,hl8,bA (by omega),?_⟩
   have tm:=aI.up (K:=K) hl8 (ys++[.ref p8])
   refine⟨_,_,_,ys++[.ref p8],ls++[(one,other)],rfl,(T7.same s8).upl nlt nls _,fun b o nb q=>?_,ai,?_,by rw [List.length_append];exact Nat.succ_le_succ le3,fun e he=>?_⟩
   ·rw [aw (nin b o q)]
    exact s8 _ _ (S7.keep b o nb q)
   ·exact (al7.mono fun _ _ z=>(z.mono (aI.same s8)).mono tm).snoc (yD.mono ⟨p8,rfl,aV.of ai⟩ tm)
   ·rcases List.mem_append.mp he with h | h
    ·exact ok3 e h
    ·rw [List.mem_singleton.mp h];exact⟨one',o1,o2⟩
 ·rintro σ H3 ⟨x4,x5,x6,ys,ls,rfl,T3,kp,hl3,al3,le3,ok3⟩
  refine⟨_,rfl,l,ys,rfl,.inl ⟨aQ.of hl3,fun p1 g1=>?_⟩⟩
  have e1:=ak g1 (.tup ys)
  exact k _ ls _ ⟨fun b o nb q=>e1 _ _ (kp b o nb q),T0.lst,(T3.same e1).lst⟩ (T3.same e1) ⟨p1,ys,rfl,aV.of ai,al3.mono fun _ _ z=>z.mono (aI.same e1)⟩ (by omega) ok3
theorem nW (T:dM K mg t):bh P w K mg base cZ 1 t.a_Q19 t.d_Q19 ["_law_thing"] (ki K):=by
 refine T.F_Q19.ok zb (fun vs H Q E h=>?_) (fun cdv A outer s H vs Q E hr h=>?_)
 ·obtain⟨_,_,rfl,_⟩:=h;rfl
 obtain⟨v,d,rfl,hD,k⟩:=h
 obtain⟨b,c,e1,e2,e3⟩:=o8 hD
 refine cM.ok (am (aD (dj (ar bW (by rfl) T.z_isinstance boot_isinstance (ad (qv 0) (ad (ck (v:=V.ty "int") rfl T.z_int boot_int rfl) ag af) af)) (eh (tJ (ar bW (by rfl) T.z_isinstance boot_isinstance (ad (qv 0) (ad (ck (v:=V.ty "bool") rfl T.z_bool boot_bool rfl) ag af) af))))))) ?_
 extract_lets +lift
 try dsimp -zeta -zetaDelta only [Cx.nox,Cx.wish,bx]
 rw [e3] at k
 refine⟨_,rfl,_,_,_,_,rfl,hD,e1,_,rfl,?_⟩
 cases b with
 | false=>exact k
 | true=>exact⟨_,rfl,_,_,_,_,rfl,hD,e2,_,rfl,k⟩
theorem Cy (T:dM K mg t):bh P w K mg base cZ 2 t.a_Q8 t.d_Q8 ["_law_thing", "_law_many"] (hV K):=by
 refine T.F_Q8.ok yb (fun vs H Q E h=>?_) (fun cdv A outer s H vs Q E hr h=>?_)
 ·obtain⟨_,_,_,rfl,_⟩:=h;rfl
 obtain⟨v,d,m,rfl,hD,k⟩:=h
 refine cM.ok (aj (be (fx (dA (cF (cf (ar bW (by rfl) T.z_isinstance boot_isinstance (ad (qv 0) (ad (ck (v:=V.ty "tuple") rfl T.z_tuple boot_tuple rfl) ag af) af)))) (dA (aE gU (ar aC (by rfl) T.z_len boot_len (ad (qv 0) ag af)) ah (aK _)) (dA (cF (cf (bI (nW T) hr T.m_Q19 T.F_Q19.kp T.b_Q19 (ad (bv av (qv 0) ah) ag aG)))) (fH (cF (tD oV eQ ah (bv av (qv 0) ah) (qv 1)))))))) (am (aD di)) aO)
   (aj (cn 2 yb.nd (bv av (qv 0) ah))
   (aj (be (fx (dA (cF (cf (ar bW (by rfl) T.z_isinstance boot_isinstance (ad (qv 2) (ad (ck (v:=V.ty "tuple") rfl T.z_tuple boot_tuple rfl) ag af) af)))) (dA (aE gU (ar aC (by rfl) T.z_len boot_len (ad (qv 2) ag af)) ah (aK _)) (dA (cF (cf (bI (nW T) hr T.m_Q19 T.F_Q19.kp T.b_Q19 (ad (bv av (qv 2) ah) ag aG)))) (fH (cF (cf (bI (nW T) hr T.m_Q19 T.F_Q19.kp T.b_Q19 (ad (bv av (qv 2) ah) ag aG))))))))) (am (aD di)) aO)
   (am (aD (dj (dC gX (bv av (qv 2) ah) ah (aK _)) (dj (dC gX (bv av (qv 2) ah) ah (aK _)) (eh (dC cS (bI (uy T) hr T.m_Q34 T.F_Q34.kp T.b_Q34 (ad (bv av (qv 2) ah) (ad (bv av (qv 2) ah) ag aG) aG)) ah (aK _)))))))))) ?_
 extract_lets +lift
 try dsimp -zeta -zetaDelta only [Cx.nox,Cx.wish,bx]
 have no2:fS 2 d=false->Q (.bl false) H:=fun c=>by
  have e:br m d=false:=by
   cases d with
   | tuple ds=>match ds,c with
    | [],_=>rfl
    | [_],_=>rfl
    | [_,_],c=>cases c
    | _ :: _ :: _ :: _,_=>rfl
   | _=>rfl
  rw [e] at k
  exact k
 rcases fk hD with ⟨e,p,xs,ds,rfl,rfl,hS,hA⟩ | ⟨e,no⟩
 rotate_left
 ·exact⟨_,rfl,_,_,_,_,rfl,hD,e,_,rfl,bM (bM (no2 (by cases d with | tuple ds=>exact absurd rfl (no _) | _=>rfl)))⟩
 refine⟨_,rfl,_,_,_,_,rfl,hD,e,_,rfl,cC ?_⟩
 have len:=hA.len
 refine⟨_,rfl,p,_,rfl,.inr hS,rfl,_,rfl,?_⟩
 by_cases c2:ds.length=2
 rotate_left
 ·exact jP (fun z=>c2 (by rw [len] at z;injection z with z;omega)) (bM (no2 (decide_eq_false c2)))
 refine g0 (by rw [len,c2];rfl) ?_
 obtain⟨q,x,y,dx,dy,eq,ed,hS2,hx,hy⟩:=hD.two (show fS 2 (.tuple ds)=true from decide_eq_true c2)
 cases eq
 cases ed
 have km:Q (.bl (ib m dx && bY dy)) H:=k
 refine⟨_,rfl,p,_,_,_,rfl,rfl,hS2,rfl,x,dx,rfl,hx,_,rfl,?_⟩
 cases cw:cV dx with
 | false=>
  rw [oY cw,Bool.false_and] at km
  exact bM (bM km)
 | true=>
 refine cC ?_
 obtain⟨i,rfl⟩:=cJ cw
 cases hx
 refine⟨_,rfl,p,_,_,_,rfl,rfl,hS2,rfl,_,_,rfl,rfl,_,rfl,?_⟩
 by_cases c0:0≤i
 rotate_left
 ·rw [show ib m (.int i)=false by show (decide (0≤i) && _)=false;rw [decide_eq_false c0];rfl,Bool.false_and] at km
  exact cu c0 ⟨_,rfl,bM km⟩
 refine cr c0 ?_
 refine⟨_,rfl,_,_,rfl,rfl,_,rfl,?_⟩
 by_cases c1:i < m
 rotate_left
 ·rw [show ib m (.int i)=false by show (decide (0≤i) && decide (i < m))=false;rw [decide_eq_false c1,Bool.and_false],Bool.false_and] at km
  exact jP c1 km
 rw [show ib m (.int i)=true by show (decide (0≤i) && decide (i < m))=true;rw [decide_eq_true c0,decide_eq_true c1];rfl,Bool.true_and] at km
 rw [decide_eq_true c1]
 refine cC ?_
 refine⟨_,rfl,p,_,_,_,rfl,rfl,hS2,rfl,?_⟩
 have nr:eG dy=false->Q (.bl false) H:=fun c=>by rw [j8 c] at km;exact km
 rcases fk hy with ⟨e',p',xs',ds',rfl,rfl,hS',hA'⟩ | ⟨e',no'⟩
 rotate_left
 ·exact⟨_,rfl,_,_,_,_,rfl,hy,e',_,rfl,bM (bM (nr (by cases dy with | tuple ds=>exact absurd rfl (no' _) | _=>rfl)))⟩
 refine⟨_,rfl,_,_,_,_,rfl,hy,e',_,rfl,cC ?_⟩
 have len':=hA'.len
 refine⟨_,rfl,p',_,rfl,.inr hS',rfl,_,rfl,?_⟩
 by_cases c3:ds'.length=2
 rotate_left
 ·exact jP (fun z=>c3 (by rw [len'] at z;injection z with z;omega)) (bM (nr (vO c3)))
 refine g0 (by rw [len',c3];rfl) ?_
 obtain⟨q',x',y',dx',dy',eq',ed',hS3,hx',hy'⟩:=hy.two (show fS 2 (.tuple ds')=true from decide_eq_true c3)
 cases eq'
 cases ed'
 refine⟨_,rfl,p',_,_,_,rfl,rfl,hS3,rfl,x',dx',rfl,hx',_,rfl,?_⟩
 cases cx:cV dx' with
 | false=>exact bM (bM (nr (yh cx)))
 | true=>
 refine cC ?_
 refine⟨_,rfl,p',_,_,_,rfl,rfl,hS3,rfl,y',dy',rfl,hy',_,rfl,?_⟩
 cases cy:cV dy' with
 | false=>exact bM (nr (yg cy))
 | true=>
 refine cC ?_
 obtain⟨a,rfl⟩:=cJ cx
 obtain⟨b,rfl⟩:=cJ cy
 cases hx'
 cases hy'
 have kf:Q (.bl ((decide (1≤b) && decide (Int.gcd a b=1)) && decide (0 < a))) H:=km
 refine⟨_,rfl,p',_,_,_,rfl,rfl,hS3,rfl,_,_,rfl,rfl,_,rfl,?_⟩
 by_cases ca:a > 0
 rotate_left
 ·rw [decide_eq_false (show ¬ 0 < a from ca),Bool.and_false] at kf
  exact cu ca kf
 rw [decide_eq_true (show 0 < a from ca),Bool.and_true] at kf
 refine cr ca ?_
 refine⟨_,rfl,p',_,_,_,rfl,rfl,hS3,rfl,_,_,rfl,rfl,_,rfl,?_⟩
 by_cases cb:b > 0
 rotate_left
 ·rw [decide_eq_false (show ¬ 1≤b by omega),Bool.false_and] at kf
  exact cu cb kf
 rw [decide_eq_true (show 1≤b by omega),Bool.true_and] at kf
 refine cr cb ?_
 refine⟨_,rfl,p',_,_,_,rfl,rfl,hS3,rfl,_,rfl,p',_,_,_,rfl,rfl,hS3,rfl,a,b,rfl,by omega,by omega,rfl,?_⟩
 dsimp only
 rw [show decide (V.int ((Int.gcd a b:Nat):Int)=V.int 1)=decide (Int.gcd a b=1) from decide_eq_decide.mpr ⟨fun z=>by injection z with z;omega,fun z=>by rw [z];rfl⟩]
 exact kf
theorem ux (T:dM K mg t):bh P w K mg base cZ 5 t.a_Q36 t.d_Q36 ["_law_sheet", "_law_thing"] (iG K):=by
 refine T.F_Q36.ok eL (fun vs H Q E h=>?_) (fun cdv A outer s H vs Q E hr h=>?_)
 ·obtain⟨_,_,_,_,_,rfl,_⟩:=h;rfl
 obtain⟨v,x,ws,ls,d,rfl,hv,ok,hx,thg,k⟩:=h
 refine cM.ok (aj (fJ (qv 0) (ef rfl (aR (ay (i:=2) eL.nd rfl (by first | exact Or.inl rfl | exact Or.inr rfl)) (aR (ay (i:=3) eL.nd rfl (by first | exact Or.inl rfl | exact Or.inr rfl)) bZ))))
   (aj (be (fx (dA (cF (cf (ar bW (by rfl) T.z_isinstance boot_isinstance (ad (qv 1) (ad (ck (v:=V.ty "tuple") rfl T.z_tuple boot_tuple rfl) ag af) af)))) (dA (aE gU (ar aC (by rfl) T.z_len boot_len (ad (qv 1) ag af)) ah (aK _)) (fH (aE (ut hr) di (bC (N':=["_law_turn"]) (src:=[none]) rfl (by exact (dH (qv 1))) (fun _ _ _ _ _=>(by exact (by exact ay (i:=0) (by show List.Nodup (["_law_turn"]:List Str);decide +kernel) (by exact rfl) (by first | exact Or.inl rfl | exact Or.inr rfl)))) (fun _ _ _ _ _=>bQ) (fun _ _ _ _ _=>(by exact (by exact (ar (oq (K:=K) (by exact rfl)) (by exact rfl) T.z_isinstance boot_isinstance (ad (by exact (qv 0)) (ad (by exact (ck (v:=V.ty "tuple") rfl T.z_tuple boot_tuple rfl)) ag af) af))))) (by exact trivial) rfl (by decide +kernel) rfl (by decide +kernel) (by exact aY rfl trivial)) (by with_unfolding_all rfl)))))) (am (aD (aP (ad dh (ad (gR d6 ah) ag im) aq)))) aO)
   (aj (bX PassesOwn.never rfl (dH (qv 1)) (ay (i:=4) eL.nd rfl (by first | exact Or.inl rfl | exact Or.inr rfl))
   (am (be (aE (ut hr) di (bC (N':=["_law_piece", "_law_works_here"]) (src:=[none,some 2]) rfl (by exact (dH (qv 4))) (fun _ _ _ _ _=>(by exact (by exact ay (i:=0) (by show List.Nodup (["_law_piece", "_law_works_here"]:List Str);decide +kernel) (by exact rfl) (by first | exact Or.inl rfl | exact Or.inr rfl)))) (fun _ _ _ _ _=>bQ) (fun _ _ _ _ _=>(by exact (by exact (c6 (Cy T) (by exact hr.mono (by decide)) (by exact rfl) T.m_Q8 T.F_Q8.kp T.b_Q8 (by exact .nil) (by exact gT) (ad (by exact (qv 0)) (ad (by exact (ar (qY (K:=K) (by exact rfl)) (by exact rfl) T.z_len boot_len (ad (by exact (qv 1)) ag af))) ag ax) af))))) (by exact⟨rfl,rfl,rfl,rfl,trivial⟩) rfl (by decide +kernel) rfl (by decide +kernel) (by exact aY rfl ⟨rfl,trivial⟩)) (by with_unfolding_all rfl)) (am (aD (aP (ad dh (ad (gR d6 ah) ag im) aq)))) aO)))
   (aj (bX PassesOwn.never rfl (bK rfl T.z_range (ad ah ag aq)) (ay (i:=5) eL.nd rfl (by first | exact Or.inl rfl | exact Or.inr rfl))
   (aj (cn 6 eL.nd (bC (N':=["_law_piece"]) (src:=[none]) rfl (by exact (dH (bP av (qv 1) (qv 5) (fun _ _=>rfl)))) (fun _ _ _ _ _=>(by exact (by exact ay (i:=0) (by show List.Nodup (["_law_piece"]:List Str);decide +kernel) (by exact rfl) (by first | exact Or.inl rfl | exact Or.inr rfl)))) (fun _ _ _ _ _=>bQ) (fun _ _ _ _ _=>(by exact (by exact (bP (bj (K:=K) (by exact rfl)) (by exact (qv 0)) ah (by exact fun _ _=>rfl))))) (by exact trivial) rfl (by decide +kernel) rfl (by decide +kernel) (by exact aY rfl trivial)))
   (am (be (aE (iQ hr) (bC (N':=["_law_n", "_law_t", "_law_numbers", "_law_works_here"]) (src:=[none,some 5,some 6,some 2]) rfl (by exact (dB (qv 6))) (fun _ _ _ _ _=>(by exact (by exact ay (i:=0) (by show List.Nodup (["_law_n", "_law_t", "_law_numbers", "_law_works_here"]:List Str);decide +kernel) (by exact rfl) (by first | exact Or.inl rfl | exact Or.inr rfl)))) (fun _ _ _ _ _=>(d9 (fx (dA (aE gX (by exact (zG (K:=K) (by exact rfl) PySem.F.plainAttrs_list PySem.F.slot_list_count PySem.F.type_list_count (n4 (K:=K) (by exact rfl)) (by exact (qv 2)) (ad (by exact (qv 0)) ag af))) ah (aK _)) (dA (aE eQ (by exact (qv 1)) (by exact (bP (bj (K:=K) (by exact rfl)) (by exact (bP (bj (K:=K) (by exact rfl)) (by exact (qv 3)) (by exact (qv 0)) (by exact fun _ _=>rfl))) ah (by exact fun _ _=>rfl))) (aK _)) (fH (aE gX (by exact (qv 1)) (by exact (bP (bj (K:=K) (by exact rfl)) (by exact (bP (bj (K:=K) (by exact rfl)) (by exact (qv 3)) (by exact (qv 0)) (by exact fun _ _=>rfl))) ah (by exact fun _ _=>rfl))) (aK _)))))))) (fun _ _ _ _ _=>(by exact (by exact (qv 0)))) (by exact⟨rfl,rfl,rfl,rfl,⟨rfl,rfl,rfl,rfl,⟨rfl,rfl,rfl,rfl,trivial⟩⟩⟩) rfl (by decide +kernel) rfl (by decide +kernel) (by exact aY rfl ⟨rfl,⟨rfl,⟨rfl,trivial⟩⟩⟩)) (bH ag) (aK _)) (am (aD (aP (ad dh (ad (qv 5) ag af) aq)))) aO))))
   (aj (bX PassesOwn.never rfl (bK rfl T.z_range (ad (ar aC (by rfl) T.z_len boot_len (ad (qv 2) ag af)) ag ax)) (ay (i:=7) eL.nd rfl (by first | exact Or.inl rfl | exact Or.inr rfl))
   (am (be (aE (iQ hr) (bI (As T) hr T.m_Q35 T.F_Q35.kp T.b_Q35 (ad (bC (N':=["_law_t", "_law_place", "_law_thing"]) (src:=[none,none,some 1]) rfl (by exact (dB (bI (iS T) hr T.m_Q18 T.F_Q18.kp T.b_Q18 (ad (qv 1) (ad (qv 7) ag af) af)))) (fun _ _ _ _ _=>(by exact (by exact fZ (K:=K) (n:=2) (by exact rfl) (by exact rfl) (by exact aR (by exact ay (i:=0) (by show List.Nodup (["_law_t", "_law_place", "_law_thing"]:List Str);decide +kernel) (by exact rfl) (by first | exact Or.inl rfl | exact Or.inr rfl)) (by exact aR (by exact ay (i:=1) (by show List.Nodup (["_law_t", "_law_place", "_law_thing"]:List Str);decide +kernel) (by exact rfl) (by first | exact Or.inl rfl | exact Or.inr rfl)) bZ))))) (fun _ _ _ _ _=>bQ) (fun _ _ _ _ _=>(by exact (by exact (bP (bj (K:=K) (by exact rfl)) (by exact (bP (bj (K:=K) (by exact rfl)) (by exact (bP (bj (K:=K) (by exact rfl)) (by exact (qv 2)) (by exact (qv 0)) (by exact fun _ _=>rfl))) (by exact (qv 1)) (by exact fun _ _=>rfl))) ah (by exact fun _ _=>rfl))))) (by exact⟨rfl,rfl,rfl,rfl,trivial⟩) rfl (by decide +kernel) rfl (by decide +kernel) (by exact aY rfl ⟨rfl,trivial⟩)) ag cN)) (bP av (bP av (qv 2) (qv 7) (fun _ _=>rfl)) ah (fun _ _=>rfl)) (aK _)) (am (aD (aP (ad dh (ad (qv 7) ag af) aq)))) aO)))
   (aj (bX PassesOwn.never rfl (bK rfl T.z_range (ad (ar aC (by rfl) T.z_len boot_len (ad (qv 3) ag af)) ag ax)) (ay (i:=7) eL.nd rfl (by first | exact Or.inl rfl | exact Or.inr rfl))
   (am (be (aE (Am hr) (ar (qW hr rfl) (by rfl) T.z_max boot_max (ad (bI (iS T) hr T.m_Q18 T.F_Q18.kp T.b_Q18 (ad (qv 1) (ad (bv av (bv av (qv 3) (qv 7)) ah) ag aG) af)) ag ax)) (ar (qV hr rfl) (by rfl) T.z_min boot_min (ad (bI (iS T) hr T.m_Q18 T.F_Q18.kp T.b_Q18 (ad (qv 1) (ad (bv av (bv av (qv 3) (qv 7)) ah) ag aG) af)) ag ax)) (aK _)) (am (aD (aP (ad dh (ad (qv 7) ag af) aq)))) aO)))
   (am (aD kD)))))))) ?_
 extract_lets +lift
 try dsimp -zeta -zetaDelta only [Cx.nox,Cx.wish,bx]
 obtain⟨ps,a,b,rfl,hS0,hw,hb⟩:=id hv
 obtain⟨pw,xw,rfl,hSw,alw⟩:=id hw
 obtain⟨pb,xb,rfl,hSb,alb⟩:=id hb
 have lw:=alw.len
 have lb:=alb.len
 have n12:=ok.n12
 refine⟨_,rfl,ps,_,rfl,hS0,rfl,_,_,rfl,_,_,rfl,rfl,?_⟩
 have nshape:cG ws.length d=false->∀ (H':Hp),aA H H'->∀ (p:Addr),H' p=none->Q (.ref p) (upd H' p (.tup [.str (Str.ofString "shape"),.int (-1)])):=fun c H' s' p hp=>by
  refine k _ _ (s'.trans (ak hp _)) ?_
  rw [jA c]
  exact .tup (aV.of ai) (.cons (.str _) (.cons (.int _) .nil))
 have RET:cG ws.length d=false->∀ (H':Hp),aA H H'->(2≤sizeLine/\∀ (p:Addr),H' p=none->Q (.ref p) (upd H' p (.tup [.str (Str.ofString "shape"),.int (-1)]))):=fun c H' s'=>⟨by decide,nshape c H' s'⟩
 rcases fk hx with ⟨e,p,xs,ds,rfl,rfl,hS,hA⟩ | ⟨e,no⟩
 rotate_left
 ·refine⟨_,rfl,_,_,_,_,rfl,hx,e,_,rfl,bM (bM ?_)⟩
  have c:cG ws.length d=false:=by
   unfold cG
   cases d with
   | tuple ds=>exact absurd rfl (no _)
   | _=>rfl
  exact⟨_,rfl,RET c _ (aA.refl _)⟩
 refine⟨_,rfl,_,_,_,_,rfl,hx,e,_,rfl,cC ?_⟩
 have len:=hA.len
 refine⟨_,rfl,p,_,rfl,.inr hS,rfl,_,rfl,?_⟩
 by_cases c24:ds.length=24
 rotate_left
 ·refine jP (fun z=>c24 (by rw [len] at z;injection z with z;omega)) (bM ?_)
  have c:cG ws.length (.tuple ds)=false:=by
   unfold cG
   rw [show fS 24 (.tuple ds)=false from decide_eq_false c24];rfl
  exact⟨_,rfl,RET c _ (aA.refl _)⟩
 refine g0 (by rw [len,c24];rfl) ?_
 have pe:cG ws.length (.tuple ds)=ds.all (cY ws.length):=by
  unfold cG
  rw [show fS 24 (.tuple ds)=true from decide_eq_true c24];rfl
 refine⟨_,rfl,p,rfl,⟨_,hS⟩,fun D hDn=>eB (ka hS) (fun _=>true) (fun i=>V.bl (wW (ds.getD i .none))) hDn (by omega) (fun i x H' hi s' hx R E kR kE=>?_) fun H1 s1 h1=>?_⟩
 ·have hil:i < ds.length:=by omega
  obtain⟨v,hv,dv⟩:=aH.atN hA (List.getElem?_eq_getElem hil)
  rw [hx] at hv
  cases hv
  rw [cm PyData.none (List.getElem?_eq_getElem hil)] at kR
  exact⟨dz.set rfl,_,rfl,_,_,_,_,rfl,dv.same s',wV dv,kR rfl _ (aA.refl _)⟩
 have e1:(((List.range xs.length).filter fun _=>true).map fun i=>V.bl (wW (ds.getD i .none)))=(ds.map wW).map V.bl:=by
  rw [List.filter_eq_self.mpr (fun _ _=>rfl),len,← mx ds wW .none,List.map_map]
  rfl
 rw [e1] at h1
 refine⟨D,_,_,.bool false,rfl,aQ.of h1,i8 K H1 _,mC _,.bl _,rfl,rfl,_,rfl,?_⟩
 rw [lh,mV]
 cases ct:ds.all wW with
 | false=>
  refine bM ?_
  have c:cG ws.length (.tuple ds)=false:=by
   rw [pe]
   cases z:ds.all (cY ws.length) with
   | false=>rfl
   | true=>
    have:ds.all wW=true:=List.all_eq_true.mpr fun t ht=>by
     have:=List.all_eq_true.mp z t ht
     cases t with
     | tuple _=>rfl
     | _=>cases this
    rw [this] at ct;cases ct
  exact⟨_,rfl,RET c _ s1⟩
 | true=>
 refine cC ?_
 have allT:=List.all_eq_true.mp ct
 have hS1:=aI.same (K:=K) s1 _ _ hS
 refine⟨_,rfl,p,rfl,⟨_,hS1⟩,k4 (K:=K) (a:=p) (xs:=xs) (fun i σ H'=>∃ (x4:Option V),σ=[some (.ref ps),some (.ref p),some (.ref pw),some (.ref pb),x4,none,none,none]/\aA H1 H'/\∀ (m:Nat) (t:PyData),m < i->ds[m]?=some t->cY ws.length t=true) ⟨none,rfl,aA.refl _,fun m t hm=>absurd hm (Nat.not_lt_zero _)⟩ (fun i σ H' _ ⟨_,_,sm,_⟩=>aI.same sm _ _ hS1) ?_ ?_⟩
 ·rintro i x σ H2 hx' ⟨x4,rfl,sm,gd⟩
  have il:=(List.getElem?_eq_some_iff.mp hx').1
  obtain⟨dt,hdt⟩:∃ t,ds[i]?=some t:=⟨_,List.getElem?_eq_getElem (by omega)⟩
  obtain⟨v,hv',dv0⟩:=aH.atN hA hdt
  rw [hx'] at hv'
  cases hv'
  have s12:=s1.trans sm
  have dv:=dv0.same s12
  have mdt:=List.mem_of_getElem? hdt
  have isTt:=allT dt mdt
  cases dv with
  | @tup pt zs es hSt hAt=>
   have le:=hAt.len
   have l15:es.length≤15:=(thg.tu _ mdt).wd
   refine⟨_,rfl,pt,rfl,⟨_,hSt⟩,fun D2 hD2=>eB (ka hSt) (fun _=>true) (fun j=>V.bl (br ws.length (es.getD j .none))) hD2 (by omega) (fun j y H' hj s' hy R E kR kE=>?_) fun H3 s3 h3=>?_⟩
   ·have hjl:j < es.length:=by omega
    obtain⟨v,hv,dv'⟩:=aH.atN hAt (List.getElem?_eq_getElem hjl)
    rw [hy] at hv
    cases hv
    rw [cm PyData.none (List.getElem?_eq_getElem hjl)] at kR
    refine⟨dz.set rfl,_,rfl,_,rfl,pw,_,rfl,.inr (aI.same (K:=K) (s12.trans s') _ _ hSw),y,_,_,rfl,dv'.same s',?_⟩
    rw [lw]
    exact kR rfl _ (aA.refl _)
   have e3:(((List.range zs.length).filter fun _=>true).map fun j=>V.bl (br ws.length (es.getD j .none)))=(es.map (br ws.length)).map V.bl:=by
    rw [List.filter_eq_self.mpr (fun _ _=>rfl),le,← mx es (br ws.length) .none,List.map_map]
    rfl
   rw [e3] at h3
   refine⟨D2,_,_,.bool false,rfl,aQ.of h3,i8 K H3 _,mC _,.bl _,rfl,rfl,_,rfl,?_⟩
   rw [lh,mV]
   have et:cY ws.length (.tuple es)=es.all (br ws.length):=rfl
   cases ca:es.all (br ws.length) with
   | false=>
    refine bM ?_
    have c:cG ws.length (.tuple ds)=false:=by
     rw [pe]
     cases z:ds.all (cY ws.length) with
     | false=>rfl
     | true=>
      have:=List.all_eq_true.mp z _ mdt
      rw [et,ca] at this;cases this
    exact⟨_,rfl,RET c _ (s12.trans s3)⟩
   | true=>
    refine cC ⟨_,rfl,sm.trans s3,fun m t hm ht=>?_⟩
    by_cases z:m < i
    ·exact gd m t z ht
    ·have:m=i:=by omega
     subst this
     rw [hdt] at ht
     cases ht
     rw [et,ca]
  | _=>cases isTt
 rintro σ H2 ⟨x4,rfl,sm,gd⟩
 have cs:cG ws.length (.tuple ds)=true:=by
  rw [pe]
  refine List.all_eq_true.mpr fun t ht=>?_
  obtain⟨m,hm⟩:=List.getElem?_of_mem ht
  exact gd m t (by rw [len];exact (List.getElem?_eq_some_iff.mp hm).1) hm
 have s12:=s1.trans sm
 obtain⟨pv,pb0⟩:=oR (hx.same s12) cs thg
 rw [rK cs] at k
 clear RET nshape gd allT ct hA hx e1 h1 pe cs e thg
 generalize kH (.tuple ds)=pl at pv pb0 k
 obtain⟨pp,xp,ep,hSp,alp⟩:=id pv
 cases ep
 have lp:=alp.len
 have l24:=pb0.len
 refine⟨24,rfl,by decide,by decide,cL (lo:=0) (n:=24) (fun i σ H'=>∃ (x4 x5 x6:Option V),σ=[some (.ref ps),some (.ref p),some (.ref pw),some (.ref pb),x4,x5,x6,none]/\aA H2 H'/\∀ m,m < i->gI ws pl m=false) ⟨_,none,none,rfl,aA.refl _,fun m hm=>absurd hm (Nat.not_lt_zero _)⟩ ?_ ?_⟩
 ·rintro i σ H3 hi ⟨x4,x5,x6,rfl,sm3,gt⟩
  rw [Int.zero_add]
  obtain⟨xv,hxv⟩:∃ x,xp[i]?=some x:=⟨_,List.getElem?_eq_getElem (by omega)⟩
  obtain⟨tn,ht,tv⟩:=alp.at hxv
  have mt:=List.mem_of_getElem? ht
  have s13:=s12.trans sm3
  have t3:=aI.same (K:=K) sm3
  obtain⟨pt,zs,rfl,hSt,alt⟩:=tv.mono t3
  have lz:=alt.len
  have l15:=pb0.wd tn mt
  have bt:gI ws pl i=!uB ws i tn:=by unfold gI;rw [List.getD_eq_getElem?_getD,ht];rfl
  refine⟨_,rfl,_,rfl,p,_,_,_,rfl,rfl,t3 _ _ hSp,aN hxv,pt,rfl,⟨_,hSt⟩,fun D hDn=>de (K:=K) (a:=pt) (xs:=zs) (ds:=tn) (P:=fun _ v k=>v=V.int k) (f:=fun c=>c.1) (fun _ _ _ _ _ z=>z) hDn hSt lz (by omega) (fun j y c H' hy hc s' R E kR=>?_) fun H4 ys s4 h4 al4=>?_⟩
  ·obtain⟨c',hc',pv'⟩:=alt.at hy
   rw [hc] at hc'
   cases hc'
   obtain⟨pc,z,rfl,hSc,_⟩:=pv'.mono (aI.same s')
   exact⟨dz.set rfl,_,rfl,pc,_,_,_,rfl,rfl,hSc,rfl,kR _ _ (aA.refl _) rfl⟩
  have ey:∀ (us:List V) (bs:List Int),cv (fun v b=>v=V.int b) us bs->us=bs.map V.int:=fun us bs h=>by
   induction h with
   | nil=>rfl
   | cons e _ ih=>rw [List.map_cons,e,ih]
  rw [ey _ _ al4] at h4
  have h4':H4 D=some (.lst ((bB tn).map V.int)):=h4
  have ln:(bB tn).length=tn.length:=List.length_map _
  have s14:=s13.trans s4
  refine⟨_,rfl,D,rfl,⟨_,aQ.of h4'⟩,fun D2 hD2=>eB (oC (aQ.of h4')) (fun j=>gJ ws i (bB tn) ((bB tn).getD j 0)) (fun j=>V.int ((bB tn).getD j 0)) hD2 (by rw [List.length_map];omega) (fun j y H' hj s' hy R E kR kE=>?_) fun H5 s5 h5=>?_⟩
  ·rw [List.length_map] at hj
   obtain⟨kk,hk⟩:∃ kk,(bB tn)[j]?=some kk:=⟨_,List.getElem?_eq_getElem hj⟩
   rw [List.getElem?_map,hk] at hy
   cases hy
   rw [cm (0:Int) hk] at kR kE
   obtain⟨c',mc,ec⟩:=List.mem_map.mp (List.mem_of_getElem? hk)
   obtain⟨b0,b1⟩:=pb0.num tn mt c' mc
   rw [ec] at b0 b1
   obtain⟨k',rfl⟩:=Int.eq_ofNat_of_zero_le b0
   obtain⟨w',hw'⟩:∃ w,ws[k']?=some w:=⟨_,List.getElem?_eq_getElem (by omega)⟩
   obtain⟨xv',hxv'⟩:∃ x,xw[k']?=some x:=⟨_,List.getElem?_eq_getElem (by omega)⟩
   obtain⟨w2,hw2,wv⟩:=alw.at hxv'
   rw [hw'] at hw2
   cases hw2
   have ew:j9 ws ((k':Nat):Int)=w':=by unfold j9;rw [show ((k':Nat):Int).toNat=k' by omega,List.getD_eq_getElem?_getD,hw'];rfl
   have s1':=s14.trans s'
   have tt:=aI.same (K:=K) s1'
   obtain⟨pk,xk,rfl,hSk,rk⟩:=wv.mono tt
   unfold gJ at kR kE
   rw [ew] at kR kE
   refine⟨dz.set rfl,_,rfl,.inl ⟨rfl,_,aQ.of (s' _ _ h4')⟩,_,rfl,D,bB tn,_,rfl,rfl,aQ.of (s' _ _ h4'),_,_,rfl,rfl,_,rfl,?_⟩
   by_cases q1:(((bB tn).count ((k':Nat):Int):Nat):Int) > 1
   ·exact cr q1 (bM ⟨_,rfl,kR (by rw [decide_eq_true q1];rfl) _ (aA.refl _)⟩)
   rw [decide_eq_false q1,Bool.false_or] at kR kE
   refine cu q1 ?_
   refine⟨_,rfl,_,rfl,_,rfl,pw,_,_,_,rfl,rfl,tt _ _ hSw,aN hxv',pk,_,_,_,rfl,rfl,hSk,rfl,_,_,rfl,rfl,_,rfl,?_⟩
   by_cases q2:(i:Int) < (w'.1:Int)
   ·exact cr q2 (bM ⟨_,rfl,kR (by rw [decide_eq_true q2];rfl) _ (aA.refl _)⟩)
   rw [decide_eq_false q2,Bool.false_or] at kR kE
   refine cu q2 ?_
   refine⟨_,rfl,_,rfl,_,rfl,pw,_,_,_,rfl,rfl,tt _ _ hSw,aN hxv',pk,_,_,_,rfl,rfl,hSk,rfl,_,_,rfl,rfl,_,rfl,?_⟩
   by_cases q3:(i:Int) > (w'.2.1:Int)
   ·exact cr q3 ⟨_,rfl,kR (decide_eq_true q3) _ (aA.refl _)⟩
   ·exact cu q3 (kE (decide_eq_false q3) _ (aA.refl _))
  have e5:(((List.range ((bB tn).map V.int).length).filter fun j=>gJ ws i (bB tn) ((bB tn).getD j 0)).map fun j=>V.int ((bB tn).getD j 0))=((bB tn).filter (gJ ws i (bB tn))).map V.int:=by
   rw [List.length_map]
   exact jf (0:Int) (gJ ws i (bB tn)) V.int (bB tn)
  rw [e5] at h5
  refine⟨rB,fun q hq=>?_⟩
  have sq:=ak hq (.lst [])
  have s6:=(s14.trans s5).trans sq
  refine⟨.list (mG ((bB tn).filter (gJ ws i (bB tn)))),.list [],.lst (aQ.of (sq _ _ h5)) (jT _),.lst (aQ.of ai) .nil,mD _,rfl,(by have:=mS ((bB tn).filter (gJ ws i (bB tn)));show PyData.depthAll (mG _)+1≤32;omega),_,rfl,?_⟩
  rw [uW,xz]
  cases c:uB ws i tn with
  | true=>
   refine cC ⟨_,_,_,rfl,((sm3.trans s4).trans s5).trans sq,fun m hm=>?_⟩
   by_cases z:m < i
   ·exact gt m z
   ·have:m=i:=by omega
    rw [this,bt,c];rfl
  | false=>
   refine bM ?_
   have bd:gI ws pl i=true:=by rw [bt,c];rfl
   have dv:fB ws ls pl=some (Str.ofString "piece", (i:Int)):=by unfold fB;rw [fq (i:=i) (by omega) bd gt]
   refine⟨_,rfl,dJ,fun px hx₁=>k _ _ ((s6).trans (ak hx₁ _)) ?_⟩
   rw [dv]
   exact .tup (aV.of ai) (.cons (.str _) (.cons (.int _) .nil))
 rintro σ H3 ⟨x4,x5,x6,rfl,sm3,gt⟩
 have f1:(List.range 24).find? (gI ws pl)=none:=fo fun j hj=>gt j hj
 have s13:=s12.trans sm3
 have t13:=aI.same (K:=K) s13
 have pv3:=pv.mono (aI.same sm3)
 have wd:∀ t∈pl,t.length≤15:=pb0.wd
 refine⟨_,rfl,pw,_,rfl,.inr (t13 _ _ hSw),_,rfl,by omega,by omega,cL (lo:=0) (n:=xw.length) (fun i σ H'=>∃ (x5 x7:Option V),σ=[some (.ref ps),some (.ref p),some (.ref pw),some (.ref pb),x4,x5,x6,x7]/\aA H3 H'/\∀ m,m < i->gK ws pl m=false) ⟨_,none,rfl,aA.refl _,fun m hm=>absurd hm (Nat.not_lt_zero _)⟩ ?_ ?_⟩
 ·rintro i σ H4 hi ⟨y5,y7,rfl,sm4,ga⟩
  rw [Int.zero_add]
  obtain⟨w',hw'⟩:∃ w,ws[i]?=some w:=⟨_,List.getElem?_eq_getElem (by omega)⟩
  obtain⟨xv',hxv'⟩:∃ x,xw[i]?=some x:=⟨_,List.getElem?_eq_getElem hi⟩
  obtain⟨w2,hw2,wv⟩:=alw.at hxv'
  rw [hw'] at hw2
  cases hw2
  have ba:gK ws pl i=!decide (cW (eE pl i)=w'.2.2):=by unfold gK;rw [List.getD_eq_getElem?_getD,hw'];rfl
  refine⟨_,rfl,_,rfl,.ref p,pl,i,rfl,pv3.mono (aI.same sm4),by omega,wd,fun l us H5 s5 hl5 al5=>?_⟩
  have s35:=sm4.trans s5
  have s15:=s13.trans s35
  have aL:cv (fun v (x:(Int×Int)×Pc)=>rE K H5 v x.1) us ((cD 0 pl).filter fun x=>decide (x.2.1=(i:Int))):=pL al5
  have ll:((cD 0 pl).filter fun x=>decide (x.2.1=(i:Int))).length≤24:=by
   have:=li (ws:=ws) pb0 i fun u hu=>gt u hu
   rw [jk,List.length_map] at this
   exact this
  have pv5:=pv3.mono (aI.same s35)
  obtain⟨pp5,xp5,ep5,hSp5,alp5⟩:=id pv5
  cases ep5
  refine⟨l,rfl,⟨_,aQ.of hl5⟩,fun D hD=>jV (K:=K) (a:=l) (xs:=us) (ds:=(cD 0 pl).filter fun x=>decide (x.2.1=(i:Int))) (P:=RV K) (f:=fun x=>x.2.2) (fun _ _ _ _ t z=>z.mono t) hD (aQ.of hl5) aL.len (by omega) (fun j y xx H' hy hc s' R E kR=>?_) fun H6 ys s6 h6 al6=>?_⟩
  ·obtain⟨x',hx',prv⟩:=aL.at hy
   rw [hc] at hx'
   cases hx'
   obtain⟨u,pz,tn,e1,e2,e3⟩:=oQ pl 0 xx (List.mem_filter.mp (List.mem_of_getElem? hc)).1
   rw [Nat.zero_add] at e1
   obtain⟨ap,rfl,hap⟩:=prv.mono (aI.same s')
   rw [e1] at hap
   have tt:=aI.same (K:=K) s'
   obtain⟨xu,hxu⟩:∃ x,xp5[u]?=some x:=⟨_,List.getElem?_eq_getElem (by rw [alp5.len];exact (List.getElem?_eq_some_iff.mp e2).1)⟩
   obtain⟨t2,ht2,tv2⟩:=alp5.at hxu
   rw [e2] at ht2
   cases ht2
   obtain⟨pt,zs,rfl,hSt,alt⟩:=tv2.mono tt
   obtain⟨yz,hyz⟩:∃ x,zs[pz]?=some x:=⟨_,List.getElem?_eq_getElem (by rw [alt.len];exact (List.getElem?_eq_some_iff.mp e3).1)⟩
   obtain⟨c2,hc2,pcv⟩:=alt.at hyz
   rw [e3] at hc2
   cases hc2
   obtain⟨pc,z,rfl,hSc,rz⟩:=pcv
   refine⟨ap,_,rfl,hap,rfl,_,_,rfl,_,_,rfl,rfl,dz.set' (dz.set rfl) rfl,?_⟩
   exact⟨_,rfl,_,rfl,p,_,_,_,rfl,rfl,tt _ _ hSp5,aN hxu,_,rfl,pt,_,_,_,rfl,rfl,hSt,aN hyz,pc,_,_,_,rfl,rfl,hSc,rfl,kR _ _ (aA.refl _) rz⟩
  rw [← jk] at al6
  refine⟨D,ys,eE pl i,D2,NB,400,rfl,aQ.of h6,al6,(fun r hr=>?_),by decide,by decide,by decide,Nat.le_trans (li (ws:=ws) pb0 i fun u hu=>gt u hu) (by decide),by decide,fun w5 H7 s7 rv7=>?_⟩
  ·obtain⟨c,hc,rfl⟩:=List.mem_map.mp hr
   obtain⟨t',ht',hc'⟩:=mL (List.mem_filter.mp hc).1
   exact pb0.bq t' ht' c hc'
  have s57:=s6.trans s7
  have s17:=s15.trans s57
  have tt:=aI.same (K:=K) s17
  obtain⟨pk,xk,rfl,hSk,rk⟩:=wv.mono tt
  refine⟨_,rfl,_,rfl,pw,_,_,_,rfl,rfl,tt _ _ hSw,aN hxv',pk,_,_,_,rfl,rfl,hSk,rfl,dR (cW (eE pl i)),dR w'.2.2,rv7.deep,rk.deep,ja _,ja _,mT _,_,rfl,?_⟩
  rw [pj]
  by_cases c:cW (eE pl i)=w'.2.2
  ·rw [decide_eq_true c]
   refine cC ⟨_,_,rfl,s35.trans s57,fun j hj=>?_⟩
   by_cases z:j < i
   ·exact ga j z
   ·have:j=i:=by omega
    rw [this,ba,decide_eq_true c];rfl
  ·rw [decide_eq_false c]
   refine bM ?_
   have bd:gK ws pl i=true:=by rw [ba,decide_eq_false c];rfl
   have dv:fB ws ls pl=some (Str.ofString "amount", (i:Int)):=by unfold fB;rw [f1,fq (i:=i) (by omega) bd ga]
   refine⟨_,rfl,dJ,fun px hx₁=>k _ _ ((s17).trans (ak hx₁ _)) ?_⟩
   rw [dv]
   exact .tup (aV.of ai) (.cons (.str _) (.cons (.int _) .nil))
 rintro σ H4 ⟨y5,y7,rfl,sm4,ga⟩
 rw [lw] at ga
 have f2:(List.range ws.length).find? (gK ws pl)=none:=fo fun j hj=>ga j hj
 have nz:∀ n,n < ws.length->0 < (b9 pl.flatten n).length:=fun n hn=>pK (List.getElem?_eq_getElem hn) (ok.wk _ (List.getElem_mem hn)).po.pos (ga n hn)
 have s14:=s13.trans sm4
 have t14:=aI.same (K:=K) s14
 have pv4:=pv3.mono (aI.same sm4)
 have l8:=ok.l8
 refine⟨_,rfl,pb,_,rfl,.inr (t14 _ _ hSb),_,rfl,by omega,by omega,cL (lo:=0) (n:=xb.length) (fun i σ H'=>∃ (x7:Option V),σ=[some (.ref ps),some (.ref p),some (.ref pw),some (.ref pb),x4,y5,x6,x7]/\aA H4 H'/\∀ m,m < i->ji pl ls m=false) ⟨_,rfl,aA.refl _,fun m hm=>absurd hm (Nat.not_lt_zero _)⟩ ?_ ?_⟩
 ·rintro i σ H5 hi ⟨z7,rfl,sm5,gn⟩
  rw [Int.zero_add]
  obtain⟨xv',hxv'⟩:∃ x,xb[i]?=some x:=⟨_,List.getElem?_eq_getElem hi⟩
  obtain⟨e,he,ev⟩:=alb.at hxv'
  obtain⟨q1,q2,q3⟩:=ok.ln e (List.mem_of_getElem? he)
  have bn:ji pl ls i=!f7 pl.flatten e:=by unfold ji;rw [List.getD_eq_getElem?_getD,he];rfl
  have s15:=s14.trans sm5
  have t15:=aI.same (K:=K) s15
  obtain⟨pe,rfl,hSe⟩:=ev.mono t15
  have hSb5:=t15 _ _ hSb
  refine⟨_,rfl,_,rfl,_,rfl,pb,_,_,_,rfl,rfl,hSb5,aN hxv',pe,_,_,_,rfl,rfl,hSe,rfl,.ref p,pl,e.1,rfl,pv4.mono (aI.same sm5),by omega,wd,fun la xa H6 s6 ha aa=>?_⟩
  have la_:0 < (bO pl e.1).length:=by rw [cK,List.length_map];exact nz e.1 q1
  have lb_:0 < (bO pl e.2).length:=by rw [cK,List.length_map];exact nz e.2 q2
  refine⟨la,xa,bO pl e.1,rfl,aQ.of ha,aa,lN pl e.1,la_,fun va hva=>?_⟩
  obtain⟨qa,hqa,pva⟩:=aa.at hva
  have t6:=aI.same (K:=K) s6
  refine⟨_,rfl,_,rfl,_,rfl,pb,_,_,_,rfl,rfl,t6 _ _ hSb5,aN hxv',pe,_,_,_,rfl,rfl,t6 _ _ hSe,rfl,.ref p,pl,e.2,rfl,(pv4.mono (aI.same sm5)).mono t6,by omega,wd,fun lc xc H7 s7 hc ac=>?_⟩
  refine⟨lc,xc,bO pl e.2,rfl,aQ.of hc,ac,lN pl e.2,lb_,fun vb hvb=>?_⟩
  obtain⟨qb,hqb,pvb⟩:=ac.at hvb
  refine⟨qa,qb,pva.mono (aI.same s7),pvb,_,rfl,?_⟩
  have ea:cR (bO pl e.1) ((bO pl e.1).length - 1)=qa:=by unfold cR;rw [List.getD_eq_getElem?_getD,hqa];rfl
  have eb:cR (bO pl e.2) 0=qb:=by unfold cR;rw [List.getD_eq_getElem?_getD,hqb];rfl
  have cmp:=uD (pl:=pl) q3 (nz e.1 q1) (nz e.2 q2)
  rw [ea,eb] at cmp
  rw [cmp]
  have s57:=s6.trans s7
  cases c:f7 pl.flatten e with
  | true=>
   refine cC ⟨_,rfl,sm5.trans s57,fun j hj=>?_⟩
   by_cases z:j < i
   ·exact gn j z
   ·have:j=i:=by omega
    rw [this,bn,c];rfl
  | false=>
   refine bM ?_
   have bd:ji pl ls i=true:=by rw [bn,c];rfl
   have dv:fB ws ls pl=some (Str.ofString "lean", (i:Int)):=by unfold fB;rw [f1,f2,fq (i:=i) (by omega) bd gn]
   refine⟨_,rfl,dJ,fun px hx₁=>k _ _ ((s15.trans s57).trans (ak hx₁ _)) ?_⟩
   rw [dv]
   exact .tup (aV.of ai) (.cons (.str _) (.cons (.int _) .nil))
 rintro σ H5 ⟨z7,rfl,sm5,gn⟩
 rw [lb] at gn
 have f3:(List.range ls.length).find? (ji pl ls)=none:=fo fun j hj=>gn j hj
 refine k _ _ (s14.trans sm5) ?_
 rw [show fB ws ls pl=none by unfold fB;rw [f1,f2,f3]]
 exact .non
theorem eR (T:dM K mg t):bh P w K mg base cZ 1 t.a_Q31 t.d_Q31 ["_law_row", "_law_at", "_law_thing"] (lP K):=by
 refine T.F_Q31.ok yX (fun vs H Q E h=>?_) (fun cdv A outer s H vs Q E hr h=>?_)
 ·obtain⟨_,_,_,_,rfl,_⟩:=h;rfl
 obtain⟨p,xs,j,v,rfl,hS,hj,lx,k⟩:=h
 refine cM.ok (am (aD (aB cO (aB cO (bU cE (qv 0) cA (cz (qv 1))) (aP (ad (qv 2) ag af))) (bU cE (qv 0) (cz (aB bg (qv 1) ah)) cA)))) ?_
 extract_lets +lift
 try dsimp -zeta -zetaDelta only [Cx.nox,Cx.wish,bx]
 refine⟨_,rfl,_,rfl,_,rfl,p,xs,rfl,hS,fun p1 H1 s1 h1=>?_⟩
 rw [iy (by omega)] at h1
 refine⟨_,rfl,vn,fun p2 g2=>?_⟩
 have s2:=ak g2 (.tup [v])
 refine⟨p1,p2,_,_,rfl,rfl,aI.same s2 _ _ h1,aV.of ai,Nat.le_trans (show _≤1001 by rw [List.length_take];show min j xs.length+1≤1001;omega) (by decide),fun p3 H3 s3 h3=>?_⟩
 refine⟨_,rfl,_,rfl,_,_,rfl,rfl,_,rfl,p,xs,rfl,aI.same ((s1.trans s2).trans s3) _ _ hS,fun p4 H4 s4 h4=>?_⟩
 rw [show ((j:Int)+1)=((j+1:Nat):Int) by omega,iz (by omega)] at h4
 refine⟨p3,p4,_,_,rfl,rfl,aI.same s4 _ _ h3,h4,Nat.le_trans (show _≤2002 by rw [List.length_append,List.length_take,List.length_drop];show min j xs.length+1+_≤2002;omega) (by decide),fun p5 H5 s5 h5=>?_⟩
 rw [vM xs j v hj] at h5
 exact k p5 H5 ((((s1.trans s2).trans s3).trans s4).trans s5) h5
theorem CC (T:dM K mg t):bh P w K mg base cZ 4 t.a_Q4 t.d_Q4 ["_law_tape_here", "_law_piece", "_law_many"] (fV K):=by
 refine T.F_Q4.ok gQ (fun vs H Q E h=>?_) (fun cdv A outer s H vs Q E hr h=>?_)
 ·obtain⟨_,_,_,_,_,_,rfl,_⟩:=h;rfl
 obtain⟨t₁,s₀,D,v,m,c,rfl,T0,nD,hD,⟨pp,va,rfl,hP,ra⟩,pb,m1,m12,k⟩:=h
 refine cM.ok (aj (fJ (qv 1) (ef rfl (aR (ay (i:=3) gQ.nd rfl (by first | exact Or.inl rfl | exact Or.inr rfl)) (aR (ay (i:=4) gQ.nd rfl (by first | exact Or.inl rfl | exact Or.inr rfl)) bZ))))
   (aj (cn 5 gQ.nd (aP (ad ah (ad (aB bg ah (bI (bb T) hr T.m_Q27 T.F_Q27.kp T.b_Q27 (ad (qv 0) (ad ah ag aq) af))) ag aJ) aq)))
   (aj (cn 6 gQ.nd (bv aX (bH (ad di (ad kD (ad dh (ad (gR d6 ah) (ad (qv 2) (ad (aP (ad ah ag aq)) (ad (aB kJ ah ah) (ad (aP (ad ah (ad di ag aq) aq)) (ad (aP (ad di (ad ah ag aq) aq)) ag aZ) aZ) aJ) aZ) af) im) aq) aq) aq)) (bI (bb T) hr T.m_Q27 T.F_Q27.kp T.b_Q27 (ad (qv 0) (ad ah ag aq) af))))
   (aj (cn 7 gQ.nd (bH (ad (aP (ad (qv 3) (ad (bI (uA T) hr T.m_Q28 T.F_Q28.kp T.b_Q28 (ad (qv 4) (ad (qv 5) ag af) af)) ag ax) af)) (ad (aP (ad (qv 3) (ad (bI (nX T) hr T.m_Q16 T.F_Q16.kp T.b_Q16 (ad (qv 4) (ad (aP (ad ah (ad ah ag aq) aq)) ag aZ) af)) ag ax) af)) (ad (aP (ad (qv 3) (ad (aP (ad ah (ad ah ag aq) aq)) ag aZ) af)) (ad (aP (ad (qv 3) (ad (qv 6) ag af) af)) ag aZ) aZ) aZ) aZ)))
   (aj (cn 7 gQ.nd (aB nS (qv 7) (bH (ad (aP (ad (qv 3) (ad (aP (ad (aB kI ah (bv av (qv 4) ah)) (ad (bv av (qv 4) ah) ag aG) aJ)) ag aZ) af)) (ad (aP (ad (qv 6) (ad (qv 4) ag af) af)) (ad (bJ eD (by rfl) T.z_list boot_list (ad (qv 1) ag af)) (ad (aB cO (qv 1) (aP (ad ah ag aq))) (ad (qv 6) ag af) aJ) ax) aZ) aZ))))
   (aj (cn 7 gQ.nd (aB nS (qv 7) (bH (ad (aP (ad (qv 3) (ad (aP (ad (aB eP ah (bv av (qv 4) ah)) (ad (aB eP ah (bv av (qv 4) ah)) ag aJ) aJ)) ag aZ) af)) (ad (aP (ad (bI (bb T) hr T.m_Q27 T.F_Q27.kp T.b_Q27 (ad (qv 0) (ad (qv 2) ag af) af)) (ad (qv 4) ag af) ax)) ag aZ) aZ))))
   (am (aD (bv aX (qv 7) (bI (bb T) hr T.m_Q27 T.F_Q27.kp T.b_Q27 (ad (qv 0) (ad ah ag aq) af))))))))))) ?_
 extract_lets +lift
 try dsimp -zeta -zetaDelta only [Cx.nox,Cx.wish,bx]
 obtain⟨pa,rfl,hpa⟩:=id ra
 obtain⟨pb1,pb2,pb3,pb4,pb5⟩:=id pb
 have n230:c.1.natAbs < 2 ^ 230:=Nat.lt_of_lt_of_le (show c.1.natAbs < 2 ^ 10 by omega) (by decide)
 have w230:Wf 230 c.2:=pb3.mono (by decide)
 have gN:Gd 1 10014 (.int c.1):=gW (cH n230)
 have B0:Bp K m H H t₁ s₀ D pp c.1 (.ref pa) c.2 [] [] [] []:=⟨Step.refl T0.lst,T0,nD,hD,hP,ra,(fun x h=>by cases h),(fun x h=>by cases h),(fun x h=>by cases h),(fun x h=>by cases h)⟩
 refine⟨_,rfl,pp,_,rfl,hP,rfl,_,_,rfl,_,_,rfl,rfl,?_⟩
 clear T0 nD hD hP ra hpa
 refine⟨_,rfl,t₁,s₀,9,rfl,B0.T,by omega,by omega,fun r1 x1 a1 b1 T1=>?_⟩
 have B1:=B0.dr T1
 generalize upd H t₁ (.lst x1)=H1 at B1 ⊢
 clear T1 B0
 refine⟨_,_,rfl,rfl,dJ,fun p2 g2=>?_⟩
 have B2:=B1.nr (a:=1) (b:=1+r1) g2
 generalize upd H1 p2 (.tup [.int 1,.int (1+r1)])=H2 at B2 ⊢
 clear g2 B1
 refine⟨_,rfl,_,rfl,vn,fun p3 g3=>?_⟩
 have B3:=B2.no g3 (nY (xs:=[.int 0]) (ds:=[.int 0]) B2.T.lst B2.hD g3 (.cons (.int _) .nil) (Gd.tup (m:=2) (gC (cH (by decide)) _root_.My.gN) (by decide) (by decide)) rfl rfl)
 generalize upd H2 p3 (.tup [.int 0])=H3 at B3 ⊢
 clear g3 B2
 refine⟨_,_,rfl,rfl,⟨by decide,by decide,by decide⟩,dJ,fun p4 g4=>?_⟩
 have B4:=B3.no g4 (nY (xs:=[.int 1,.bl true]) (ds:=[.int 1,.bool true]) B3.T.lst B3.hD g4 (.cons (.int _) (.cons (.bl _) .nil)) (gF (cH (by decide)) (kY true) (by decide)) rfl (Bool.and_false _))
 generalize upd H3 p4 (.tup [.int 1,.bl true])=H4 at B4 ⊢
 clear g4 B3
 refine⟨dJ,fun p5 g5=>?_⟩
 have B5:=B4.no g5 (nY (xs:=[.bl true,.int 1]) (ds:=[.bool true,.int 1]) B4.T.lst B4.hD g5 (.cons (.bl _) (.cons (.int _) .nil)) (gF (kY true) (cH (by decide)) (by decide)) rfl rfl)
 generalize upd H4 p5 (.tup [.bl true,.int 1])=H5 at B5 ⊢
 clear g5 B4
 refine⟨EK,fun p6 g6=>?_⟩
 have B6:=B5.ns (xs:=[V.bl true,V.non,V.str (Str.ofString "0"),V.int (-1),V.int (m:Nat),V.ref p3,V.int ((10:Int) ^ (19:Int).toNat),V.ref p4,V.ref p5]) g6
 generalize upd H5 p6 (.lst [V.bl true,V.non,V.str (Str.ofString "0"),V.int (-1),V.int (m:Nat),V.ref p3,V.int ((10:Int) ^ (19:Int).toNat),V.ref p4,V.ref p5])=H6 at B6 ⊢
 clear g6 B5
 refine⟨_,rfl,t₁,s₀,9,rfl,B6.T,by omega,by omega,fun r7 x7 a7 b7 T7=>?_⟩
 have B7:=B6.dr T7
 generalize upd H6 t₁ (.lst x7)=H7 at B7 ⊢
 clear T7 B6
 obtain⟨j,rfl⟩:=Int.eq_ofNat_of_zero_le a7
 obtain⟨x,hx⟩:∃ x,([V.bl true,V.non,V.str (Str.ofString "0"),V.int (-1),V.int (m:Nat),V.ref p3,V.int ((10:Int) ^ (19:Int).toNat),V.ref p4,V.ref p5]:List V)[j]?=some x:=⟨_,List.getElem?_eq_getElem (by show j < 9;omega)⟩
 have od:oz K m H7 t₁ D x:=by
  have hm:=List.mem_of_getElem? hx
  simp only [List.mem_cons,List.not_mem_nil,or_false] at hm
  rcases hm with rfl | rfl | rfl | rfl | rfl | rfl | rfl | rfl | rfl
  ·exact⟨.bool true,.bl _,gW (kY true),rfl,rfl⟩
  ·exact⟨.none,.non,gW kX,rfl,rfl⟩
  ·exact⟨.str (Str.ofString "0"),.str _,gW (uN (by decide +kernel) (by decide +kernel) (by decide +kernel)),rfl,rfl⟩
  ·exact nZ (by decide)
  ·exact nZ (Nat.lt_of_lt_of_le (show ((m:Nat):Int).natAbs < 2 ^ 10 by omega) (by decide))
  ·exact B7.PO _ (.tail _ (.tail _ (.head _)))
  ·exact nZ (by decide)
  ·exact B7.PO _ (.tail _ (.head _))
  ·exact B7.PO _ (.head _)
 refine⟨p6,_,_,_,rfl,rfl,aQ.of (B7.LL _ (.head _)).2,aN hx,?_⟩
 have B8:=B7.od od
 clear od hx B7
 generalize H7=H8 at B8 ⊢
 have wl:Wf 4 ((1,1+r1):R):=⟨by show 0 < 1+r1;omega,by show (1:Int).natAbs < 16;decide,by show (1+r1).natAbs < 16;omega,Int.one_gcd⟩
 refine⟨_,rfl,_,rfl,_,rfl,.ref pa,.ref p2,c.2,(1,1+r1),110,4,rfl,B8.ra,B8.RS _ (.head _),pb3,wl,by decide,fun p9 g9=>?_⟩
 have wp:=(we pb3 wl).mono (show _≤230 by decide)
 have okp:=re pb1 a1 b1
 generalize ci c.2 (1,1+r1)=qp at wp okp ⊢
 have B9:=B8.nr (a:=qp.1) (b:=qp.2) g9
 generalize upd H8 p9 (.tup [.int qp.1,.int qp.2])=H9 at B9 ⊢
 clear g9 B8
 refine⟨dJ,fun p10 g10=>?_⟩
 have B10:=B9.nl g10 (eO (q:=qp) B9.T.lst B9.nD B9.hD g10 (.int _) gN (B9.RS _ (.head _)) ⟨wp.top,wp.bot⟩ fun _=>okp)
 generalize upd H9 p10 (.tup [.int c.1,.ref p9])=H10 at B10 ⊢
 clear g10 B9
 refine⟨_,rfl,_,rfl,dJ,fun p11 g11=>?_⟩
 have B11:=B10.nr (a:=1) (b:=2) g11
 generalize upd H10 p11 (.tup [.int 1,.int 2])=H11 at B11 ⊢
 clear g11 B10
 refine⟨.ref pa,.ref p11,c.2,(1,2),110,4,rfl,B11.ra,B11.RS _ (.head _),pb3,⟨by decide,by decide,by decide,by decide⟩,by decide,fun p12 g12=>?_⟩
 have wt:Wf 230 (bG c.2 (1,2)):=(iD (m:=4) pb3 ⟨by decide,by decide,by decide,by decide⟩).mono (by decide)
 have okt:=jg pb1
 generalize bG c.2 (1,2)=qt at wt okt ⊢
 have B12:=B11.nr (a:=qt.1) (b:=qt.2) g12
 generalize upd H11 p12 (.tup [.int qt.1,.int qt.2])=H12 at B12 ⊢
 clear g12 B11
 refine⟨dJ,fun p13 g13=>?_⟩
 have B13:=B12.nl g13 (eO (q:=qt) B12.T.lst B12.nD B12.hD g13 (.int _) gN (B12.RS _ (.head _)) ⟨wt.top,wt.bot⟩ fun _=>okt)
 generalize upd H12 p13 (.tup [.int c.1,.ref p12])=H13 at B13 ⊢
 clear g13 B12
 refine⟨_,rfl,dJ,fun p14 g14=>?_⟩
 have B14:=B13.nr (a:=0) (b:=1) g14
 generalize upd H13 p14 (.tup [.int 0,.int 1])=H14 at B14 ⊢
 clear g14 B13
 refine⟨dJ,fun p15 g15=>?_⟩
 have B15:=B14.nl g15 (eO (q:=(0,1)) B14.T.lst B14.nD B14.hD g15 (.int _) gN (B14.RS _ (.head _)) ⟨by decide,by decide⟩ (fun _=>xt))
 generalize upd H14 p15 (.tup [.int c.1,.ref p14])=H15 at B15 ⊢
 clear g15 B14
 refine⟨_,rfl,_,rfl,dJ,fun p16 g16=>?_⟩
 have B16:=B15.nl g16 (Ah B15.T.lst B15.hD g16 (.int _) gN (B15.PO _ (.head _)))
 generalize upd H15 p16 (.tup [.int c.1,x])=H16 at B16 ⊢
 clear g16 B15
 refine⟨EL,fun p17 g17=>?_⟩
 have B17:=B16.ns (xs:=[V.ref p10,V.ref p13,V.ref p15,V.ref p16]) g17
 generalize upd H16 p17 (.lst [V.ref p10,V.ref p13,V.ref p15,V.ref p16])=H17 at B17 ⊢
 clear g17 B16
 obtain⟨_,ea,hpa⟩:=B17.ra
 cases ea
 refine⟨_,rfl,_,rfl,_,rfl,pa,_,_,_,rfl,rfl,hpa,rfl,_,_,rfl,rfl,_,rfl,pa,_,_,_,rfl,rfl,hpa,rfl,dJ,fun p18 g18=>?_⟩
 clear hpa
 have B18:=B17.nr (a:=0 - c.2.1) (b:=c.2.2) g18
 generalize upd H17 p18 (.tup [.int (0 - c.2.1),.int c.2.2])=H18 at B18 ⊢
 clear g18 B17
 refine⟨dJ,fun p19 g19=>?_⟩
 have B19:=B18.nl g19 (eO (q:=(0 - c.2.1,c.2.2)) B18.T.lst B18.nD B18.hD g19 (.int _) gN (B18.RS _ (.head _)) ⟨by show (0 - c.2.1).natAbs < _;rw [Int.zero_sub,Int.natAbs_neg];exact w230.top,w230.bot⟩ (fun z=>by rw [A5 pb2] at z;cases z))
 generalize upd H18 p19 (.tup [.int c.1,.ref p18])=H19 at B19 ⊢
 clear g19 B18
 refine⟨_,rfl,_,rfl,dJ,fun p20 g20=>?_⟩
 obtain⟨dx,od1,od2,od3,od4⟩:=B19.PO _ (.head _)
 have B20:=B19.nl g20 (eO (q:=c.2) B19.T.lst B19.nD B19.hD g20 od1 od2 B19.ra ⟨w230.top,w230.bot⟩ (fun _=>pb.d2))
 generalize upd H19 p20 (.tup [x,.ref pa])=H20 at B20 ⊢
 clear g20 B19
 clear od1 od2 od3 od4 dx
 refine⟨_,rfl,pp,_,rfl,.inr B20.hP,fun p21 g21=>?_⟩
 have B21:=B20.nl g21 (wF B20.T.lst B20.nD B20.hD g21 n230 B20.ra w230)
 generalize upd H20 p21 (.lst [.int c.1,.ref pa])=H21 at B21 ⊢
 clear g21 B20
 refine⟨_,rfl,vn,fun pu gu=>?_⟩
 have eu:=ak gu (.tup [.int 1])
 have hu:aV K (upd H21 pu (.tup [.int 1])) pu [.int 1]:=aV.of ai
 replace B21:=B21.sm eu
 clear eu gu
 generalize upd H21 pu (.tup [.int 1])=Hu at B21 hu ⊢
 refine⟨pp,pu,_,_,rfl,rfl,B21.hP,hu,Bs,fun p22 H22 e22 h22=>?_⟩
 have C22:=B21.sm e22
 have B22:=C22.pl (uq (w:=.non) C22.T.lst C22.nD C22.hD h22 n230 C22.ra w230)
 clear e22 h22 hu C22 B21
 replace B22:=B22.pl (B22.PO _ (.head _)).pc
 refine⟨_,rfl,Fx,fun p23 g23=>?_⟩
 have B23:=B22.ns (xs:=[V.ref p19,V.ref p20,V.ref p21,V.ref p22,x]) g23
 generalize upd H22 p23 (.lst [V.ref p19,V.ref p20,V.ref p21,V.ref p22,x])=H23 at B23 ⊢
 clear g23 B22
 refine⟨p17,p23,_,_,rfl,rfl,(B23.LL _ (.tail _ (.head _))).2,(B23.LL _ (.head _)).2,EK,fun p24 g24=>?_⟩
 have B24:=B23.ns (xs:=([V.ref p10,V.ref p13,V.ref p15,V.ref p16]++[V.ref p19,V.ref p20,V.ref p21,V.ref p22,x])) g24
 generalize upd H23 p24 (.lst ([V.ref p10,V.ref p13,V.ref p15,V.ref p16]++[V.ref p19,V.ref p20,V.ref p21,V.ref p22,x]))=H24 at B24 ⊢
 clear g24 B23
 obtain⟨_,ea,hpa⟩:=B24.ra
 cases ea
 refine⟨_,rfl,_,rfl,_,rfl,pa,_,_,_,rfl,rfl,hpa,rfl,_,_,rfl,rfl,.inl ⟨by decide,by decide⟩,_,rfl,pa,_,_,_,rfl,rfl,hpa,rfl,_,_,rfl,rfl,.inl ⟨by decide,by decide⟩,dJ,fun p25 g25=>?_⟩
 clear hpa
 have B25:=B24.nr (a:=2 * c.2.1) (b:=2 * c.2.2) g25
 generalize upd H24 p25 (.tup [.int (2 * c.2.1),.int (2 * c.2.2)])=H25 at B25 ⊢
 clear g25 B24
 refine⟨dJ,fun p26 g26=>?_⟩
 have B26:=B25.nl g26 (eO (q:=(2 * c.2.1,2 * c.2.2)) B25.T.lst B25.nD B25.hD g26 (.int _) gN (B25.RS _ (.head _)) ⟨by show (2 * c.2.1).natAbs < _;rw [Int.natAbs_mul];exact Nat.lt_of_lt_of_le (Nat.mul_lt_mul_of_pos_left pb3.top (by decide)) (by decide),by show (2 * c.2.2).natAbs < _;rw [Int.natAbs_mul];exact Nat.lt_of_lt_of_le (Nat.mul_lt_mul_of_pos_left pb3.bot (by decide)) (by decide)⟩ (fun z=>by rw [A4] at z;cases z))
 generalize upd H25 p26 (.tup [.int c.1,.ref p25])=H26 at B26 ⊢
 clear g26 B25
 refine⟨_,rfl,_,rfl,t₁,s₀,m,rfl,B26.T,by omega,by omega,fun r27 x27 a27 b27 T27=>?_⟩
 have B27:=B26.dr T27
 generalize upd H26 t₁ (.lst x27)=H27 at B27 ⊢
 clear T27 B26
 refine⟨_,rfl,dJ,fun p28 g28=>?_⟩
 have B28:=B27.nl g28 (eO (q:=c.2) B27.T.lst B27.nD B27.hD g28 (.int _) (gW (cH (Nat.lt_of_lt_of_le (show (r27).natAbs < 2 ^ 10 by omega) (by decide)))) B27.ra ⟨w230.top,w230.bot⟩ (fun _=>pb.d2))
 generalize upd H27 p28 (.tup [.int r27,.ref pa])=H28 at B28 ⊢
 clear g28 B27
 refine⟨dJ,fun p29 g29=>?_⟩
 have B29:=B28.ns (xs:=[V.ref p26,V.ref p28]) g29
 generalize upd H28 p29 (.lst [V.ref p26,V.ref p28])=H29 at B29 ⊢
 clear g29 B28
 refine⟨p24,p29,_,_,rfl,rfl,(B29.LL _ (.tail _ (.head _))).2,(B29.LL _ (.head _)).2,DQ,fun p30 g30=>?_⟩
 have B30:=B29.ns (xs:=(([V.ref p10,V.ref p13,V.ref p15,V.ref p16]++[V.ref p19,V.ref p20,V.ref p21,V.ref p22,x])++[V.ref p26,V.ref p28])) g30
 generalize upd H29 p30 (.lst (([V.ref p10,V.ref p13,V.ref p15,V.ref p16]++[V.ref p19,V.ref p20,V.ref p21,V.ref p22,x])++[V.ref p26,V.ref p28]))=H30 at B30 ⊢
 clear g30 B29
 refine⟨_,rfl,_,rfl,t₁,s₀,11,rfl,B30.T,by omega,by omega,fun r31 x31 a31 b31 T31=>?_⟩
 have B31:=B30.dr T31
 generalize upd H30 t₁ (.lst x31)=H31 at B31 ⊢
 clear T31 B30
 obtain⟨i,rfl⟩:=Int.eq_ofNat_of_zero_le a31
 obtain⟨y,hy⟩:∃ y,((([V.ref p10,V.ref p13,V.ref p15,V.ref p16]++[V.ref p19,V.ref p20,V.ref p21,V.ref p22,x])++[V.ref p26,V.ref p28]):List V)[i]?=some y:=⟨_,List.getElem?_eq_getElem (by show i < 11;omega)⟩
 have hm:y∈([V.ref p10,V.ref p13,V.ref p15,V.ref p16,V.ref p19,V.ref p20,V.ref p21,V.ref p22,x,V.ref p26,V.ref p28]:List V):=List.mem_of_getElem? hy
 have pcy:gM K m H31 t₁ D y:=by
  simp only [List.mem_cons,List.not_mem_nil,or_false] at hm
  rcases hm with rfl | rfl | rfl | rfl | rfl | rfl | rfl | rfl | rfl | rfl | rfl
  ·exact B31.PL _ (.tail _ (.tail _ (.tail _ (.tail _ (.tail _ (.tail _ (.tail _ (.tail _ (.tail _ (.tail _ (.head _)))))))))))
  ·exact B31.PL _ (.tail _ (.tail _ (.tail _ (.tail _ (.tail _ (.tail _ (.tail _ (.tail _ (.tail _ (.head _))))))))))
  ·exact B31.PL _ (.tail _ (.tail _ (.tail _ (.tail _ (.tail _ (.tail _ (.tail _ (.tail _ (.head _)))))))))
  ·exact B31.PL _ (.tail _ (.tail _ (.tail _ (.tail _ (.tail _ (.tail _ (.tail _ (.head _))))))))
  ·exact B31.PL _ (.tail _ (.tail _ (.tail _ (.tail _ (.tail _ (.tail _ (.head _)))))))
  ·exact B31.PL _ (.tail _ (.tail _ (.tail _ (.tail _ (.tail _ (.head _))))))
  ·exact B31.PL _ (.tail _ (.tail _ (.tail _ (.tail _ (.head _)))))
  ·exact B31.PL _ (.tail _ (.tail _ (.tail _ (.head _))))
  ·exact B31.PL _ (.tail _ (.tail _ (.head _)))
  ·exact B31.PL _ (.tail _ (.head _))
  ·exact B31.PL _ (.head _)
 exact⟨p30,_,_,_,rfl,rfl,aQ.of (B31.LL _ (.head _)).2,aN hy,k y _ B31.S B31.T pcy⟩
theorem Az (T:dM K mg t):bh P w K mg base cZ 4 t.a_Q20 t.d_Q20 ["_law_tape_here", "_law_plan_here", "_law_t", "_law_place"] (ko K):=by
 refine T.F_Q20.ok gr (fun vs H Q E h=>?_) (fun cdv A outer s H vs Q E hr h=>?_)
 ·obtain⟨_,_,_,_,_,_,_,_,rfl,_⟩:=h;rfl
 obtain⟨t₁,s₀,D,v,m,j,z,pl,rfl,T0,nD,hD,⟨p,xs,rfl,hS,al⟩,ok,m12,j24,hz,k⟩:=h
 refine cM.ok (aj (cn 4 gr.nd (bv av (bv av (qv 1) (qv 2)) (qv 3)))
   (aj (cn 5 gr.nd (aB cO (bU cE (bv av (qv 1) (qv 2)) cA (cz (qv 3))) (bU cE (bv av (qv 1) (qv 2)) (cz (aB bg (qv 3) ah)) cA)))
   (aj (be (aE cS (bI (bb T) hr T.m_Q27 T.F_Q27.kp T.b_Q27 (ad (qv 0) (ad ah ag aq) af)) ah (aK _)) (aj (cn 6 gr.nd (aP (ad (bv av (qv 4) ah) (ad (bI (nX T) hr T.m_Q16 T.F_Q16.kp T.b_Q16 (ad (bv av (qv 4) ah) (ad (aP (ad ah (ad ah ag aq) aq)) ag aZ) aG)) ag ax) aG)))
   (am (aD (bI (eR T) hr T.m_Q31 T.F_Q31.kp T.b_Q31 (ad (qv 1) (ad (qv 2) (ad (aB cO (qv 5) (aP (ad (qv 6) (ad (qv 6) ag af) af))) ag aJ) af) af))))) aO)
   (aj (cn 7 gr.nd (bI (bb T) hr T.m_Q27 T.F_Q27.kp T.b_Q27 (ad (qv 0) (ad ah ag aq) af)))
   (aj (cn 1 gr.nd (bI (eR T) hr T.m_Q31 T.F_Q31.kp T.b_Q31 (ad (qv 1) (ad (qv 2) (ad (qv 5) ag af) af) af)))
   (am (aD (bI (eR T) hr T.m_Q31 T.F_Q31.kp T.b_Q31 (ad (qv 1) (ad (qv 7) (ad (aB cO (bv av (qv 1) (qv 7)) (aP (ad (qv 4) ag af))) ag aJ) af) af))))))))) ?_
 extract_lets +lift
 try dsimp -zeta -zetaDelta only [Cx.nox,Cx.wish,bx]
 have len:=al.len
 have l24:=ok.len
 obtain⟨c,hc⟩:∃ c,pl[j]?=some c:=⟨_,List.getElem?_eq_getElem (by omega)⟩
 rw [List.getD_eq_getElem?_getD,hc] at hz
 replace hz:z < c.length:=hz
 obtain⟨xj,hxj⟩:∃ x,xs[j]?=some x:=⟨_,List.getElem?_eq_getElem (by omega)⟩
 obtain⟨c',hc',tv⟩:=al.at hxj
 rw [hc] at hc'
 cases hc'
 obtain⟨pt,zs,rfl,hSt,alt⟩:=tv
 have lz:=alt.len
 have mc:=List.mem_of_getElem? hc
 have w12:=ok.wd c mc
 obtain⟨y,hy⟩:∃ x,zs[z]?=some x:=⟨_,List.getElem?_eq_getElem (by omega)⟩
 obtain⟨q,hq,pv⟩:=alt.at hy
 have pb:=ok.pc c mc q (List.mem_of_getElem? hq)
 have AT:=ft (m:=m) T0.lst nD hD al ok m12
 have AP:∀ x∈zs,gM K m H t₁ D x:=fun x hx=>by
  obtain⟨q',hq',pv'⟩:=ge alt x hx
  exact wE T0.lst nD hD pv' (ok.pc c mc q' hq') (by omega)
 have hyP:=AP y (List.mem_of_getElem? hy)
 clear al alt
 refine⟨_,rfl,_,rfl,p,_,_,_,rfl,rfl,hS,aN hxj,_,rfl,pt,_,_,_,rfl,rfl,hSt,aN hy,?_⟩
 refine⟨_,rfl,_,rfl,p,_,_,_,rfl,rfl,hS,aN hxj,_,rfl,_,rfl,pt,zs,rfl,hSt,fun p1 H1 s1 h1=>?_⟩
 rw [iy (by omega)] at h1
 refine⟨_,rfl,_,rfl,p,_,_,_,rfl,rfl,aI.same (K:=K) s1 _ _ hS,aN hxj,_,rfl,_,_,rfl,rfl,_,rfl,pt,zs,rfl,aI.same (K:=K) s1 _ _ hSt,fun p2 H2 s2 h2=>?_⟩
 rw [show ((z:Int)+1)=((z+1:Nat):Int) by omega,iz (by omega)] at h2
 refine⟨p1,p2,_,_,rfl,rfl,aI.same (K:=K) s2 _ _ h1,h2,Nat.le_trans (show _≤1000 by rw [List.length_take,List.length_drop];omega) (by decide),fun p3 H3 s3 h3=>?_⟩
 have s13:=(s1.trans s2).trans s3
 have Tq:∀ x∈zs.take z++zs.drop (z+1),gM K m H3 t₁ D x:=fun x hx=>(AP x (oZ hx)).sm s13
 have lq:(zs.take z++zs.drop (z+1)).length≤12:=Nat.le_trans pE (by omega)
 replace AT:=fun x hx=>(AT x hx).sm s13
 replace hyP:=hyP.sm s13
 replace pv:=pv.mono (aI.same s13)
 replace hS:=aI.same (K:=K) s13 _ _ hS
 replace hD:=hD.imp fun _ q=>s13 _ _ q
 have S3:=Step.same s13 T0.lst
 have T3:=T0.same s13
 clear s1 s2 s3 h1 h2 hSt s13 T0 AP
 generalize zs.take z++zs.drop (z+1)=us at h3 Tq lq
 refine⟨_,rfl,t₁,s₀,3,rfl,T3,by decide,by decide,fun r4 x4 a4 b4 T4=>?_⟩
 have S4:B.Step t₁ H3 _:=Step.up (ys:=x4) T3.lst.choose_spec
 replace h3:=aI.step (K:=K) S4 _ _ h3
 replace Tq:=fun x hx=>(Tq x hx).st S4
 replace AT:=fun x hx=>(AT x hx).st S4
 replace hyP:=hyP.st S4
 replace pv:=pv.mono (aI.step (K:=K) S4)
 replace hS:=aI.step (K:=K) S4 _ _ hS
 replace hD:=hD.imp fun _ q=>S4.keep _ _ nD q
 replace S3:=S3.trans S4
 clear T3 S4
 generalize upd H3 t₁ (.lst x4)=H4 at h3 Tq AT hyP pv hS hD S3 T4 ⊢
 obtain⟨pc,va,rfl,hSc,ra⟩:=pv
 refine⟨rfl,_,rfl,gA (fun _=>?_) (fun _=>?_)⟩
 ·refine⟨_,rfl,pc,_,_,_,rfl,rfl,hSc,rfl,_,rfl,pc,_,_,_,rfl,rfl,hSc,rfl,dJ,fun p5 g5=>?_⟩
  have s5:=ak g5 (.tup [.int 1,.int 2])
  obtain⟨pb1,pb2,pb3,pb4,pb5⟩:=id pb
  refine⟨va,.ref p5,q.2,(1,2),110,4,rfl,ra.mono (aI.same s5),RV.of ai,pb3,⟨by decide,by decide,by decide,by decide⟩,by decide,fun p6 g6=>?_⟩
  have wt:Wf 230 (bG q.2 (1,2)):=(iD (m:=4) pb3 ⟨by decide,by decide,by decide,by decide⟩).mono (by decide)
  have okt:=jg pb1
  generalize bG q.2 (1,2)=qt at wt okt ⊢
  generalize upd H4 p5 (.tup [.int 1,.int 2])=H5 at s5 g6 ⊢
  have s6:=ak g6 (.tup [.int qt.1,.int qt.2])
  have rt:RV K (upd H5 p6 (.tup [.int qt.1,.int qt.2])) (.ref p6) qt:=RV.of ai
  have s46:=s5.trans s6
  clear s5 s6 g5 g6
  generalize upd H5 p6 (.tup [.int qt.1,.int qt.2])=H6 at s46 rt ⊢
  refine⟨dJ,fun p7 g7=>?_⟩
  have n230:q.1.natAbs < 2 ^ 230:=Nat.lt_of_lt_of_le (show q.1.natAbs < 2 ^ 10 by omega) (by decide)
  have hf:gM K m (upd H6 p7 (.tup [.int q.1,.ref p6])) t₁ D (.ref p7):=eO (q:=qt) (T4.same s46).lst nD (hD.imp fun _ q=>s46 _ _ q) g7 (.int _) (gW (cH n230)) rt ⟨wt.top,wt.bot⟩ (fun _=>okt)
  have s47:=s46.trans (ak g7 (.tup [.int q.1,.ref p6]))
  clear s46 g7 rt
  generalize upd H6 p7 (.tup [.int q.1,.ref p6])=H7 at hf s47 ⊢
  refine⟨_,rfl,_,rfl,_,rfl,_,rfl,_,rfl,dJ,fun p8 g8=>?_⟩
  have s8:=ak g8 (.tup [.ref p7,.ref p7])
  have h8:aV K (upd H7 p8 (.tup [.ref p7,.ref p7])) p8 [.ref p7,.ref p7]:=aV.of ai
  generalize upd H7 p8 (.tup [.ref p7,.ref p7])=H8 at s8 h8 ⊢
  have s48:=s47.trans s8
  refine⟨p3,p8,_,_,rfl,rfl,aI.same (K:=K) s48 _ _ h3,h8,Nat.le_trans (show _≤1000 by show _+2≤1000;omega) (by decide),fun p9 H9 s9 h9=>?_⟩
  have s49:=s48.trans s9
  refine⟨p,xs,j,.ref p9,rfl,aI.same (K:=K) s49 _ _ hS,by omega,by omega,fun r HA sA hA=>?_⟩
  have s4A:=s49.trans sA
  have TA:=T4.same s4A
  have hDA:∃ ys,HA D=some (.lst ys):=hD.imp fun _ q=>s4A _ _ q
  refine k _ _ (S3.trans (Step.same s4A T4.lst)) TA (fc TA.lst nD hDA hA (fun x hx=>(AT x hx).sm s4A) (jF TA.lst nD hDA (aI.same (K:=K) sA _ _ h9) (fun x hx=>?_) ?_) (by omega))
  ·rcases List.mem_append.mp hx with h | h
   ·exact (Tq x h).sm s4A
   ·have:x=.ref p7:=by simpa using h
    rw [this];exact hf.sm ((s8.trans s9).trans sA)
  ·rw [List.length_append]
   show _+2≤15
   omega
 ·refine⟨_,rfl,t₁,s₀,24,rfl,T4,by decide,by decide,fun r5 x5 a5 b5 T5=>?_⟩
  have S5:B.Step t₁ H4 _:=Step.up (ys:=x5) T4.lst.choose_spec
  have Tr:nh K m _ t₁ D (.ref p3):=nh.st S5 ⟨p3,_,rfl,h3,Tq,lq⟩
  replace AT:=fun x hx=>(AT x hx).st S5
  replace hyP:=hyP.st S5
  replace hS:=aI.step (K:=K) S5 _ _ hS
  replace hD:=hD.imp fun _ q=>S5.keep _ _ nD q
  replace S3:=S3.trans S5
  clear T4 S5 h3 hSc ra Tq
  generalize upd H4 t₁ (.lst x5)=H5 at Tr AT hyP hS hD S3 T5 ⊢
  obtain⟨o,rfl⟩:=Int.eq_ofNat_of_zero_le a5
  refine⟨_,rfl,_,rfl,_,rfl,p,xs,j,.ref p3,rfl,hS,by omega,by omega,fun r H6 s6 h6=>?_⟩
  have A6:∀ x∈xs.set j (.ref p3),nh K m H6 t₁ D x:=fun x hx=>(List.mem_or_eq_of_mem_set hx).elim (fun q=>(AT x q).sm s6) fun q=>by rw [q];exact Tr.sm s6
  have l6:(xs.set j (.ref p3)).length=24:=by rw [List.length_set];omega
  generalize xs.set j (.ref p3)=xs' at h6 A6 l6
  obtain⟨xo,hxo⟩:∃ x,xs'[o]?=some x:=⟨_,List.getElem?_eq_getElem (by omega)⟩
  obtain⟨ao,us',rfl,ho,uo,lo⟩:=A6 xo (List.mem_of_getElem? hxo)
  refine⟨_,rfl,_,rfl,_,rfl,_,rfl,r,_,_,_,rfl,rfl,h6,aN hxo,_,rfl,vn,fun p8 g8=>?_⟩
  have s8:=ak g8 (.tup [.ref pc])
  have h8:aV K (upd H6 p8 (.tup [.ref pc])) p8 [.ref pc]:=aV.of ai
  generalize upd H6 p8 (.tup [.ref pc])=H8 at s8 h8 ⊢
  refine⟨ao,p8,_,_,rfl,rfl,aI.same (K:=K) s8 _ _ ho,h8,Nat.le_trans (show _≤1000 by show _+1≤1000;omega) (by decide),fun p9 H9 s9 h9=>?_⟩
  have s69:=s8.trans s9
  refine⟨r,xs',o,.ref p9,rfl,aI.same (K:=K) s69 _ _ h6,by omega,by omega,fun r2 HA sA hA=>?_⟩
  have s6A:=s69.trans sA
  have s5A:=s6.trans s6A
  have TA:=T5.same s5A
  have hDA:∃ ys,HA D=some (.lst ys):=hD.imp fun _ q=>s5A _ _ q
  refine k _ _ (S3.trans (Step.same s5A T5.lst)) TA (fc TA.lst nD hDA hA (fun x hx=>(A6 x hx).sm s6A) (jF TA.lst nD hDA (aI.same (K:=K) sA _ _ h9) (fun x hx=>?_) ?_) (by omega))
  ·rcases List.mem_append.mp hx with h | h
   ·exact (uo x h).sm s6A
   ·rw [List.mem_singleton.mp h];exact hyP.sm s5A
  ·rw [List.length_append]
   show _+1≤15
   omega
theorem AE (T:dM K mg t):bh P w K mg base cZ 1 t.a_Q11 t.d_Q11 ["_law_plan_here", "_law_one", "_law_other"] (iH K):=by
 refine T.F_Q11.ok ss (fun vs H Q E h=>?_) (fun cdv A outer s H vs Q E hr h=>?_)
 ·obtain⟨_,_,_,_,rfl,_⟩:=h;rfl
 obtain⟨v,pl,a,b,rfl,⟨p,xs,rfl,hS,al⟩,l24,wd,k⟩:=h
 refine cM.ok (aj (cn 3 ss.nd (tL (qv 1) (qv 2) (qv 2) (qv 1)))
   (am (aD (bJ bV (by rfl) T.z_tuple boot_tuple (ad (bC (N':=["_law_turn", "_law_names"]) (src:=[none,some 3]) rfl (by exact (dH (qv 0))) (fun _ _ _ _ _=>(by exact (by exact ay (i:=0) (by show List.Nodup (["_law_turn", "_law_names"]:List Str);decide +kernel) (by exact rfl) (by first | exact Or.inl rfl | exact Or.inr rfl)))) (fun _ _ _ _ _=>bQ) (fun _ _ _ _ _=>(by exact (by exact (bJ (eW (K:=K) (by exact rfl)) (by exact rfl) T.z_tuple boot_tuple (ad (by exact (bC (N':=["_law_n", "_law_amount", "_law_names"]) (src:=[none,none,some 1]) (by exact rfl) (by exact (vV (K:=K) (by exact rfl) (by exact (qv 0)))) (by exact fun _ _ _ _ _=>(by exact (by exact fZ (K:=K) (n:=2) (by exact rfl) (by exact rfl) (by exact aR (by exact ay (i:=0) (by show List.Nodup (["_law_n", "_law_amount", "_law_names"]:List Str);decide +kernel) (by exact rfl) (by first | exact Or.inl rfl | exact Or.inr rfl)) (by exact aR (by exact ay (i:=1) (by show List.Nodup (["_law_n", "_law_amount", "_law_names"]:List Str);decide +kernel) (by exact rfl) (by first | exact Or.inl rfl | exact Or.inr rfl)) bZ))))) (by exact fun _ _ _ _ _=>bQ) (by exact fun _ _ _ _ _=>(by exact (by exact (aP (ad (by exact (l4 (by exact mH hr) (by exact (qv 2)) (by exact (qv 0)) (by exact (qv 0)) (by exact⟨rfl,rfl,rfl,rfl⟩))) (ad (by exact (qv 1)) ag af) ax))))) (by exact⟨rfl,rfl,rfl,rfl,trivial⟩) (by exact rfl) (by decide +kernel) (by exact rfl) (by decide +kernel) (by exact aY rfl ⟨rfl,trivial⟩))) ag cN))))) (by exact⟨rfl,rfl,rfl,rfl,trivial⟩) rfl (by decide +kernel) rfl (by decide +kernel) (by exact aY rfl ⟨rfl,trivial⟩)) ag cN))))) ?_
 extract_lets +lift
 try dsimp -zeta -zetaDelta only [Cx.nox,Cx.wish,bx]
 have len:=al.len
 intro d hd
 refine⟨_,rfl,_,rfl,_,rfl,_,rfl,ai,[(.inl a,.int b),(.inl b,.int a)],rfl,(by show 2≤15;decide),?_⟩
 have s1:aA H (upd (upd H d (.dK [])) d (.dK (dm [] [(.inl a,.int b),(.inl b,.int a)]))):=fun q o h=>by
  have ne:=aM h hd
  rw [aw ne,aw ne];exact h
 have hd1:(upd (upd H d (.dK [])) d (.dK (dm [] [(.inl a,.int b),(.inl b,.int a)]))) d=some (.dK (dm [] [(.inl a,.int b),(.inl b,.int a)])):=ai
 generalize upd (upd H d (.dK [])) d (.dK (dm [] [(.inl a,.int b),(.inl b,.int a)]))=H1 at s1 hd1 ⊢
 have hS1:=aI.same (K:=K) s1 _ _ hS
 have al1:=al.mono fun _ _ z=>z.mono (aI.same s1)
 refine⟨_,rfl,p,rfl,⟨_,hS1⟩,fun D1 hD1=>de (K:=K) (a:=p) (xs:=xs) (ds:=pl) (P:=rC K) (f:=fun t=>t.map (Dt a b)) (fun _ _ _ _ t z=>z.mono t) hD1 hS1 len (by omega) (fun i x c H' hx hc s' R E kR=>?_) fun H2 ys s2 h2 al2=>?_⟩
 ·obtain⟨c',hc',tv⟩:=al1.at hx
  rw [hc] at hc'
  cases hc'
  obtain⟨pt,zs,rfl,hSt,alt⟩:=tv.mono (aI.same s')
  have lt:=wd c (List.mem_of_getElem? hc)
  have hd2:=s' _ _ hd1
  refine⟨dz.set rfl,_,rfl,pt,rfl,⟨_,hSt⟩,fun D2 hD2=>de (K:=K) (a:=pt) (xs:=zs) (ds:=c) (P:=m6 K) (f:=Dt a b) (fun _ _ _ _ t z=>z.mono t) hD2 hSt alt.len (by omega) (fun i' y q H'' hy hq s'' R' E' kR'=>?_) fun H3 us s3 h3 al3=>?_⟩
  ·obtain⟨q',hq',pv⟩:=alt.at hy
   rw [hq] at hq'
   cases hq'
   obtain⟨pc,z,rfl,hSc,rz⟩:=pv.mono (aI.same s'')
   have hd3:=s'' _ _ hd2
   refine⟨pc,_,rfl,hSc,rfl,_,_,rfl,_,_,rfl,rfl,dz.set' (dz.set rfl) rfl,?_⟩
   refine⟨_,rfl,d,rfl,.inl ⟨_,.inl hd3⟩,_,rfl,_,rfl,_,jq.k (k:=.inl q.1) hd3,_,rfl,dJ,fun p4 g4=>?_⟩
   rw [yP]
   have s4:=ak g4 (.tup [.int (yQ a b q.1),z])
   exact kR' _ _ s4 ⟨p4,z,rfl,aV.of ai,rz.mono (aI.same s4)⟩
  refine⟨D2,us,rfl,.inl ⟨aQ.of h3,fun p5 g5=>?_⟩⟩
  have s5:=ak g5 (.tup us)
  exact kR _ _ (s3.trans s5) ⟨p5,us,rfl,aV.of ai,al3.mono fun _ _ z=>z.mono (aI.same s5)⟩
 refine⟨D1,ys,rfl,.inl ⟨aQ.of h2,fun p5 g5=>?_⟩⟩
 have s5:=ak g5 (.tup ys)
 exact k _ _ ((s1.trans s2).trans s5) ⟨p5,ys,rfl,aV.of ai,al2.mono fun _ _ z=>z.mono (aI.same s5)⟩
theorem At (T:dM K mg t):bh P w K mg base cZ 5 t.a_Q32 t.d_Q32 ["_law_tape_here", "_law_sheet", "_law_plan_here"] (lW K):=by
 refine T.F_Q32.ok gk (fun vs H Q E h=>?_) (fun cdv A outer s H vs Q E hr h=>?_)
 ·obtain⟨_,_,_,_,_,_,_,_,rfl,_⟩:=h;rfl
 obtain⟨t₁,s₀,D,v,x,ws,ls,pl,rfl,T0,nD,hD,hv,⟨p,xs,rfl,hS,al⟩,ok,n12,k⟩:=h
 refine cM.ok (aj (ee (i:=3) (N':=["_law_t", "_law_plan_here"]) (src:=[none,some 2]) gk.nd rfl (by first | exact Or.inl rfl | exact Or.inr rfl) rfl (by exact (bK rfl T.z_range (ad ah ag aq))) (fun _ _ _ _ _=>(by exact (by exact ay (i:=0) (by show List.Nodup (["_law_t", "_law_plan_here"]:List Str);decide +kernel) (by exact rfl) (by first | exact Or.inl rfl | exact Or.inr rfl)))) (fun _ _ _ _ _=>(d9 (aE (by exact wJ (K:=K) (by exact rfl) (by exact hr)) (by exact (bP (bj (K:=K) (by exact rfl)) (by exact (qv 1)) (by exact (qv 0)) (by exact fun _ _=>rfl))) (by exact (aP ag)) (aK _)))) (fun _ _ _ _ _=>(by exact (by exact (qv 0)))) (by exact⟨rfl,rfl,rfl,rfl,trivial⟩) rfl (by decide +kernel) rfl (by decide +kernel) (by exact aY rfl ⟨rfl,trivial⟩))
   (aj (cn 4 gk.nd (bI (bb T) hr T.m_Q27 T.F_Q27.kp T.b_Q27 (ad (qv 0) (ad ah ag aq) af)))
   (aj (be (fx (dA (aE cS (qv 4) ah (aK _)) (fH (aE (uu hr) (qv 3) (bH ag) (aK _))))) (aj (cn 5 gk.nd (bH (ad (bJ eD (by rfl) T.z_list boot_list (ad (qv 2) ag af)) (ad (bU cE (qv 2) (cz ah) cA) (ad (aB cO (qv 2) (aP (ad (aP ag) ag aZ))) (ad kD (ad (aP ag) (ad (aB cO (aB cO (bU cE (qv 2) cA (cz ah)) (aP (ad (bH ag) ag sd))) (bU cE (qv 2) (cz ah) cA)) (ad (tI (qv 2)) ag aG) aJ) aZ) aq) aJ) aG) ax)))
   (am (aD (bv aX (qv 5) (bI (bb T) hr T.m_Q27 T.F_Q27.kp T.b_Q27 (ad (qv 0) (ad ah ag aq) af)))))) aO)
   (aj (cn 6 gk.nd (bv aX (qv 3) (bI (bb T) hr T.m_Q27 T.F_Q27.kp T.b_Q27 (ad (qv 0) (ad (ar aC (by rfl) T.z_len boot_len (ad (qv 3) ag af)) ag ax) af))))
   (aj (cn 7 gk.nd (bI (bb T) hr T.m_Q27 T.F_Q27.kp T.b_Q27 (ad (qv 0) (ad (ar aC (by rfl) T.z_len boot_len (ad (bv av (qv 2) (qv 6)) ag aG)) ag ax) af)))
   (aj (be (aE eQ (qv 4) ah (aK _)) (am (aD (bI (eR T) hr T.m_Q31 T.F_Q31.kp T.b_Q31 (ad (qv 2) (ad (qv 6) (ad (bI (eR T) hr T.m_Q31 T.F_Q31.kp T.b_Q31 (ad (bv av (qv 2) (qv 6)) (ad (qv 7) (ad (bI (CC T) hr T.m_Q4 T.F_Q4.kp T.b_Q4 (ad (qv 0) (ad (bv av (bv av (qv 2) (qv 6)) (qv 7)) (ad (ar aC (by rfl) T.z_len boot_len (ad (bv av (qv 1) ah) ag aG)) ag ax) aG) af)) ag ax) af) aG)) ag ax) af) af)))) aO)
   (aj (be (aE eQ (qv 4) ah (aK _)) (am (aD (bI (Az T) hr T.m_Q20 T.F_Q20.kp T.b_Q20 (ad (qv 0) (ad (qv 2) (ad (qv 6) (ad (qv 7) ag af) af) af) af)))) aO)
   (aj (be (aE cS (qv 4) ah (aK _)) (am (aD (bI (eR T) hr T.m_Q31 T.F_Q31.kp T.b_Q31 (ad (qv 2) (ad (qv 6) (ad (aB cO (bU cE (bv av (qv 2) (qv 6)) cA (cz (qv 7))) (bU cE (bv av (qv 2) (qv 6)) (cz (aB bg (qv 7) ah)) cA)) ag aJ) af) af)))) aO)
   (aj (be (aE cS (qv 4) ah (aK _)) (am (aD (bI (eR T) hr T.m_Q31 T.F_Q31.kp T.b_Q31 (ad (qv 2) (ad (qv 6) (ad (tI (bv av (qv 2) (qv 6))) ag aG) af) af)))) aO)
   (aj (be (aE cS (qv 4) ah (aK _)) (am (aD (bI (eR T) hr T.m_Q31 T.F_Q31.kp T.b_Q31 (ad (qv 2) (ad (qv 6) (ad (bJ eD (by rfl) T.z_list boot_list (ad (bv av (qv 2) (qv 6)) ag aG)) ag ax) af) af)))) aO)
   (am (aD (bI (AE T) hr T.m_Q11 T.F_Q11.kp T.b_Q11 (ad (qv 2) (ad (bv av (bv av (bv av (qv 2) (qv 6)) (qv 7)) ah) (ad (bI (bb T) hr T.m_Q27 T.F_Q27.kp T.b_Q27 (ad (qv 0) (ad (ar aC (by rfl) T.z_len boot_len (ad (bv av (qv 1) ah) ag aG)) ag ax) af)) ag ax) aG) af)))))))))))))) ?_
 extract_lets +lift
 try dsimp -zeta -zetaDelta only [Cx.nox,Cx.wish,bx]
 have len:=al.len
 have l24:=ok.len
 have B:Bl K ws.length H H t₁ s₀ D p xs pl v ws ls [] []:=⟨Step.refl T0.lst,T0,nD,hD,hS,al,hv,(fun x h=>by cases h),(fun x h=>by cases h)⟩
 clear T0 nD hD hS al hv
 refine⟨24,rfl,by decide,by decide,fun D1 hD1=>mX (K:=K) (P:=fun _ v (j:Nat)=>v=V.int (j:Nat)) (p:=fun j=>!(pl.getD j []).isEmpty) (f:=fun j=>j) (fun _ _ _ _ _ z=>z) hD1 (by decide) (fun j H' hj s' R E kR kE=>?_) fun H2 us s2 h2 al2=>?_⟩
 ·have hj':j < 24:=hj
  rw [Int.zero_add]
  have B':=B.sm s'
  obtain⟨x,hx⟩:∃ x,xs[j]?=some x:=⟨_,List.getElem?_eq_getElem (by omega)⟩
  obtain⟨c,hc,tv⟩:=B'.al.at hx
  rw [cm [] hc] at kR kE
  have mc:=List.mem_of_getElem? hc
  obtain⟨pt,zs,rfl,hSt,alt⟩:=tv
  have lz:=alt.len
  have w12:=ok.wd c mc
  obtain⟨ds,dd,gd,ld⟩:=vB (m:=ws.length) B'.T.lst B'.nD B'.hD hSt (fun y hy=>by
   obtain⟨q,hq,pv⟩:=ge alt y hy
   exact wE B'.T.lst B'.nD B'.hD pv (ok.pc c mc q hq) (by omega)) (by omega)
  refine⟨dz.set rfl,_,rfl,_,rfl,p,_,_,_,rfl,rfl,B'.hS,aN hx,rB,fun q hq=>?_⟩
  have sq:=ak hq (.tup [])
  refine⟨.tuple ds,.tuple [],dd.same sq,.tup (aV.of ai) .nil,gd.lay,rfl,Nat.le_trans gd.sh.dp (by decide),_,rfl,?_⟩
  rw [C0]
  have e1:ds.isEmpty=c.isEmpty:=by
   cases ds <;> cases c <;> first | rfl | (exfalso;simp only [List.length_nil,List.length_cons] at ld lz;omega)
  rw [e1]
  cases ce:c.isEmpty with
  | true=>exact cC (kE (by rw [ce];rfl) _ sq)
  | false=>exact bM ⟨_,rfl,kR (by rw [ce];rfl) _ _ sq rfl⟩
 rw [List.map_id'' (fun _=>rfl)] at al2
 have hus:=xD al2
 subst hus
 have B2:=B.sm s2
 have nD1:D1≠t₁:=fun z=>by subst z;obtain⟨_,e⟩:=B.T.lst;rw [hD1] at e;cases e
 replace B:Bl K ws.length H H2 t₁ s₀ D p xs pl v ws ls [] [(D1,eI ((List.range 24).filter fun j=>!(pl.getD j []).isEmpty))]:=⟨B2.S,B2.T,B2.nD,B2.hD,B2.hS,B2.al,B2.hv,B2.PL,fun x hx=>by rw [List.mem_singleton.mp hx];exact⟨nD1,h2⟩⟩
 clear B2 h2 al2 s2 hD1
 obtain⟨sp,hsp⟩:∃ sp,sp=(List.range 24).filter fun j=>!(pl.getD j []).isEmpty:=⟨_,rfl⟩
 rw [← hsp] at B
 have lsp:sp.length≤24:=by rw [hsp];exact Nat.le_trans (List.length_filter_le _ _) (by rw [List.length_range];exact Nat.le_refl _)
 refine⟨_,rfl,t₁,s₀,10,rfl,B.T,by decide,by decide,fun r3 x3 a3 b3 T3=>?_⟩
 replace B:=B.dr T3
 generalize upd H2 t₁ (.lst x3)=H3 at B ⊢
 clear T3
 refine⟨_,rfl,rfl,_,rfl,?_⟩
 by_cases c0:r3=0
 ·refine cr (by rw [c0]) ?_
  have AT:=ft (m:=ws.length) B.T.lst B.nD B.hD B.al ok n12
  refine⟨_,rfl,p,_,rfl,.inr B.hS,fun p1 g1=>?_⟩
  have q1:=Cp B.T.lst B.hD g1 (fun x hx=>(AT x hx).tu B.T.lst B.nD B.hD) (by omega:xs.length≤26)
  clear AT
  replace B:=(B.sm (ak g1 (.lst xs))).pl' q1
  clear q1
  generalize upd H3 p1 (.lst xs)=G1 at B  ⊢
  clear g1
  refine⟨_,rfl,_,rfl,p,xs,rfl,B.hS,fun p2 G2 e2 h2=>?_⟩
  rw [pF (xs:=xs) (b:=1) (n:=1) rfl (by omega)] at h2
  replace B:=B.sm e2
  have AT:=ft (m:=ws.length) B.T.lst B.nD B.hD B.al ok n12
  replace B:=B.pl' (ia B.T.lst B.nD B.hD h2 (fun x hx=>(fun x hx=>(AT x hx).tu B.T.lst B.nD B.hD) x (List.mem_of_mem_drop hx)) (by rw [List.length_drop];omega))
  clear e2 h2 AT
  refine⟨_,rfl,rB,fun p3 g3=>?_⟩
  have a3:nh K ws.length (upd G2 p3 (.tup [])) t₁ D (.ref p3):=⟨p3,[],rfl,aV.of ai,(fun x hx=>by cases hx),Nat.zero_le _⟩
  replace B:=B.sm (ak g3 (.tup []))
  generalize upd G2 p3 (.tup [])=G3 at B a3 ⊢
  clear g3
  refine⟨vn,fun p4 g4=>?_⟩
  have h4:aV K (upd G3 p4 (.tup [.ref p3])) p4 [.ref p3]:=aV.of ai
  replace a3:=a3.sm (ak g4 (.tup [.ref p3]))
  replace B:=B.sm (ak g4 (.tup [.ref p3]))
  generalize upd G3 p4 (.tup [.ref p3])=G4 at B a3 h4 ⊢
  clear g4
  refine⟨p,p4,_,_,rfl,rfl,B.hS,h4,Nat.le_trans (show _≤1000 by show _+1≤1000;omega) (by decide),fun p5 G5 e5 h5=>?_⟩
  replace B:=B.sm e5
  replace a3:=a3.sm e5
  have AT:=ft (m:=ws.length) B.T.lst B.nD B.hD B.al ok n12
  replace B:=B.pl' (ia B.T.lst B.nD B.hD h5 (fun x hx=>by
   rcases List.mem_append.mp hx with z | z
   ·exact (AT x z).tu B.T.lst B.nD B.hD
   ·rw [List.mem_singleton.mp z];exact a3.tu B.T.lst B.nD B.hD) (by rw [List.length_append];show _+1≤26;omega))
  clear e5 h5 h4 a3 AT
  refine⟨rB,fun p6 g6=>?_⟩
  have h6:aV K (upd G5 p6 (.tup [])) p6 []:=aV.of ai
  replace B:=B.sm (ak g6 (.tup []))
  generalize upd G5 p6 (.tup [])=G6 at B h6 ⊢
  clear g6
  replace B:=B.pl' (ia B.T.lst B.nD B.hD h6 (fun x hx=>by cases hx) (Nat.zero_le _))
  clear h6
  refine⟨_,rfl,_,rfl,p,xs,rfl,B.hS,fun p7 G7 e7 h7=>?_⟩
  rw [yA (xs:=xs) (b:=5) (n:=5) rfl (by omega)] at h7
  replace B:=B.sm e7
  clear e7
  refine⟨rB,fun p8 g8=>?_⟩
  have a8:ng K ws.length (upd G7 p8 (.lst [])) t₁ D (.ref p8):=yK B.T.lst B.hD g8 (fun x hx=>by cases hx) (Nat.zero_le _)
  replace h7:=aI.same (K:=K) (ak g8 (.lst [])) _ _ h7
  replace B:=B.sm (ak g8 (.lst []))
  generalize upd G7 p8 (.lst [])=G8 at B a8 h7 ⊢
  clear g8
  refine⟨vn,fun p9 g9=>?_⟩
  have h9:aV K (upd G8 p9 (.tup [.ref p8])) p9 [.ref p8]:=aV.of ai
  replace a8:=a8.sm (ak g9 (.tup [.ref p8]))
  replace h7:=aI.same (K:=K) (ak g9 (.tup [.ref p8])) _ _ h7
  replace B:=B.sm (ak g9 (.tup [.ref p8]))
  generalize upd G8 p9 (.tup [.ref p8])=G9 at B a8 h7 h9 ⊢
  clear g9
  refine⟨p7,p9,_,_,rfl,rfl,h7,h9,Nat.le_trans (show _≤1000 by rw [List.length_take];show _+1≤1000;omega) (by decide),fun p10 G10 e10 h10=>?_⟩
  replace B:=B.sm e10
  replace a8:=a8.sm e10
  clear h7 h9 e10
  refine⟨_,rfl,_,rfl,p,xs,rfl,B.hS,fun p11 G11 e11 h11=>?_⟩
  rw [pF (xs:=xs) (b:=6) (n:=6) rfl (by omega)] at h11
  replace B:=B.sm e11
  replace a8:=a8.sm e11
  replace h10:=aI.same (K:=K) e11 _ _ h10
  clear e11
  refine⟨p10,p11,_,_,rfl,rfl,h10,h11,Nat.le_trans (show _≤1000 by rw [List.length_append,List.length_take,List.length_drop];show _+1+_≤1000;omega) (by decide),fun p12 G12 e12 h12=>?_⟩
  replace B:=B.sm e12
  replace a8:=a8.sm e12
  have AT:=ft (m:=ws.length) B.T.lst B.nD B.hD B.al ok n12
  replace B:=B.pl' (ia B.T.lst B.nD B.hD h12 (fun x hx=>by
   rcases List.mem_append.mp hx with z | z
   ·rcases List.mem_append.mp z with z | z
    ·exact (AT x (List.mem_of_mem_take z)).tu B.T.lst B.nD B.hD
    ·rw [List.mem_singleton.mp z];exact a8
   ·exact (AT x (List.mem_of_mem_drop z)).tu B.T.lst B.nD B.hD) (by rw [List.length_append,List.length_append,List.length_take,List.length_drop];show _+1+_≤26;omega))
  clear e12 h10 h11 h12 a8 AT
  refine⟨_,rfl,p,xs,rfl,B.hS,fun p13 g13=>?_⟩
  have h13:aV K (upd G12 p13 (.tup xs.reverse)) p13 xs.reverse:=aV.of ai
  replace B:=B.sm (ak g13 (.tup xs.reverse))
  generalize upd G12 p13 (.tup xs.reverse)=G13 at B h13 ⊢
  clear g13
  have AT:=ft (m:=ws.length) B.T.lst B.nD B.hD B.al ok n12
  replace B:=B.pl' (ia B.T.lst B.nD B.hD h13 (fun x hx=>(fun x hx=>(AT x hx).tu B.T.lst B.nD B.hD) x (List.mem_reverse.mp hx)) (by rw [List.length_reverse];omega))
  replace B:=B.pl' tV
  clear h13 AT
  refine⟨DP,fun p14 g14=>?_⟩
  replace B:=B.ns (us:=[V.ref p1,V.ref p2,V.ref p5,V.non,V.ref p6,V.ref p12,V.ref p13]) g14
  generalize upd G13 p14 (.lst [V.ref p1,V.ref p2,V.ref p5,V.non,V.ref p6,V.ref p12,V.ref p13])=G14 at B  ⊢
  clear g14
  refine⟨_,rfl,_,rfl,t₁,s₀,7,rfl,B.T,by decide,by decide,fun r15 x15 a15 b15 T15=>?_⟩
  replace B:=B.dr T15
  generalize upd G14 t₁ (.lst x15)=G15 at B ⊢
  clear T15
  obtain⟨i,rfl⟩:=Int.eq_ofNat_of_zero_le a15
  obtain⟨y,hy⟩:∃ y,([V.ref p1,V.ref p2,V.ref p5,V.non,V.ref p6,V.ref p12,V.ref p13]:List V)[i]?=some y:=⟨_,List.getElem?_eq_getElem (by show i < 7;omega)⟩
  have py:jr K ws.length G15 t₁ D y:=by
   have hm:=List.mem_of_getElem? hy
   simp only [List.mem_cons,List.not_mem_nil,or_false] at hm
   refine B.PL _ ?_
   simp only [List.mem_cons,List.not_mem_nil,or_false]
   rcases hm with z | z | z | z | z | z | z <;> rw [z] <;> simp
  exact⟨p14,_,_,_,rfl,rfl,aQ.of (B.LL _ (.head _)).2,aN hy,k y _ B.S B.T py⟩
 refine cu (fun z=>c0 (by injection z)) ?_
 refine⟨_,rfl,rB,fun q hq=>?_⟩
 have sq:=ak hq (.lst [])
 have hqq:upd H3 q (.lst []) q=some (.lst []):=ai
 replace B:=B.sm sq
 generalize upd H3 q (.lst [])=H4 at B hqq ⊢
 clear sq hq
 refine⟨.list (jw sp),.list [],.lst (aQ.of (B.LL _ (.head _)).2) (gG sp),.lst (aQ.of hqq) .nil,iW sp,rfl,(by have:=i7 sp;show PyData.depthAll (jw sp)+1≤32;omega),_,rfl,?_⟩
 rw [mQ]
 clear hqq
 cases hse:sp.isEmpty with
 | true=>
  refine bM ?_
  have AT:=ft (m:=ws.length) B.T.lst B.nD B.hD B.al ok n12
  refine⟨_,rfl,p,_,rfl,.inr B.hS,fun p1 g1=>?_⟩
  have q1:=Cp B.T.lst B.hD g1 (fun x hx=>(AT x hx).tu B.T.lst B.nD B.hD) (by omega:xs.length≤26)
  clear AT
  replace B:=(B.sm (ak g1 (.lst xs))).pl' q1
  clear q1
  generalize upd H4 p1 (.lst xs)=G1 at B  ⊢
  clear g1
  refine⟨_,rfl,_,rfl,p,xs,rfl,B.hS,fun p2 G2 e2 h2=>?_⟩
  rw [pF (xs:=xs) (b:=1) (n:=1) rfl (by omega)] at h2
  replace B:=B.sm e2
  have AT:=ft (m:=ws.length) B.T.lst B.nD B.hD B.al ok n12
  replace B:=B.pl' (ia B.T.lst B.nD B.hD h2 (fun x hx=>(fun x hx=>(AT x hx).tu B.T.lst B.nD B.hD) x (List.mem_of_mem_drop hx)) (by rw [List.length_drop];omega))
  clear e2 h2 AT
  refine⟨_,rfl,rB,fun p3 g3=>?_⟩
  have a3:nh K ws.length (upd G2 p3 (.tup [])) t₁ D (.ref p3):=⟨p3,[],rfl,aV.of ai,(fun x hx=>by cases hx),Nat.zero_le _⟩
  replace B:=B.sm (ak g3 (.tup []))
  generalize upd G2 p3 (.tup [])=G3 at B a3 ⊢
  clear g3
  refine⟨vn,fun p4 g4=>?_⟩
  have h4:aV K (upd G3 p4 (.tup [.ref p3])) p4 [.ref p3]:=aV.of ai
  replace a3:=a3.sm (ak g4 (.tup [.ref p3]))
  replace B:=B.sm (ak g4 (.tup [.ref p3]))
  generalize upd G3 p4 (.tup [.ref p3])=G4 at B a3 h4 ⊢
  clear g4
  refine⟨p,p4,_,_,rfl,rfl,B.hS,h4,Nat.le_trans (show _≤1000 by show _+1≤1000;omega) (by decide),fun p5 G5 e5 h5=>?_⟩
  replace B:=B.sm e5
  replace a3:=a3.sm e5
  have AT:=ft (m:=ws.length) B.T.lst B.nD B.hD B.al ok n12
  replace B:=B.pl' (ia B.T.lst B.nD B.hD h5 (fun x hx=>by
   rcases List.mem_append.mp hx with z | z
   ·exact (AT x z).tu B.T.lst B.nD B.hD
   ·rw [List.mem_singleton.mp z];exact a3.tu B.T.lst B.nD B.hD) (by rw [List.length_append];show _+1≤26;omega))
  clear e5 h5 h4 a3 AT
  refine⟨rB,fun p6 g6=>?_⟩
  have h6:aV K (upd G5 p6 (.tup [])) p6 []:=aV.of ai
  replace B:=B.sm (ak g6 (.tup []))
  generalize upd G5 p6 (.tup [])=G6 at B h6 ⊢
  clear g6
  replace B:=B.pl' (ia B.T.lst B.nD B.hD h6 (fun x hx=>by cases hx) (Nat.zero_le _))
  clear h6
  refine⟨_,rfl,_,rfl,p,xs,rfl,B.hS,fun p7 G7 e7 h7=>?_⟩
  rw [yA (xs:=xs) (b:=5) (n:=5) rfl (by omega)] at h7
  replace B:=B.sm e7
  clear e7
  refine⟨rB,fun p8 g8=>?_⟩
  have a8:ng K ws.length (upd G7 p8 (.lst [])) t₁ D (.ref p8):=yK B.T.lst B.hD g8 (fun x hx=>by cases hx) (Nat.zero_le _)
  replace h7:=aI.same (K:=K) (ak g8 (.lst [])) _ _ h7
  replace B:=B.sm (ak g8 (.lst []))
  generalize upd G7 p8 (.lst [])=G8 at B a8 h7 ⊢
  clear g8
  refine⟨vn,fun p9 g9=>?_⟩
  have h9:aV K (upd G8 p9 (.tup [.ref p8])) p9 [.ref p8]:=aV.of ai
  replace a8:=a8.sm (ak g9 (.tup [.ref p8]))
  replace h7:=aI.same (K:=K) (ak g9 (.tup [.ref p8])) _ _ h7
  replace B:=B.sm (ak g9 (.tup [.ref p8]))
  generalize upd G8 p9 (.tup [.ref p8])=G9 at B a8 h7 h9 ⊢
  clear g9
  refine⟨p7,p9,_,_,rfl,rfl,h7,h9,Nat.le_trans (show _≤1000 by rw [List.length_take];show _+1≤1000;omega) (by decide),fun p10 G10 e10 h10=>?_⟩
  replace B:=B.sm e10
  replace a8:=a8.sm e10
  clear h7 h9 e10
  refine⟨_,rfl,_,rfl,p,xs,rfl,B.hS,fun p11 G11 e11 h11=>?_⟩
  rw [pF (xs:=xs) (b:=6) (n:=6) rfl (by omega)] at h11
  replace B:=B.sm e11
  replace a8:=a8.sm e11
  replace h10:=aI.same (K:=K) e11 _ _ h10
  clear e11
  refine⟨p10,p11,_,_,rfl,rfl,h10,h11,Nat.le_trans (show _≤1000 by rw [List.length_append,List.length_take,List.length_drop];show _+1+_≤1000;omega) (by decide),fun p12 G12 e12 h12=>?_⟩
  replace B:=B.sm e12
  replace a8:=a8.sm e12
  have AT:=ft (m:=ws.length) B.T.lst B.nD B.hD B.al ok n12
  replace B:=B.pl' (ia B.T.lst B.nD B.hD h12 (fun x hx=>by
   rcases List.mem_append.mp hx with z | z
   ·rcases List.mem_append.mp z with z | z
    ·exact (AT x (List.mem_of_mem_take z)).tu B.T.lst B.nD B.hD
    ·rw [List.mem_singleton.mp z];exact a8
   ·exact (AT x (List.mem_of_mem_drop z)).tu B.T.lst B.nD B.hD) (by rw [List.length_append,List.length_append,List.length_take,List.length_drop];show _+1+_≤26;omega))
  clear e12 h10 h11 h12 a8 AT
  refine⟨_,rfl,p,xs,rfl,B.hS,fun p13 g13=>?_⟩
  have h13:aV K (upd G12 p13 (.tup xs.reverse)) p13 xs.reverse:=aV.of ai
  replace B:=B.sm (ak g13 (.tup xs.reverse))
  generalize upd G12 p13 (.tup xs.reverse)=G13 at B h13 ⊢
  clear g13
  have AT:=ft (m:=ws.length) B.T.lst B.nD B.hD B.al ok n12
  replace B:=B.pl' (ia B.T.lst B.nD B.hD h13 (fun x hx=>(fun x hx=>(AT x hx).tu B.T.lst B.nD B.hD) x (List.mem_reverse.mp hx)) (by rw [List.length_reverse];omega))
  replace B:=B.pl' tV
  clear h13 AT
  refine⟨DP,fun p14 g14=>?_⟩
  replace B:=B.ns (us:=[V.ref p1,V.ref p2,V.ref p5,V.non,V.ref p6,V.ref p12,V.ref p13]) g14
  generalize upd G13 p14 (.lst [V.ref p1,V.ref p2,V.ref p5,V.non,V.ref p6,V.ref p12,V.ref p13])=G14 at B  ⊢
  clear g14
  refine⟨_,rfl,_,rfl,t₁,s₀,7,rfl,B.T,by decide,by decide,fun r15 x15 a15 b15 T15=>?_⟩
  replace B:=B.dr T15
  generalize upd G14 t₁ (.lst x15)=G15 at B ⊢
  clear T15
  obtain⟨i,rfl⟩:=Int.eq_ofNat_of_zero_le a15
  obtain⟨y,hy⟩:∃ y,([V.ref p1,V.ref p2,V.ref p5,V.non,V.ref p6,V.ref p12,V.ref p13]:List V)[i]?=some y:=⟨_,List.getElem?_eq_getElem (by show i < 7;omega)⟩
  have py:jr K ws.length G15 t₁ D y:=by
   have hm:=List.mem_of_getElem? hy
   simp only [List.mem_cons,List.not_mem_nil,or_false] at hm
   refine B.PL _ ?_
   simp only [List.mem_cons,List.not_mem_nil,or_false]
   rcases hm with z | z | z | z | z | z | z <;> rw [z] <;> simp
  exact⟨p14,_,_,_,rfl,rfl,aQ.of (B.LL _ (.head _)).2,aN hy,k y _ B.S B.T py⟩
 | false=>
 refine cC ?_
 have psp:0 < sp.length:=by cases sp with | nil=>cases hse | cons _ _=>exact Nat.succ_pos _
 have lns:(eI sp).length=sp.length:=by unfold eI;rw [List.length_map]
 have hl4:H4 D1=some (.lst (eI sp)):=(B.LL _ (.head _)).2
 refine⟨_,rfl,_,rfl,_,rfl,D1,_,rfl,.inl (aQ.of hl4),t₁,s₀,_,rfl,B.T,by omega,by omega,fun r5 x5 a5 b5 T5=>?_⟩
 clear hl4
 replace B:=B.dr T5
 generalize upd H4 t₁ (.lst x5)=H5 at B ⊢
 clear T5
 obtain⟨i,rfl⟩:=Int.eq_ofNat_of_zero_le a5
 obtain⟨j,hj⟩:∃ j,sp[i]?=some j:=⟨_,List.getElem?_eq_getElem (by omega)⟩
 have hji:(eI sp)[i]?=some (.int (j:Nat)):=by unfold eI;rw [List.getElem?_map,hj];rfl
 have mj:=List.mem_of_getElem? hj
 rw [hsp] at mj
 obtain⟨m1,m2⟩:=List.mem_filter.mp mj
 have j24:j < 24:=List.mem_range.mp m1
 obtain⟨c,hc⟩:∃ c,pl[j]?=some c:=⟨_,List.getElem?_eq_getElem (by omega)⟩
 rw [cm [] hc] at m2
 have pc0:0 < c.length:=by cases c with | nil=>cases m2 | cons _ _=>exact Nat.succ_pos _
 have mc:=List.mem_of_getElem? hc
 have w12:=ok.wd c mc
 clear m1 m2 mj hj hsp
 refine⟨D1,_,_,_,rfl,rfl,aQ.of (B.LL _ (.head _)).2,aN hji,?_⟩
 clear hji
 obtain⟨xj,hxj⟩:∃ x,xs[j]?=some x:=⟨_,List.getElem?_eq_getElem (by omega)⟩
 obtain⟨c',hc',tv⟩:=B.al.at hxj
 rw [hc] at hc'
 cases hc'
 obtain⟨pt,zs,rfl,hSt,alt⟩:=tv
 have lz:=alt.len
 refine⟨_,rfl,_,rfl,_,rfl,p,_,_,_,rfl,rfl,B.hS,aN hxj,pt,_,rfl,.inr hSt,t₁,s₀,_,rfl,B.T,by omega,by omega,fun r6 x6 a6 b6 T6=>?_⟩
 have S6:_root_.B.Step t₁ H5 _:=Step.up (ys:=x6) B.T.lst.choose_spec
 replace hSt:=aI.step (K:=K) S6 _ _ hSt
 replace alt:=alt.mono fun _ _ z=>z.mono (aI.step (K:=K) S6)
 replace B:=B.dr T6
 clear S6 T6
 generalize upd H5 t₁ (.lst x6)=H6 at B hSt alt ⊢
 obtain⟨z,rfl⟩:=Int.eq_ofNat_of_zero_le a6
 have hz:z < c.length:=by omega
 obtain⟨y,hy⟩:∃ x,zs[z]?=some x:=⟨_,List.getElem?_eq_getElem (by omega)⟩
 obtain⟨q,hq,pv⟩:=alt.at hy
 have pb:=ok.pc c mc q (List.mem_of_getElem? hq)
 have m1:1≤ws.length:=by have:=pb.2.2.2;omega
 have AP:∀ x∈zs,gM K ws.length H6 t₁ D x:=fun x hx=>by
  obtain⟨q',hq',pv'⟩:=ge alt x hx
  exact wE B.T.lst B.nD B.hD pv' (ok.pc c mc q' hq') (by omega)
 obtain⟨ps,wa,wb,rfl,hSs,⟨pw,xw,rfl,hSw,alw⟩,hlv⟩:=id B.hv
 have lw:=alw.len
 refine⟨_,rfl,_,_,rfl,rfl,_,rfl,gA (fun _=>?_) (fun _=>?_)⟩
 ·refine⟨_,rfl,_,rfl,_,rfl,_,rfl,p,_,_,_,rfl,rfl,B.hS,aN hxj,_,rfl,_,rfl,_,rfl,_,rfl,p,_,_,_,rfl,rfl,B.hS,aN hxj,_,rfl,pt,_,_,_,rfl,rfl,hSt,aN hy,_,rfl,ps,_,_,_,rfl,rfl,hSs,rfl,pw,_,rfl,.inr hSw,t₁,s₀,D,y,ws.length,q,(by rw [lw];rfl),B.T,B.nD,B.hD,pv,pb,m1,n12,fun u H7 S7 T7 pu=>?_⟩
  replace AP:=fun x hx=>(AP x hx).st S7
  replace hSt:=aI.step (K:=K) S7 _ _ hSt
  replace B:=B.st S7 T7
  clear S7 T7
  refine⟨pt,zs,z,u,rfl,hSt,by omega,by omega,fun r8 H8 s8 h8=>?_⟩
  replace B:=B.sm s8
  refine⟨p,xs,j,.ref r8,rfl,B.hS,by omega,by omega,fun r9 H9 s9 h9=>?_⟩
  replace B:=B.sm s9
  have s79:=s8.trans s9
  have AT:=ft (m:=ws.length) B.T.lst B.nD B.hD B.al ok n12
  exact k _ _ B.S B.T (fc B.T.lst B.nD B.hD h9 AT (jF B.T.lst B.nD B.hD (aI.same (K:=K) s9 _ _ h8) (fun x hx=>(List.mem_or_eq_of_mem_set hx).elim (fun w=>(AP x w).sm s79) fun w=>by rw [w];exact pu.sm s79) (by rw [List.length_set];omega)) (by omega))
 refine⟨_,rfl,_,_,rfl,rfl,_,rfl,gA (fun _=>?_) (fun _=>?_)⟩
 ·exact⟨_,rfl,_,rfl,_,rfl,_,rfl,t₁,s₀,D,.ref p,ws.length,j,z,pl,rfl,B.T,B.nD,B.hD,⟨p,xs,rfl,B.hS,B.al⟩,ok,n12,j24,(by rw [cm [] hc];exact hz),fun u H7 S7 T7 pu=>k u H7 (B.S.trans S7) T7 pu⟩
 refine⟨_,rfl,rfl,_,rfl,gA (fun _=>?_) (fun _=>?_)⟩
 ·refine⟨_,rfl,_,rfl,?_⟩
  refine⟨_,rfl,_,rfl,p,_,_,_,rfl,rfl,B.hS,aN hxj,_,rfl,_,rfl,pt,zs,rfl,hSt,fun p1 H1 s1 h1=>?_⟩
  rw [iy (by omega)] at h1
  refine⟨_,rfl,_,rfl,p,_,_,_,rfl,rfl,aI.same (K:=K) s1 _ _ B.hS,aN hxj,_,rfl,_,_,rfl,rfl,_,rfl,pt,zs,rfl,aI.same (K:=K) s1 _ _ hSt,fun p2 H2 s2 h2=>?_⟩
  rw [show ((z:Int)+1)=((z+1:Nat):Int) by omega,iz (by omega)] at h2
  refine⟨p1,p2,_,_,rfl,rfl,aI.same (K:=K) s2 _ _ h1,h2,Nat.le_trans (show _≤1000 by rw [List.length_take,List.length_drop];omega) (by decide),fun p3 H3 s3 h3=>?_⟩
  have s13:=(s1.trans s2).trans s3
  replace B:=B.sm s13
  refine⟨p,xs,j,.ref p3,rfl,B.hS,by omega,by omega,fun r9 H9 s9 h9=>?_⟩
  replace B:=B.sm s9
  have s79:=s13.trans s9
  have AT:=ft (m:=ws.length) B.T.lst B.nD B.hD B.al ok n12
  exact k _ _ B.S B.T (fc B.T.lst B.nD B.hD h9 AT (jF B.T.lst B.nD B.hD (aI.same (K:=K) s9 _ _ h3) (fun x hx=>(AP x (oZ hx)).sm s79) (Nat.le_trans pE (by omega))) (by omega))
 refine⟨_,rfl,rfl,_,rfl,gA (fun _=>?_) (fun _=>?_)⟩
 ·refine⟨_,rfl,_,rfl,_,rfl,_,rfl,p,_,_,_,rfl,rfl,B.hS,aN hxj,pt,zs,rfl,hSt,fun p8 g8=>?_⟩
  have s8:=ak g8 (.tup zs.reverse)
  have h8:aV K (upd H6 p8 (.tup zs.reverse)) p8 zs.reverse:=aV.of ai
  replace B:=B.sm s8
  generalize upd H6 p8 (.tup zs.reverse)=H8 at B s8 h8 ⊢
  refine⟨p,xs,j,.ref p8,rfl,B.hS,by omega,by omega,fun r9 H9 s9 h9=>?_⟩
  replace B:=B.sm s9
  have s79:=s8.trans s9
  have AT:=ft (m:=ws.length) B.T.lst B.nD B.hD B.al ok n12
  exact k _ _ B.S B.T (fc B.T.lst B.nD B.hD h9 AT (jF B.T.lst B.nD B.hD (aI.same (K:=K) s9 _ _ h8) (fun x hx=>(AP x (List.mem_reverse.mp hx)).sm s79) (by rw [List.length_reverse];omega)) (by omega))
 refine⟨_,rfl,rfl,_,rfl,gA (fun _=>?_) (fun _=>?_)⟩
 ·refine⟨_,rfl,_,rfl,_,rfl,_,rfl,p,_,_,_,rfl,rfl,B.hS,aN hxj,pt,zs,rfl,.inr hSt,fun p8 g8=>?_⟩
  have s8:=ak g8 (.lst zs)
  have h8:ng K ws.length (upd H6 p8 (.lst zs)) t₁ D (.ref p8):=yK B.T.lst B.hD g8 AP (by omega)
  replace B:=B.sm s8
  generalize upd H6 p8 (.lst zs)=H8 at B s8 h8 ⊢
  refine⟨p,xs,j,.ref p8,rfl,B.hS,by omega,by omega,fun r9 H9 s9 h9=>?_⟩
  replace B:=B.sm s9
  have AT:=ft (m:=ws.length) B.T.lst B.nD B.hD B.al ok n12
  exact k _ _ B.S B.T (fc B.T.lst B.nD B.hD h9 AT (h8.sm s9) (by omega))
 obtain⟨pc,va,rfl,hSc,ra⟩:=pv
 refine⟨_,rfl,_,rfl,_,rfl,p,_,_,_,rfl,rfl,B.hS,aN hxj,_,rfl,pt,_,_,_,rfl,rfl,hSt,aN hy,pc,_,_,_,rfl,rfl,hSc,rfl,_,rfl,_,rfl,ps,_,_,_,rfl,rfl,hSs,rfl,pw,_,rfl,.inr hSw,t₁,s₀,_,rfl,B.T,by omega,by omega,fun r7 x7 a7 b7 T7=>?_⟩
 replace B:=B.dr T7
 generalize upd H6 t₁ (.lst x7)=H7 at B ⊢
 refine⟨.ref p,pl,q.1,r7,rfl,⟨p,xs,rfl,B.hS,B.al⟩,by omega,ok.wd,fun v' H8 s8 pv8=>?_⟩
 replace B:=B.sm s8
 obtain⟨p8,xs8,rfl,hS8,al8⟩:=pv8
 have l8:=al8.len
 rw [List.length_map] at l8
 have A8:=xO (m:=ws.length) (n:=ws.length) B.T.lst B.nD B.hD al8 (fun t ht=>by
  obtain⟨c',hc',rfl⟩:=List.mem_map.mp ht
  rw [List.length_map];exact ok.wd c' hc') (fun t ht q' hq'=>by
  obtain⟨c',hc',rfl⟩:=List.mem_map.mp ht
  obtain⟨e',he',rfl⟩:=List.mem_map.mp hq'
  exact Ag ⟨pb.2.2.2.1,pb.2.2.2.2⟩ ⟨a7,by omega⟩ (ok.pc c' hc' e' he')) n12
 exact k _ _ B.S B.T (ia B.T.lst B.nD B.hD hS8 (fun x hx=>(A8 x hx).tu B.T.lst B.nD B.hD) (by omega))
theorem kK (T:dM K mg t):bh P w K mg base cZ 2 t.a_Q40 t.d_Q40 ["self", "word", "number"] (pZ K t.c_Q40):=by
 refine T.F_Q40.ok yV (fun vs H Q E h=>?_) (fun cdv A outer s H vs Q E hr h=>?_)
 ·obtain⟨_,_,_,rfl,_⟩:=h;rfl
 obtain⟨a,x,n,rfl,ha,k⟩:=h
 refine cM.ok (aj (oM rfl (qv 0) (bI (uw T) hr T.m_Q39 T.F_Q39.kp T.b_Q39 (ad (qv 1) ag af)) rfl)
   (am (oM rfl (qv 0) (bI (uw T) hr T.m_Q39 T.F_Q39.kp T.b_Q39 (ad (qv 2) ag af)) rfl))) ?_
 extract_lets +lift
 try dsimp -zeta -zetaDelta only [Cx.nox,Cx.wish,bx]
 refine⟨_,rfl,_,rfl,.inr ⟨x,rfl⟩,_,rfl,a,_,_,rfl,T.X_Q40.cl,T.n_Q40_word,.inl ⟨ha,fun d hd nd=>?_⟩⟩
 have ha2:upd (upd H a (gi a t.c_Q40 (some d))) d (dO d [("word", .str x)]) a=some (gi a t.c_Q40 (some d)):=by rw [aw nd.symm,ai]
 refine⟨_,rfl,_,rfl,.inl ⟨n,rfl⟩,_,rfl,a,_,_,rfl,T.X_Q40.cl,T.n_Q40_number,.inr ⟨d,_,ha2,ai,by show 1≤100;decide,?_⟩⟩
 have hd0:H d=none:=hd
 refine k d _ hd0 nd (fun b o nb q=>?_) (by rw [aw nd.symm];exact ha2) ai
 have nbd:b≠d:=aM q hd0
 rw [aw nbd,aw nbd,aw nb]
 exact q
theorem AC (T:dM K mg t):bh P w K mg base (Dm P w) 7 t.a_Q13 t.d_Q13 ["sheet", "thing"] (jt K t.c_Q40):=by
 refine B.Fun.okD T.F_Q13 d8 (fun vs H Q E h=>?_) (fun cdv A outer s H vs Q E hr h=>?_)
 ·obtain⟨_,_,_,_,_,rfl,_⟩:=h;rfl
 obtain⟨v,x,ws,ls,d,rfl,hv,ok,hx,thg,k,ke⟩:=h
 refine cM.ok (aj (cn 2 d8.nd (bv av (qv 0) ah))
   (aj (be (cF (cf (bI (CD T) hr T.m_Q3 T.F_Q3.kp T.b_Q3 (ad (qv 1) (ad (ar aC (by rfl) T.z_len boot_len (ad (qv 2) ag af)) ag ax) af)))) (am (eZ T.X_Q40 (kb _) rfl kd (kK T) (hr.mono (by decide)) T.b_Q40 rfl T.m_Q40 (ad dh (ad (gR d6 ah) ag im) aq))) aO)
   (aj (bX PassesOwn.leaving rfl (io rfl T.z_enumerate (ad (qv 1) ag af)) (ef rfl (aR (ay (i:=3) d8.nd rfl (by first | exact Or.inl rfl | exact Or.inr rfl)) (aR (ay (i:=4) d8.nd rfl (by first | exact Or.inl rfl | exact Or.inr rfl)) bZ)))
   (am (be (cF (cf (bI (CA T) hr T.m_Q6 T.F_Q6.kp T.b_Q6 (ad (qv 2) (ad (qv 3) (ad (qv 4) ag af) af) af)))) (am (eZ T.X_Q40 (kb _) rfl kd (kK T) (hr.mono (by decide)) T.b_Q40 rfl T.m_Q40 (ad dh (ad (qv 3) ag af) aq))) aO)))
   (aj (cn 5 d8.nd (bI (CF T) hr T.m_Q2 T.F_Q2.kp T.b_Q2 (ad (qv 1) ag af)))
   (aj (bX PassesOwn.leaving rfl (io rfl T.z_enumerate (ad (qv 2) ag af)) (ef rfl (aR (ay (i:=6) d8.nd rfl (by first | exact Or.inl rfl | exact Or.inr rfl)) (aR (ay (i:=7) d8.nd rfl (by first | exact Or.inl rfl | exact Or.inr rfl)) bZ)))
   (am (be (aE (iQ hr) (bI (Aq T) hr T.m_Q42 T.F_Q42.kp T.b_Q42 (ad (bC (N':=["piece", "number"]) (src:=[none,some 6]) rfl (by exact (dB (qv 5))) (fun _ _ _ _ _=>(by exact (by exact ay (i:=0) (by show List.Nodup (["piece", "number"]:List Str);decide +kernel) (by exact rfl) (by first | exact Or.inl rfl | exact Or.inr rfl)))) (fun _ _ _ _ _=>(d9 (aE cS (by exact (bP (bj (K:=K) (by exact rfl)) (by exact (qv 0)) ah (by exact fun _ _=>rfl))) (by exact (qv 1)) (aK _)))) (fun _ _ _ _ _=>(by exact (by exact (bP (bj (K:=K) (by exact rfl)) (by exact (qv 0)) ah (by exact fun _ _=>rfl))))) (by exact⟨rfl,rfl,rfl,rfl,trivial⟩) rfl (by decide +kernel) rfl (by decide +kernel) (by exact aY rfl ⟨rfl,trivial⟩)) ag cN)) (bP av (qv 7) ah (fun _ _=>rfl)) (aK _)) (am (eZ T.X_Q40 (kb _) rfl kd (kK T) (hr.mono (by decide)) T.b_Q40 rfl T.m_Q40 (ad dh (ad (qv 6) ag af) aq))) aO)))
   (aj (bX PassesOwn.leaving rfl (io rfl T.z_enumerate (ad (bv av (qv 0) ah) ag aG)) (ef rfl (aR (ay (i:=6) d8.nd rfl (by first | exact Or.inl rfl | exact Or.inr rfl)) (aR (ay (i:=8) d8.nd rfl (by first | exact Or.inl rfl | exact Or.inr rfl)) bZ)))
   (am (be (cF (cf (bI (Cz T) hr T.m_Q7 T.F_Q7.kp T.b_Q7 (ad (qv 5) (ad (qv 8) ag af) af)))) (am (eZ T.X_Q40 (kb _) rfl kd (kK T) (hr.mono (by decide)) T.b_Q40 rfl T.m_Q40 (ad dh (ad (qv 6) ag af) aq))) aO)))
   (am (aD di)))))))) ?_
 extract_lets +lift
 try dsimp -zeta -zetaDelta only [Cx.nox,Cx.wish,bx]
 obtain⟨ps,a,b,rfl,hS,hw,hb⟩:=id hv
 obtain⟨pw,xw,rfl,hSw,alw⟩:=id hw
 obtain⟨pb,xb,rfl,hSb,alb⟩:=id hb
 have lw:=alw.len
 have lb:=alb.len
 have n12:=ok.n12
 refine⟨_,rfl,ps,_,_,_,rfl,rfl,hS,rfl,?_⟩
 refine⟨_,rfl,_,rfl,pw,xw,rfl,.inr hSw,x,d,_,rfl,hx,thg.wide,fun H1 s1=>⟨_,rfl,?_⟩⟩
 rw [lw]
 cases cs:cG ws.length d with
 | false=>
  refine bM ?_
  refine⟨_,rfl,dJ,fun x₁ hx=>⟨x₁,_,_,rfl,ai,fun d' H' hd nd kp ha hd'=>⟨rfl,some d',ha,?_⟩⟩⟩
  exact ke _ _ (jA cs) d' _ ((s1).trans (cT hx kp)) (by rw [eV nd];exact hd')
 | true=>
 refine cC ?_
 obtain⟨pv,pb0⟩:=oR (hx.same s1) cs thg
 rw [rK cs] at k ke
 generalize kH d=pl at pv pb0 k ke
 obtain⟨pp,xp,rfl,hSp,alp⟩:=id pv
 have lp:=alp.len
 have l24:=pb0.len
 have t1:=aI.same (K:=K) s1
 refine⟨_,rfl,pp,rfl,⟨_,hSp⟩,f8 (K:=K) (a:=pp) (xs:=xp) (fun i σ H'=>∃ (x3 x4:Option V),σ=[some (.ref ps),some (.ref pp),some (.ref pw),x3,x4,none,none,none,none]/\aA H1 H'/\∀ m,m < i->gI ws pl m=false) ⟨none,none,rfl,aA.refl _,fun m hm=>absurd hm (Nat.not_lt_zero _)⟩ (fun i σ H' _ ⟨_,_,_,sm,_⟩=>aI.same sm _ _ hSp) ?_ ?_⟩
 ·rintro i x pt σ H2 hx' ⟨x3,x4,rfl,sm,gd⟩ hpt
  obtain⟨t',ht,tv⟩:=alp.at hx'
  have il:=(List.getElem?_eq_some_iff.mp ht).1
  have mt:=List.mem_of_getElem? ht
  have e1:=ak hpt (.tup [.int i,x])
  refine⟨pt,_,rfl,aV.of ai,rfl,_,_,rfl,_,_,rfl,rfl,?_⟩
  have sm1:=sm.trans e1
  clear e1 hpt
  generalize upd H2 pt (.tup [.int i,x])=H3 at sm1 ⊢
  have bt:gI ws pl i=!uB ws i t':=by unfold gI;rw [List.getD_eq_getElem?_getD,ht];rfl
  refine⟨_,rfl,_,rfl,_,rfl,.ref pw,x,i,ws,t',rfl,hw.mono (aI.same (s1.trans sm1)),tv.mono (aI.same sm1),pb0.wd t' mt,pb0.num t' mt,fun H4 s4=>⟨_,rfl,?_⟩⟩
  have s14:=(s1.trans sm1).trans s4
  cases c:uB ws i t' with
  | true=>
   refine cC ⟨_,_,rfl,sm1.trans s4,fun j hj=>?_⟩
   by_cases z:j < i
   ·exact gd j z
   ·have:j=i:=by omega
    rw [this,bt,c];rfl
  | false=>
   refine bM ?_
   have bd:gI ws pl i=true:=by rw [bt,c];rfl
   refine⟨_,rfl,dJ,fun x₁ hx=>⟨x₁,_,_,rfl,ai,fun d' H' hd nd kp ha hd'=>⟨rfl,some d',ha,?_⟩⟩⟩
   exact ke _ _ (by unfold fB;rw [fq (i:=i) (by omega) bd gd]) d' _ ((s14).trans (cT hx kp)) (by rw [eV nd];exact hd')
 rintro σ H2 ⟨x3,x4,rfl,sm,gd⟩
 rw [lp,l24] at gd
 have f1:(List.range 24).find? (gI ws pl)=none:=fo fun j hj=>gd j hj
 refine⟨_,rfl,.ref pp,pl,ws.length,rfl,pv.mono (aI.same sm),pb0,fun l xs H3 s3 hl3 al3=>?_⟩
 have s13:=(s1.trans sm).trans s3
 have t13:=aI.same (K:=K) s13
 have fl:=mM pb0
 refine⟨_,rfl,pw,rfl,⟨_,t13 _ _ hSw⟩,f8 (K:=K) (a:=pw) (xs:=xw) (fun i σ H'=>∃ (x6 x7:Option V),σ=[some (.ref ps),some (.ref pp),some (.ref pw),x3,x4,some (.ref l),x6,x7,none]/\aA H3 H'/\∀ m,m < i->gK ws pl m=false) ⟨none,none,rfl,aA.refl _,fun m hm=>absurd hm (Nat.not_lt_zero _)⟩ (fun i σ H' _ ⟨_,_,_,sm,_⟩=>aI.same sm _ _ (t13 _ _ hSw)) ?_ ?_⟩
 ·rintro i x pt σ H4 hx' ⟨x6,x7,rfl,sm4,ga⟩ hpt
  obtain⟨w,hw',wv⟩:=alw.at hx'
  have il:=(List.getElem?_eq_some_iff.mp hw').1
  have e1:=ak hpt (.tup [.int i,x])
  refine⟨pt,_,rfl,aV.of ai,rfl,_,_,rfl,_,_,rfl,rfl,?_⟩
  have sm1:=sm4.trans e1
  clear e1 hpt sm4
  generalize upd H4 pt (.tup [.int i,x])=H5 at sm1 ⊢
  have hl5:=sm1 _ _ hl3
  have al5:=al3.mono fun _ _ z=>z.mono (aI.same sm1)
  have ba:gK ws pl i=!decide (cW (eE pl i)=w.2.2):=by unfold gK;rw [List.getD_eq_getElem?_getD,hw'];rfl
  refine⟨_,rfl,l,rfl,⟨_,aQ.of hl5⟩,fun D hD=>u8 (K:=K) (a:=l) (xs:=xs) (ds:=pl.flatten) (P:=RV K) (p:=fun c=>decide (c.1=(i:Int))) (f:=fun c=>c.2) (fun _ _ _ _ t z=>z.mono t) hD (aQ.of hl5) al5.len (by omega) (fun j y c H' hy hc s' R E kR kE=>?_) fun H6 ys s6 h6 al6=>?_⟩
  ·obtain⟨c',hc',pv'⟩:=al5.at hy
   rw [hc] at hc'
   cases hc'
   obtain⟨pc,z,rfl,hSc,rz⟩:=pv'.mono (aI.same s')
   refine⟨dz.set rfl,_,rfl,pc,_,_,_,rfl,rfl,hSc,rfl,_,rfl,rfl,_,rfl,?_⟩
   by_cases ce:c.1=(i:Int)
   ·exact cr (by rw [ce]) ⟨_,rfl,pc,_,_,_,rfl,rfl,hSc,rfl,kR (decide_eq_true ce) _ _ (aA.refl _) rz⟩
   ·exact cu (fun z=>ce (by injection z)) (kE (decide_eq_false ce) _ (aA.refl _))
  have al6':cv (RV K H6) ys (eE pl i):=al6
  refine⟨D,ys,eE pl i,400,D2,rfl,.inl (aQ.of h6),xC al6',(fun r hr=>?_),by decide,by decide,Nat.le_trans (li (ws:=ws) pb0 i gd) (by decide),by decide,fun w5 H7 s7 rv7=>?_⟩
  ·obtain⟨c,hc,rfl⟩:=List.mem_map.mp hr
   obtain⟨t',ht',hc'⟩:=mL (List.mem_filter.mp hc).1
   have bq:=pb0.bq t' ht' c hc'
   exact⟨bq.wf (by decide) (by decide) (by decide),bq.dvd⟩
  have s17:=(s13.trans sm1).trans (s6.trans s7)
  obtain⟨pk,xk,rfl,hSk,rk⟩:=wv.mono (aI.same s17)
  refine⟨_,rfl,pk,_,_,_,rfl,rfl,hSk,rfl,dR (cW (eE pl i)),dR w.2.2,rv7.deep,rk.deep,ja _,ja _,mT _,_,rfl,?_⟩
  rw [pj]
  by_cases c:cW (eE pl i)=w.2.2
  ·rw [decide_eq_true c]
   refine cC ⟨_,_,rfl,sm1.trans (s6.trans s7),fun j hj=>?_⟩
   by_cases z:j < i
   ·exact ga j z
   ·have:j=i:=by omega
    rw [this,ba,decide_eq_true c];rfl
  ·rw [decide_eq_false c]
   refine bM ?_
   have bd:gK ws pl i=true:=by rw [ba,decide_eq_false c];rfl
   refine⟨_,rfl,dJ,fun x₁ hx=>⟨x₁,_,_,rfl,ai,fun d' H' hd nd kp ha hd'=>⟨rfl,some d',ha,?_⟩⟩⟩
   exact ke _ _ (by unfold fB;rw [f1,fq (i:=i) (by omega) bd ga]) d' _ ((s17).trans (cT hx kp)) (by rw [eV nd];exact hd')
 rintro σ H4 ⟨x6,x7,rfl,sm4,ga⟩
 rw [lw] at ga
 have f2:(List.range ws.length).find? (gK ws pl)=none:=fo fun j hj=>ga j hj
 have s14:=s13.trans sm4
 have t14:=aI.same (K:=K) s14
 have hl4:=sm4 _ _ hl3
 have al4:=al3.mono fun _ _ z=>z.mono (aI.same sm4)
 have nz:∀ n,n < ws.length->0 < (b9 pl.flatten n).length:=fun n hn=>pK (List.getElem?_eq_getElem hn) (ok.wk _ (List.getElem_mem hn)).po.pos (ga n hn)
 refine⟨_,rfl,ps,_,_,_,rfl,rfl,t14 _ _ hS,rfl,pb,rfl,⟨_,t14 _ _ hSb⟩,f8 (K:=K) (a:=pb) (xs:=xb) (fun i σ H'=>∃ (x6 x7 x8:Option V),σ=[some (.ref ps),some (.ref pp),some (.ref pw),x3,x4,some (.ref l),x6,x7,x8]/\aA H4 H'/\∀ m,m < i->ji pl ls m=false) ⟨_,_,none,rfl,aA.refl _,fun m hm=>absurd hm (Nat.not_lt_zero _)⟩ (fun i σ H' _ ⟨_,_,_,_,sm,_⟩=>aI.same sm _ _ (t14 _ _ hSb)) ?_ ?_⟩
 ·rintro i x pt σ H5 hx' ⟨y6,y7,y8,rfl,sm5,gn⟩ hpt
  obtain⟨e,he,ev⟩:=alb.at hx'
  have il:=(List.getElem?_eq_some_iff.mp he).1
  obtain⟨q1,q2,q3⟩:=ok.ln e (List.mem_of_getElem? he)
  have e1:=ak hpt (.tup [.int i,x])
  refine⟨pt,_,rfl,aV.of ai,rfl,_,_,rfl,_,_,rfl,rfl,?_⟩
  have sm1:=sm5.trans e1
  clear e1 hpt sm5
  generalize upd H5 pt (.tup [.int i,x])=H6 at sm1 ⊢
  have s16:=s14.trans sm1
  have bn:ji pl ls i=!f7 pl.flatten e:=by unfold ji;rw [List.getD_eq_getElem?_getD,he];rfl
  refine⟨_,rfl,_,rfl,l,xs,pl.flatten,x,e,rfl,sm1 _ _ hl4,al4.mono fun _ _ z=>z.mono (aI.same sm1),by omega,ev.mono (aI.same s16),nz e.1 q1,nz e.2 q2,fun H7 s7=>⟨_,rfl,?_⟩⟩
  have s17:=s16.trans s7
  cases c:f7 pl.flatten e with
  | true=>
   refine cC ⟨_,_,_,rfl,sm1.trans s7,fun j hj=>?_⟩
   by_cases z:j < i
   ·exact gn j z
   ·have:j=i:=by omega
    rw [this,bn,c];rfl
  | false=>
   refine bM ?_
   have bd:ji pl ls i=true:=by rw [bn,c];rfl
   refine⟨_,rfl,dJ,fun x₁ hx=>⟨x₁,_,_,rfl,ai,fun d' H' hd nd kp ha hd'=>⟨rfl,some d',ha,?_⟩⟩⟩
   exact ke _ _ (by unfold fB;rw [f1,f2,fq (i:=i) (by omega) bd gn]) d' _ ((s17).trans (cT hx kp)) (by rw [eV nd];exact hd')
 rintro σ H5 ⟨y6,y7,y8,rfl,sm5,gn⟩
 rw [lb] at gn
 have f3:(List.range ls.length).find? (ji pl ls)=none:=fo fun j hj=>gn j hj
 exact k (by unfold fB;rw [f1,f2,f3]) _ (s14.trans sm5)
theorem uz (T:dM K mg t):bh P w K mg base cZ 8 t.a_Q33 t.d_Q33 ["_law_sheet", "_law_thing"] (lQ K):=by
 refine T.F_Q33.ok iJ (fun vs H Q E h=>?_) (fun cdv A outer s H vs Q E hr h=>?_)
 ·obtain⟨_,_,_,_,_,rfl,_⟩:=h;rfl
 obtain⟨v,x,ws,ls,d,rfl,hv,ok,hx,thg,k⟩:=h
 refine cM.ok (aj (cn 2 iJ.nd dh)
   (aj (tF (i:=3) (R:=(fun C dx H'=>C=t.c_Q40/\aA H H'/\∃ (dd:Addr) (x:Str) (n:Int),dx=some dd/\H' dd=some (dO dd [("number", .int n),("word", .str x)])/\js ws ls d=some (x,n))) rfl rfl rfl rfl T.m_Q21 iJ.nd rfl rfl (fun _=>(am (be (aE Al (c6 (AC T) (hr.mono (by decide)) rfl T.m_Q13 T.F_Q13.kp T.b_Q13 .nil (Ai rfl) (ad (qv 0) (ad (qv 1) ag af) af)) di (aK _)) (am (cn 2 iJ.nd kD)) aO)))
   (fun _=>(am (be (fx (kB (cf (ar (je (K:=K) rfl) (by rfl) T.z_isinstance boot_isinstance (ad (qv 3) (ad (fb (v:=.ref t.c_Q40) rfl T.m_Q40 rfl) ag af) af))) (kB (cf (ar (je (K:=K) rfl) (by rfl) T.z_isinstance boot_isinstance (ad (qv 3) (ad (ck (v:=V.ty "ValueError") rfl T.z_ValueError PyProof.Rows.Boot.ValueError rfl) ag af) af))) (kA (cF (cf (ar (je (K:=K) rfl) (by rfl) T.z_isinstance boot_isinstance (ad (qv 3) (ad (aP (ad (fb (v:=.ref t.c_Q37) rfl T.m_Q37 rfl) (ad (fb (v:=.ref t.c_Q38) rfl T.m_Q38 rfl) (ad (fb (v:=.ref t.c_Q22) rfl T.m_Q22 rfl) ag af) af) af)) ag aZ) af)))))))) (am (cn 2 iJ.nd (aP (ad (oN (K:=K) rfl (qv 3) rfl) (ad (oN (K:=K) rfl (qv 3) rfl) ag lM) lM)))) aO))))
   (am (aD (qv 2))))) ?_
 extract_lets +lift
 try dsimp -zeta -zetaDelta only [Cx.nox,Cx.wish,bx]
 refine⟨⟨_,rfl,_,rfl,v,x,ws,ls,d,rfl,hv,ok,hx,thg,fun du H1 s1=>⟨true,true,rfl,rfl,_,rfl,bM ⟨_,rfl,k _ _ s1 (by rw [du];exact .non)⟩⟩,fun z n du dd H1 s1 hd=>⟨_,rfl,rfl,s1,dd,z,n,rfl,hd,du⟩⟩,?_⟩
 rintro C dx H' ⟨rfl,s1,dd,w,n,rfl,hd,du⟩
 refine⟨T.x_catch,dd,rfl,fun x hx=>?_⟩
 have s2:=ak hx (xn x t.c_Q40 dd)
 have ex:=ai (H:=H') (a:=x) (o:=xn x t.c_Q40 dd)
 have ed:=s2 _ _ hd
 have cl:=T.X_Q40.cl
 have gx:=T.g_Q40
 refine⟨_,rfl,x,_,dd,_,_,_,true,rfl,ex,ed,cl,gx,.inr (.inl ⟨_,rfl,T.y_self⟩),true,rfl,bM ?_⟩
 refine⟨_,rfl,x,_,dd,_,_,_,true,rfl,ex,ed,cl,gx,.inl ⟨_,rfl,T.y_val⟩,true,rfl,bM ?_⟩
 refine⟨_,rfl,Bs,fun p2 g2=>?_⟩
 have s4:=ak g2 (.tup [.ref t.c_Q37,.ref t.c_Q38,.ref t.c_Q22])
 refine⟨x,_,dd,_,_,_,false,rfl,s4 _ _ ex,s4 _ _ ed,cl,gx,.inr (.inr ⟨p2,[t.c_Q37,t.c_Q38,t.c_Q22],rfl,ai,T.y_not⟩),false,rfl,bM ?_⟩
 refine⟨_,rfl,x,t.c_Q40,dd,_,_,.str w,rfl,.inl (s4 _ _ ex),s4 _ _ ed,cl,gx,T.n_Q40_word,rfl,?_⟩
 refine⟨_,rfl,x,t.c_Q40,dd,_,_,.int n,rfl,.inl (s4 _ _ ex),s4 _ _ ed,cl,gx,T.n_Q40_number,rfl,dJ,fun p3 g3=>?_⟩
 have s5:=ak g3 (.tup [.str w,.int n])
 refine⟨_,rfl,k _ _ (((s1.trans s2).trans s4).trans s5) ?_⟩
 rw [du]
 exact .tup (aV.of ai) (.cons (.str _) (.cons (.int _) .nil))
theorem Ao (T:dM K mg t):bh P w K mg base cZ 9 t.a_Q44 t.d_Q44 ["_law_script"] (kq K):=by
 refine T.F_Q44.ok d7 (fun vs H Q E h=>?_) (fun cdv A outer s H vs Q E hr h=>?_)
 ·obtain⟨_,_,rfl,_⟩:=h;rfl
 obtain⟨a,ns,rfl,hS,hl,k⟩:=h
 refine cM.ok (aj (cn 1 d7.nd (bI (Aw T) hr T.m_Q26 T.F_Q26.kp T.b_Q26 (ad (qv 0) ag af)))
   (aj (bX PassesOwn.never rfl (bK rfl T.z_range (ad ah ag aq)) (ay (i:=2) d7.nd rfl (by first | exact Or.inl rfl | exact Or.inr rfl))
   (aj (cn 3 d7.nd (bI (AA T) hr T.m_Q17 T.F_Q17.kp T.b_Q17 (ad (qv 1) (ad (bv aX (bH (ad ah (ad ah (ad ah ag aq) aq) aq)) (bI (bb T) hr T.m_Q27 T.F_Q27.kp T.b_Q27 (ad (qv 1) (ad ah ag aq) af))) (ad (bv aX (bH (ad ah (ad ah (ad ah ag aq) aq) aq)) (bI (bb T) hr T.m_Q27 T.F_Q27.kp T.b_Q27 (ad (qv 1) (ad ah ag aq) af))) ag aG) aG) af)))
   (aj (cn 4 d7.nd (bI (Au T) hr T.m_Q30 T.F_Q30.kp T.b_Q30 (ad (qv 1) (ad (qv 3) ag af) af)))
   (aj (cn 5 d7.nd (aP (ad (qv 3) (ad (bI (AF T) hr T.m_Q10 T.F_Q10.kp T.b_Q10 (ad (qv 1) (ad (qv 3) (ad (qv 4) ag af) af) af)) ag ax) af)))
   (aj (bX PassesOwn.never rfl (dB (aB nS (bH (ad (qv 4) ag af)) (bC (N':=["_law_j", "_law_tape_here", "_law_sheet", "_law_plan_here"]) (src:=[none,some 1,some 5,some 4]) rfl (by exact (bK rfl T.z_range (ad ah ag aq))) (fun _ _ _ _ _=>(by exact (by exact ay (i:=0) (by show List.Nodup (["_law_j", "_law_tape_here", "_law_sheet", "_law_plan_here"]:List Str);decide +kernel) (by exact rfl) (by first | exact Or.inl rfl | exact Or.inr rfl)))) (fun _ _ _ _ _=>bQ) (fun _ _ _ _ _=>(by exact (by exact (c6 (At T) (by exact hr.mono (by decide)) (by exact rfl) T.m_Q32 T.F_Q32.kp T.b_Q32 (by exact .nil) (by exact gT) (ad (by exact (qv 1)) (ad (by exact (qv 2)) (ad (by exact (qv 3)) ag af) af) af))))) (by exact⟨rfl,rfl,rfl,rfl,⟨rfl,rfl,rfl,rfl,⟨rfl,rfl,rfl,rfl,trivial⟩⟩⟩) rfl (by decide +kernel) rfl (by decide +kernel) (by exact aY rfl ⟨rfl,⟨rfl,⟨rfl,trivial⟩⟩⟩)))) (ay (i:=6) d7.nd rfl (by first | exact Or.inl rfl | exact Or.inr rfl))
   (aj (cn 7 d7.nd (ar (df hr) (by rfl) T.z_repr boot_repr (ad (qv 6) ag af)))
   (am (be (fx (dA (aE gU (ar (df hr) (by rfl) T.z_repr boot_repr (ad (bI (uz T) hr T.m_Q33 T.F_Q33.kp T.b_Q33 (ad (qv 5) (ad (qv 6) ag af) af)) ag ax)) (ar (df hr) (by rfl) T.z_repr boot_repr (ad (bI (ux T) hr T.m_Q36 T.F_Q36.kp T.b_Q36 (ad (qv 5) (ad (qv 6) ag af) af)) ag ax)) (aK _)) (fH (aE gU (ar (df hr) (by rfl) T.z_repr boot_repr (ad (qv 6) ag af)) (qv 7) (aK _))))) (am (aD di)) aO))))
   (aj (cn 8 d7.nd (aP (ad (qv 3) (ad (bJ bV (by rfl) T.z_tuple boot_tuple (ad (bC (N':=["_law_one", "_law_other"]) (src:=[none,none]) rfl (by exact (dH (bU cE (bv av (qv 5) ah) cA (cz ah)))) (fun _ _ _ _ _=>(by exact (by exact fZ (K:=K) (n:=2) (by exact rfl) (by exact rfl) (by exact aR (by exact ay (i:=0) (by show List.Nodup (["_law_one", "_law_other"]:List Str);decide +kernel) (by exact rfl) (by first | exact Or.inl rfl | exact Or.inr rfl)) (by exact aR (by exact ay (i:=1) (by show List.Nodup (["_law_one", "_law_other"]:List Str);decide +kernel) (by exact rfl) (by first | exact Or.inl rfl | exact Or.inr rfl)) bZ))))) (fun _ _ _ _ _=>bQ) (fun _ _ _ _ _=>(by exact (by exact (aP (ad (by exact (qv 1)) (ad (by exact (qv 0)) ag af) af))))) (by exact trivial) rfl (by decide +kernel) rfl (by decide +kernel) (by exact aY rfl trivial)) ag cN)) ag ax) af)))
   (am (be (aE gU (ar (df hr) (by rfl) T.z_repr boot_repr (ad (bI (uz T) hr T.m_Q33 T.F_Q33.kp T.b_Q33 (ad (qv 8) (ad (qv 4) ag af) af)) ag ax)) (ar (df hr) (by rfl) T.z_repr boot_repr (ad (bI (ux T) hr T.m_Q36 T.F_Q36.kp T.b_Q36 (ad (qv 8) (ad (qv 4) ag af) af)) ag ax)) (aK _)) (am (aD di)) aO))))))))
   (am (aD di)))) ?_
 extract_lets +lift
 try dsimp -zeta -zetaDelta only [Cx.nox,Cx.wish,bx]
 refine⟨_,rfl,a,ns,rfl,hS,fun t₁ s₁ H1 s1 ht hs T1=>?_⟩
 refine⟨3,rfl,by decide,by decide,cL (lo:=0) (n:=3) (fun i σ H'=>∃ (x2 x3 x4 x5 x6 x7 x8:Option V),σ=[some (.ref a),some (.ref t₁),x2,x3,x4,x5,x6,x7,x8]/\bE H' t₁ s₁) ⟨none,none,none,none,none,none,none,rfl,T1⟩ ?_ ?_⟩
 rotate_left
 ·rintro σ H2 ⟨_,_,_,_,_,_,_,rfl,T2⟩
  exact k _
 rintro i₀ σ H2 hi ⟨x2,x3,x4,x5,x6,x7,x8,rfl,T2⟩
 refine⟨_,rfl,Bs,fun l1 g1=>?_⟩
 have T2a:=T2.same (ak g1 (.lst [.int 2,.int 5,.int 12]))
 have hl1:upd H2 l1 (.lst [.int 2,.int 5,.int 12]) l1=some (.lst [.int 2,.int 5,.int 12]):=ai
 have n1:l1≠t₁:=fun z=>by subst z;obtain⟨_,q⟩:=T2.lst;rw [g1] at q;cases q
 clear T2 g1
 generalize upd H2 l1 (.lst [.int 2,.int 5,.int 12])=H2a at T2a hl1 ⊢
 refine⟨_,rfl,t₁,s₁,3,rfl,T2a,by decide,by decide,fun r1 x1 a1 b1 T2b=>?_⟩
 have hl1b:upd H2a t₁ (.lst x1) l1=some (.lst [.int 2,.int 5,.int 12]):=by rw [aw n1];exact hl1
 clear T2a hl1
 generalize upd H2a t₁ (.lst x1)=H2b at T2b hl1b ⊢
 obtain⟨j1,rfl⟩:=Int.eq_ofNat_of_zero_le a1
 obtain⟨m,hm,m12⟩:∃ m:Nat,([.int 2,.int 5,.int 12]:List V)[j1]?=some (.int (m:Nat))/\m≤12:=by
  have:j1 < 3:=by omega
  match j1,this with
  | 0,_=>exact⟨2,rfl,by decide⟩
  | 1,_=>exact⟨5,rfl,by decide⟩
  | 2,_=>exact⟨12,rfl,by decide⟩
 refine⟨l1,_,_,_,rfl,rfl,aQ.of hl1b,aN hm,Bs,fun l2 g2=>?_⟩
 have T3a:=T2b.same (ak g2 (.lst [.int 3,.int 8,.int 24]))
 have hl2:upd H2b l2 (.lst [.int 3,.int 8,.int 24]) l2=some (.lst [.int 3,.int 8,.int 24]):=ai
 have n2:l2≠t₁:=fun z=>by subst z;obtain⟨_,q⟩:=T2b.lst;rw [g2] at q;cases q
 clear T2b g2 hl1b
 generalize upd H2b l2 (.lst [.int 3,.int 8,.int 24])=H3a at T3a hl2 ⊢
 refine⟨_,rfl,t₁,s₁,3,rfl,T3a,by decide,by decide,fun r2 y2 a2 b2 T3b=>?_⟩
 have hl2b:upd H3a t₁ (.lst y2) l2=some (.lst [.int 3,.int 8,.int 24]):=by rw [aw n2];exact hl2
 clear T3a hl2
 generalize upd H3a t₁ (.lst y2)=H3b at T3b hl2b ⊢
 obtain⟨j2,rfl⟩:=Int.eq_ofNat_of_zero_le a2
 obtain⟨e,he,e1,e24⟩:∃ e:Nat,([.int 3,.int 8,.int 24]:List V)[j2]?=some (.int (e:Nat))/\1≤e/\e≤24:=by
  have:j2 < 3:=by omega
  match j2,this with
  | 0,_=>exact⟨3,rfl,by decide,by decide⟩
  | 1,_=>exact⟨8,rfl,by decide,by decide⟩
  | 2,_=>exact⟨24,rfl,by decide,by decide⟩
 refine⟨l2,_,_,_,rfl,rfl,aQ.of hl2b,aN he,t₁,s₁,m,e,rfl,T3b,m12,e1,e24,fun v ws H4 S4 T4 wv lwm okw=>?_⟩
 have n12:ws.length≤12:=by omega
 clear hl2b S4 T3b
 refine⟨_,rfl,_,rfl,t₁,s₁,v,ws,rfl,T4,wv,n12,okw,fun x pl H5 S5 T5 pv okp=>?_⟩
 replace wv:=wv.mono (aI.step (K:=K) S5)
 clear S5 T4
 refine⟨_,rfl,_,rfl,_,rfl,_,rfl,t₁,s₁,v,x,ws,pl,rfl,T5,wv,n12,pv,okp,fun u ls H6 S6 T6 lv l8 lnok=>⟨dJ,fun ps gs=>?_⟩⟩
 have ok:rm ws ls:=⟨n12,okw,l8,lnok⟩
 replace wv:=wv.mono (aI.step (K:=K) S6)
 replace pv:=pv.mono (aI.step (K:=K) S6)
 have s7:=ak gs (.tup [v,u])
 have hv:Bm K (upd H6 ps (.tup [v,u])) ps v u ws ls:=⟨aV.of ai,wv.mono (aI.same s7),lv.mono (aI.same s7)⟩
 replace pv:=pv.mono (aI.same s7)
 have T7:=T6.same s7
 clear S6 T5 T6 s7 gs wv lv
 generalize upd H6 ps (.tup [v,u])=H7 at hv pv T7 ⊢
 refine⟨_,rfl,vn,fun l gl=>?_⟩
 have s8:=ak gl (.lst [x])
 have hl8:upd H7 l (.lst [x]) l=some (.lst [x]):=ai
 have nl:l≠t₁:=fun z=>by subst z;obtain⟨_,q⟩:=T7.lst;rw [gl] at q;cases q
 replace hv:=hv.mono (aI.same s8)
 replace pv:=pv.mono (aI.same s8)
 have T8:=T7.same s8
 clear T7 s8 gl
 generalize upd H7 l (.lst [x])=H5 at hv pv T8 hl8 ⊢
 refine⟨10,rfl,by decide,by decide,fun D hD=>?_⟩
 have nD:D≠t₁:=fun z=>by subst z;obtain⟨_,q⟩:=T8.lst;rw [hD] at q;cases q
 refine gc (J:=rp 0 10) (n:=10) (fun i ys H'=>ys.length=i/\Step t₁ H5 H'/\bE H' t₁ s₁/\H' D=some (.lst ys)/\∀ v∈ys,jr K ws.length H' t₁ D v) ⟨rfl,Step.same (ak hD _) T8.lst,T8.same (ak hD _),ai,fun d hd=>by cases hd⟩ (fun i ys H' hi _=>hi) (fun zs H6 ⟨e1,e2,e3,e4,e5⟩=>⟨Nat.le_refl _,?_⟩) ?_
 rotate_left
 ·rintro i zs H6 x' H7 hi ⟨e1,e2,e3,e4,e5⟩ ⟨rfl,rfl⟩ Rk E kR kE
  refine⟨dz.set rfl,_,rfl,_,rfl,_,rfl,t₁,s₁,D,.ref ps,x,ws,ls,pl,rfl,e3,nD,⟨_,e4⟩,(hv.mono (aI.step (K:=K) e2)).sh,pv.mono (aI.step (K:=K) e2),okp,n12,fun u H13 S67 T13 th=>?_⟩
  have hD4:=S67.keep _ _ nD e4
  have up:aA (eK H13 t₁ D) (eK (upd H13 D (.lst (zs++[u]))) t₁ D):=CS nD
  refine kR u _ hD4 (bA (by omega)) ⟨by rw [List.length_append,e1];rfl,⟨fun b o nb q=>?_,T8.lst,?_⟩,?_,ai,fun v hv=>?_⟩
  ·rw [aw (aM q hD)]
   exact S67.keep _ _ nb (e2.keep _ _ nb q)
  ·obtain⟨y,hy⟩:=T13.lst
   exact⟨y,by rw [aw (Ne.symm nD)];exact hy⟩
  ·refine T13.upl nD (fun z=>?_) _
   obtain⟨y,hy⟩:=T8.scr
   rw [← z,hD] at hy
   cases hy
  ·have go:jr K ws.length H13 t₁ D v:=by
    rcases List.mem_append.mp hv with h | h
    ·exact (e5 v h).st S67
    ·rw [List.mem_singleton.mp h];exact th
   obtain⟨d,q1,q2⟩:=go
   exact⟨d,q1.same up,q2⟩
 have hl6:=e2.keep _ _ nl hl8
 replace hv:=hv.mono (aI.step (K:=K) e2)
 replace pv:=pv.mono (aI.step (K:=K) e2)
 have px:jr K ws.length H6 t₁ D x:=by
  obtain⟨p,xs,rfl,hSp,alp⟩:=pv
  have AT:=ft (m:=ws.length) e3.lst nD ⟨_,e4⟩ alp okp n12
  exact ia e3.lst nD ⟨_,e4⟩ hSp (fun x hx=>(AT x hx).tu e3.lst nD ⟨_,e4⟩) (by rw [alp.len,okp.len];decide)
 refine⟨l,D,[x],zs,rfl,rfl,hl6,e4,Nat.le_trans (show _≤1000 by show 1+_≤1000;omega) yE,fun l5 h5=>?_⟩
 have s12:=ak h5 (.lst ([x]++zs))
 have hl5:upd H6 l5 (.lst ([x]++zs)) l5=some (.lst ([x]++zs)):=ai
 have T12:=e3.same s12
 replace hv:=hv.mono (aI.same s12)
 have all:∀ y∈[x]++zs,∃ d,aW K (upd H6 l5 (.lst ([x]++zs))) y d/\A7 ws.length d:=fun y hy=>by
  have go:jr K ws.length H6 t₁ D y:=by
   rcases List.mem_append.mp hy with h | h
   ·rw [List.mem_singleton.mp h];exact px
   ·exact e5 y h
  obtain⟨d,q1,q2⟩:=go
  exact⟨d,(q1.same pf).same s12,q2⟩
 obtain⟨d0,dv0,thg0⟩:=all x List.mem_cons_self
 clear s12 h5 px e5 pv e2 e3 e4 hl6
 generalize upd H6 l5 (.lst ([x]++zs))=H12 at T12 hl5 hv all dv0 ⊢
 generalize [x]++zs=vs at hl5 all ⊢
 refine⟨l5,rfl,⟨_,aQ.of hl5⟩,i5 (K:=K) (a:=l5) (xs:=vs) (fun j σ H'=>∃ (x6 x7:Option V),σ=[some (.ref a),some (.ref t₁),some (.int (0+(i₀:Int))),some v,some x,some (.ref ps),x6,x7,x8]/\aA H12 H') ⟨_,_,rfl,aA.refl _⟩ (fun j σ H' _ ⟨_,_,_,s⟩=>s.seq (aQ.of hl5)) ?_ ?_⟩
 ·rintro j y σ H13 hx ⟨x6,x7,rfl,s13⟩
  obtain⟨d,dv,thg⟩:=all y (List.mem_of_getElem? hx)
  replace dv:=dv.same s13
  have gv:=thg.gd.sh.shows (by decide) (by decide)
  have shd:=(uM d ok).sh.shows (by decide) (by decide)
  have hv7:=(hv.mono (aI.same s13)).sh
  refine⟨_,rfl,y,d,rfl,dv,gv,?_⟩
  refine⟨_,rfl,_,rfl,.ref ps,y,ws,ls,d,rfl,hv7,ok,dv,thg,fun u H14 s14 du=>?_⟩
  refine⟨u,_,rfl,du,shd,_,rfl,_,rfl,.ref ps,y,ws,ls,d,rfl,hv7.mono (aI.same s14),ok,dv.same s14,thg,fun u' H15 s15 du'=>?_⟩
  refine⟨u',_,rfl,du',shd,rfl,_,rfl,g0 rfl ?_⟩
  refine⟨_,rfl,y,d,rfl,(dv.same s14).same s15,gv,_,rfl,rfl,_,rfl,g0 rfl ?_⟩
  exact⟨_,_,rfl,(s13.trans s14).trans s15⟩
 ·rintro σ H13 ⟨x6,x7,rfl,s13⟩
  have T13:=T12.same s13
  replace dv0:=dv0.same s13
  obtain⟨hSs,wv,⟨pn,xl,rfl,hSl,alv⟩⟩:=hv.mono (aI.same s13)
  clear all hl5 hv
  have ll:=alv.len
  refine⟨_,rfl,_,rfl,ps,_,_,_,rfl,rfl,hSs,rfl,_,rfl,pn,xl,rfl,hSl,fun p1 H14 s14 h14=>?_⟩
  have ct:dw xl none (some (1:Int))=xl.take 1:=by
   unfold dw
   rw [HT.sIx_none,show (1:Int)=((1:Nat):Int) from rfl,HT.sIx_nat,List.drop_zero,Nat.sub_zero]
   by_cases c:1≤xl.length
   ·rw [Nat.min_eq_left c]
   ·have:xl=[]:=List.length_eq_zero_iff.mp (by omega)
    rw [this];rfl
  rw [ct] at h14
  have al14:=vc 1 (alv.mono fun _ _ z=>z.mono (aI.same s14))
  have l14:(ls.take 1).length≤1:=by rw [List.length_take];omega
  refine⟨p1,rfl,⟨_,h14⟩,fun D1 hD1=>de (K:=K) (a:=p1) (xs:=xl.take 1) (ds:=ls.take 1) (P:=yD K) (f:=DW) (fun _ _ _ _ t z=>z.mono t) hD1 h14 al14.len (by omega) (fun i y e' H' hy he' s' R E kR=>?_) fun H15 ys s15 h15 al15=>?_⟩
  ·obtain⟨e2,he2,ev⟩:=al14.at hy
   rw [he'] at he2
   cases he2
   obtain⟨pe,rfl,hSe⟩:=ev.mono (aI.same s')
   exact⟨pe,_,rfl,hSe,rfl,_,_,rfl,_,_,rfl,rfl,dz.set' (dz.set rfl) rfl,_,rfl,_,rfl,dJ,fun q hq=>kR _ _ (ak hq _) ⟨q,rfl,aV.of ai⟩⟩
  refine⟨D1,ys,rfl,.inl ⟨aQ.of h15,fun p5 g5=>?_⟩⟩
  have s16:=ak g5 (.tup ys)
  have h16:aV K (upd H15 p5 (.tup ys)) p5 ys:=aV.of ai
  have al16:=al15.mono fun _ _ z=>z.mono (aI.same s16)
  have s36:=(s14.trans s15).trans s16
  clear s14 s15 s16 h15 al15 h14 al14
  generalize upd H15 p5 (.tup ys)=H16 at h16 al16 s36 ⊢
  refine⟨dJ,fun pa ga=>?_⟩
  have s17:=ak ga (.tup [v,.ref p5])
  have hv2:xI K (upd H16 pa (.tup [v,.ref p5])) (.ref pa) ws ((ls.take 1).map DW):=⟨pa,v,.ref p5,rfl,aV.of ai,(wv.mono (aI.same s36)).mono (aI.same s17),p5,ys,rfl,aI.same s17 _ _ h16,al16.mono fun _ _ z=>z.mono (aI.same s17)⟩
  have s37:=s36.trans s17
  replace dv0:=dv0.same s37
  replace T13:=T13.same s37
  clear s36 s17 ga h16 al16 hSs wv hSl alv
  generalize upd H16 pa (.tup [v,.ref p5])=H17 at hv2 dv0 T13 ⊢
  have ok2:=qo ok
  have shd:=(uM d0 ok2).sh.shows (by decide) (by decide)
  refine⟨_,rfl,_,rfl,.ref pa,x,ws,_,d0,rfl,hv2,ok2,dv0,thg0,fun u H18 s18 du=>?_⟩
  refine⟨u,_,rfl,du,shd,_,rfl,_,rfl,.ref pa,x,ws,_,d0,rfl,hv2.mono (aI.same s18),ok2,dv0.same s18,thg0,fun u' H19 s19 du'=>?_⟩
  refine⟨u',_,rfl,du',shd,rfl,_,rfl,g0 rfl ?_⟩
  exact⟨_,_,_,_,_,_,_,rfl,(T13.same s18).same s19⟩
end
set_option autoImplicit true in
set_option relaxedAutoImplicit true in
open PySem.W in
theorem all_mk {l:OpenLaw} {w:World} {K:Frag} {h:Heap} {mg:Str->Option Value} {fa:Addr} (X:K.In h) (G:h.Ns mainGlobals mg) (hfa:mg "law" = some (.ref fa))
  {f_Q23:Addr} {d_Q23:FuncData} (h_is_whole:db K "is_whole" sQ f_Q23 d_Q23)
  {f_Q9:Addr} {d_Q9:FuncData} (h_is_tuple_of:db K "is_tuple_of" zf f_Q9 d_Q9)
  {f_Q5:Addr} {d_Q5:FuncData} (h_is_number_of:db K "is_number_of" zj f_Q5 d_Q5)
  {f_Q39:Addr} {d_Q39:FuncData} (h_copied:db K "copied" sy f_Q39 d_Q39)
  {f_Q0:Addr} {d_Q0:FuncData} (h_greatest_divisor:db K "greatest_divisor" zp f_Q0 d_Q0)
  {f_Q24:Addr} {d_Q24:FuncData} (h_is_ratio:db K "is_ratio" sO f_Q24 d_Q24)
  {f_Q1:Addr} {d_Q1:FuncData} (h_is_above_nought:db K "is_above_nought" zo f_Q1 d_Q1)
  {f_Q41:Addr} {d_Q41:FuncData} (h_ratio:db K "ratio" sx f_Q41 d_Q41)
  {f_Q43:Addr} {d_Q43:FuncData} (h_plus:db K "plus" sv f_Q43 d_Q43)
  {f_Q42:Addr} {d_Q42:FuncData} (h_total:db K "total" sw f_Q42 d_Q42)
  {f_Q14:Addr} {d_Q14:FuncData} (h_in_window:db K "in_window" sX f_Q14 d_Q14)
  {f_Q25:Addr} {d_Q25:FuncData} (h_is_piece:db K "is_piece" sN f_Q25 d_Q25)
  {f_Q12:Addr} {d_Q12:FuncData} (h_are_pieces:db K "are_pieces" sZ f_Q12 d_Q12)
  {f_Q3:Addr} {d_Q3:FuncData} (h_is_plan_shaped:db K "is_plan_shaped" zm f_Q3 d_Q3)
  {f_Q6:Addr} {d_Q6:FuncData} (h_are_in_place:db K "are_in_place" zi f_Q6 d_Q6)
  {f_Q2:Addr} {d_Q2:FuncData} (h_pieces_in_order:db K "pieces_in_order" zn f_Q2 d_Q2)
  {f_Q7:Addr} {d_Q7:FuncData} (h_is_lean_kept:db K "is_lean_kept" zh f_Q7 d_Q7)
  {f_Q13:Addr} {d_Q13:FuncData} (h_right_plan:db K "right_plan" sY f_Q13 d_Q13)
  {f_Q26:Addr} {d_Q26:FuncData} (h_law_tape:db K "_law_tape" sM f_Q26 d_Q26)
  {f_Q27:Addr} {d_Q27:FuncData} (h_law_draw:db K "_law_draw" sL f_Q27 d_Q27)
  {f_Q34:Addr} {d_Q34:FuncData} (h_law_gcd:db K "_law_gcd" sE f_Q34 d_Q34)
  {f_Q15:Addr} {d_Q15:FuncData} (h_law_ratio:db K "_law_ratio" sW f_Q15 d_Q15)
  {f_Q28:Addr} {d_Q28:FuncData} (h_law_plus:db K "_law_plus" sK f_Q28 d_Q28)
  {f_Q16:Addr} {d_Q16:FuncData} (h_law_times:db K "_law_times" sV f_Q16 d_Q16)
  {f_Q35:Addr} {d_Q35:FuncData} (h_law_sum:db K "_law_sum" sC f_Q35 d_Q35)
  {f_Q29:Addr} {d_Q29:FuncData} (h_law_part:db K "_law_part" sJ f_Q29 d_Q29)
  {f_Q17:Addr} {d_Q17:FuncData} (h_law_works:db K "_law_works" sU f_Q17 d_Q17)
  {f_Q30:Addr} {d_Q30:FuncData} (h_law_plan:db K "_law_plan" sI f_Q30 d_Q30)
  {f_Q18:Addr} {d_Q18:FuncData} (h_law_spots:db K "_law_spots" sT f_Q18 d_Q18)
  {f_Q10:Addr} {d_Q10:FuncData} (h_law_fitting:db K "_law_fitting" tj f_Q10 d_Q10)
  {f_Q19:Addr} {d_Q19:FuncData} (h_law_whole:db K "_law_whole" sS f_Q19 d_Q19)
  {f_Q8:Addr} {d_Q8:FuncData} (h_law_is_piece:db K "_law_is_piece" zg f_Q8 d_Q8)
  {f_Q36:Addr} {d_Q36:FuncData} (h_law_due:db K "_law_due" sB f_Q36 d_Q36)
  {f_Q31:Addr} {d_Q31:FuncData} (h_law_with:db K "_law_with" sH f_Q31 d_Q31)
  {f_Q4:Addr} {d_Q4:FuncData} (h_law_bent_piece:db K "_law_bent_piece" zk f_Q4 d_Q4)
  {f_Q20:Addr} {d_Q20:FuncData} (h_law_moved:db K "_law_moved" sR f_Q20 d_Q20)
  {f_Q11:Addr} {d_Q11:FuncData} (h_law_changed:db K "_law_changed" tf f_Q11 d_Q11)
  {f_Q32:Addr} {d_Q32:FuncData} (h_law_bent:db K "_law_bent" sG f_Q32 d_Q32)
  {f_Q33:Addr} {d_Q33:FuncData} (h_law_told:db K "_law_told" sF f_Q33 d_Q33)
  {f_Q44:Addr} {d_Q44:FuncData} (h_law:db K "law" su f_Q44 d_Q44)
  {f_NOUGHT:Addr} {od_NOUGHT:Option Addr} {sl_NOUGHT:Array (Option Value)} {tkNOUGHT0 tkNOUGHT1:Tok} {n_NOUGHT:Nat} (p_NOUGHT:nsIn K mainGlobals "NOUGHT" = some (some (.ref f_NOUGHT))) (l_NOUGHT:K.lookup f_NOUGHT=some ⟨.type "tuple", od_NOUGHT,.seq #[.int (0) tkNOUGHT0,.int (1) tkNOUGHT1] n_NOUGHT,sl_NOUGHT⟩)
  {tkTURNS:Tok} (p_TURNS:nsIn K mainGlobals "TURNS" = some (some (.int (24) tkTURNS)))
  {cB NB:Addr} {nmB qB:Str} {bsB:List Value} {hdB:Bool} {snB:List Str} {suB:List Value} {abB:Bool} {coB:Option Bool} {ddB:Option Addr} {j0 j1 j2 j3 j5:Option Value} {ocB:Value} {odB:Option Addr} {esB:Array DictEntry} {nB:Nat} {slB:Array (Option Value)}
  (pB:nsIn K mainGlobals "PaceError" = some (some (.ref cB))) (lB:K.lookup cB=some (excClassObj nmB qB cB NB bsB [.type "ValueError", .type "Exception", .type "BaseException", .type "object"] hdB snB suB abB coB ddB j0 j1 j2 j3 j5 "ValueError.__new__")) (lnB:K.lookup NB=some ⟨ocB,odB,.dict esB nB,slB⟩) (hsB:iE esB=true) (hnB:(nsFind esB "__init__").isNone=true)
  (cgB:specialIn K (.builtin "object.__class__") "__get__" = some (some (.builtin "getset_descriptor.__get__"))) (ctB:takesIn K (.builtin "object.__class__")=some true)
  {c_Q40 N_Q40 i_Q40:Addr} {nm_Q40 q_Q40:Str} {bs_Q40:List Value} {hd_Q40:Bool} {sn_Q40:List Str} {su_Q40:List Value} {ab_Q40:Bool} {co_Q40:Option Bool} {dd_Q40:Option Addr} {k0_Q40 k1_Q40 k2_Q40 k3_Q40 k5_Q40:Option Value} {od_Q40 an_Q40:Option Addr} {sl_Q40:Array (Option Value)} {oc_Q40 kV_Q40 dc_Q40 pm_Q40 cd_Q40 ct_Q40:Value}
  (p_Q40:nsIn K mainGlobals "NoPlan" = some (some (.ref c_Q40))) (lc_Q40:K.lookup c_Q40=some (excClassObj nm_Q40 q_Q40 c_Q40 N_Q40 bs_Q40 (.ref cB :: [.type "ValueError", .type "Exception", .type "BaseException", .type "object"]) hd_Q40 sn_Q40 su_Q40 ab_Q40 co_Q40 dd_Q40 k0_Q40 k1_Q40 k2_Q40 k3_Q40 k5_Q40 "ValueError.__new__")) (fi_Q40:findIn K (.ref c_Q40) "__init__" = some (some (.ref i_Q40)))
  (l_Q40:K.lookup i_Q40=some ⟨oc_Q40,od_Q40,.func (fnOf "__init__" "NoPlan.__init__" (da jJ) (cI jJ) (au jJ) .none kV_Q40 dc_Q40 pm_Q40 an_Q40 cd_Q40 ct_Q40),sl_Q40⟩) (cd_Q40_:codeIn K cd_Q40 "NoPlan.__init__" = true) (ki_Q40:keepIn K (.ref i_Q40)=true) (ti_Q40:typeIn K (.ref i_Q40)=some (.type "function")) (kc_Q40:keepIn K (.ref c_Q40)=true)
  (hh_Q40:hasDictIn K c_Q40=true) (sa_Q40:findIn K (.ref c_Q40) "__setattr__" = some (some (.builtin "object.__setattr__")))
  (na_Q40_word:findIn K (.ref c_Q40) "word" = some none) (na_Q40_number:findIn K (.ref c_Q40) "number" = some none) (ga_Q40:findIn K (.ref c_Q40) "__getattribute__" = some (some (.builtin "BaseException.__getattribute__"))) (gn_Q40:findIn K (.ref c_Q40) "__getattr__" = some none) (cl_Q40:findIn K (.ref c_Q40) "__class__" = some (some (.builtin "object.__class__")))
  {c_Q21:Addr} (p_Q21:nsIn K mainGlobals "PaceError" = some (some (.ref c_Q21)))
  {c_Q37:Addr} (p_Q37:nsIn K mainGlobals "NoLeast" = some (some (.ref c_Q37)))
  {c_Q38:Addr} (p_Q38:nsIn K mainGlobals "NoSheet" = some (some (.ref c_Q38)))
  {c_Q22:Addr} (p_Q22:nsIn K mainGlobals "NoStretch" = some (some (.ref c_Q22)))
  (w_x_catch:exmOne K (.ref c_Q40) (.ref c_Q21)=some true)
  (w_y_self:kitOne K (.ref c_Q40) (.ref c_Q40)=some true)
  (w_y_val:kitOne K (.ref c_Q40) (.type "ValueError")=some true)
  (w_y_not:kitAny K (.ref c_Q40) [.ref c_Q37,.ref c_Q38,.ref c_Q22]=some false)
  (z_ValueError:nsIn K mainGlobals "ValueError" = some none)
  (z_abs:nsIn K mainGlobals "abs" = some none)
  (z_all:nsIn K mainGlobals "all" = some none)
  (z_bool:nsIn K mainGlobals "bool" = some none)
  (z_enumerate:nsIn K mainGlobals "enumerate" = some none)
  (z_int:nsIn K mainGlobals "int" = some none)
  (z_isinstance:nsIn K mainGlobals "isinstance" = some none)
  (z_len:nsIn K mainGlobals "len" = some none)
  (z_list:nsIn K mainGlobals "list" = some none)
  (z_max:nsIn K mainGlobals "max" = some none)
  (z_min:nsIn K mainGlobals "min" = some none)
  (z_range:nsIn K mainGlobals "range" = some none)
  (z_repr:nsIn K mainGlobals "repr" = some none)
  (z_set:nsIn K mainGlobals "set" = some none)
  (z_sum:nsIn K mainGlobals "sum" = some none)
  (z_tuple:nsIn K mainGlobals "tuple" = some none)
  (z_zip:nsIn K mainGlobals "zip" = some none)
  : ∃ fd:FuncData,(∀ (s:Shared) (v:Value),BindsTo s fd ⟨[v],[]⟩ [("_law_script", v)])/\∀ base:Heap,K.In base->base.Ns mainGlobals mg->bh l.prog w K mg base cZ 9 fa fd ["_law_script"] (kq K):=by
 have e:=hfa.symm.trans (mg_of X G h_law.p)
 cases e
 obtain⟨_,_,_,_,_,_,_,_,_,rfl,_,_⟩:=h_law.F.ex
 have F_Q40:=uR (st:=jJ) l_Q40 cd_Q40_ ki_Q40
 have T:dM K mg ⟨f_Q23,_,f_Q9,_,f_Q5,_,f_Q39,_,f_Q0,_,f_Q24,_,f_Q1,_,f_Q41,_,f_Q43,_,f_Q42,_,f_Q14,_,f_Q25,_,f_Q12,_,f_Q3,_,f_Q6,_,f_Q2,_,f_Q7,_,f_Q13,_,f_Q26,_,f_Q27,_,f_Q34,_,f_Q15,_,f_Q28,_,f_Q16,_,f_Q35,_,f_Q29,_,f_Q17,_,f_Q30,_,f_Q18,_,f_Q10,_,f_Q19,_,f_Q8,_,f_Q36,_,f_Q31,_,f_Q4,_,f_Q20,_,f_Q11,_,f_Q32,_,f_Q33,_,fa,_,f_NOUGHT,tkTURNS,cB,c_Q40,i_Q40,_,c_Q21,c_Q37,c_Q38,c_Q22⟩:={
  F_Q23:=h_is_whole.F,b_Q23:=h_is_whole.b1,m_Q23:=mg_of X G h_is_whole.p,
  F_Q9:=h_is_tuple_of.F,b_Q9:=h_is_tuple_of.b2,m_Q9:=mg_of X G h_is_tuple_of.p,
  F_Q5:=h_is_number_of.F,b_Q5:=h_is_number_of.b2,m_Q5:=mg_of X G h_is_number_of.p,
  F_Q39:=h_copied.F,b_Q39:=h_copied.b1,m_Q39:=mg_of X G h_copied.p,
  F_Q0:=h_greatest_divisor.F,b_Q0:=h_greatest_divisor.b2,m_Q0:=mg_of X G h_greatest_divisor.p,
  F_Q24:=h_is_ratio.F,b_Q24:=h_is_ratio.b1,m_Q24:=mg_of X G h_is_ratio.p,
  F_Q1:=h_is_above_nought.F,b_Q1:=h_is_above_nought.b1,m_Q1:=mg_of X G h_is_above_nought.p,
  F_Q41:=h_ratio.F,b_Q41:=h_ratio.b2,m_Q41:=mg_of X G h_ratio.p,
  F_Q43:=h_plus.F,b_Q43:=h_plus.b2,m_Q43:=mg_of X G h_plus.p,
  F_Q42:=h_total.F,b_Q42:=h_total.b1,m_Q42:=mg_of X G h_total.p,
  F_Q14:=h_in_window.F,b_Q14:=h_in_window.b2,m_Q14:=mg_of X G h_in_window.p,
  F_Q25:=h_is_piece.F,b_Q25:=h_is_piece.b2,m_Q25:=mg_of X G h_is_piece.p,
  F_Q12:=h_are_pieces.F,b_Q12:=h_are_pieces.b2,m_Q12:=mg_of X G h_are_pieces.p,
  F_Q3:=h_is_plan_shaped.F,b_Q3:=h_is_plan_shaped.b2,m_Q3:=mg_of X G h_is_plan_shaped.p,
  F_Q6:=h_are_in_place.F,b_Q6:=h_are_in_place.b3,m_Q6:=mg_of X G h_are_in_place.p,
  F_Q2:=h_pieces_in_order.F,b_Q2:=h_pieces_in_order.b1,m_Q2:=mg_of X G h_pieces_in_order.p,
  F_Q7:=h_is_lean_kept.F,b_Q7:=h_is_lean_kept.b2,m_Q7:=mg_of X G h_is_lean_kept.p,
  F_Q13:=h_right_plan.F,b_Q13:=h_right_plan.b2,m_Q13:=mg_of X G h_right_plan.p,
  F_Q26:=h_law_tape.F,b_Q26:=h_law_tape.b1,m_Q26:=mg_of X G h_law_tape.p,
  F_Q27:=h_law_draw.F,b_Q27:=h_law_draw.b2,m_Q27:=mg_of X G h_law_draw.p,
  F_Q34:=h_law_gcd.F,b_Q34:=h_law_gcd.b2,m_Q34:=mg_of X G h_law_gcd.p,
  F_Q15:=h_law_ratio.F,b_Q15:=h_law_ratio.b2,m_Q15:=mg_of X G h_law_ratio.p,
  F_Q28:=h_law_plus.F,b_Q28:=h_law_plus.b2,m_Q28:=mg_of X G h_law_plus.p,
  F_Q16:=h_law_times.F,b_Q16:=h_law_times.b2,m_Q16:=mg_of X G h_law_times.p,
  F_Q35:=h_law_sum.F,b_Q35:=h_law_sum.b1,m_Q35:=mg_of X G h_law_sum.p,
  F_Q29:=h_law_part.F,b_Q29:=h_law_part.b1,m_Q29:=mg_of X G h_law_part.p,
  F_Q17:=h_law_works.F,b_Q17:=h_law_works.b3,m_Q17:=mg_of X G h_law_works.p,
  F_Q30:=h_law_plan.F,b_Q30:=h_law_plan.b2,m_Q30:=mg_of X G h_law_plan.p,
  F_Q18:=h_law_spots.F,b_Q18:=h_law_spots.b2,m_Q18:=mg_of X G h_law_spots.p,
  F_Q10:=h_law_fitting.F,b_Q10:=h_law_fitting.b3,m_Q10:=mg_of X G h_law_fitting.p,
  F_Q19:=h_law_whole.F,b_Q19:=h_law_whole.b1,m_Q19:=mg_of X G h_law_whole.p,
  F_Q8:=h_law_is_piece.F,b_Q8:=h_law_is_piece.b2,m_Q8:=mg_of X G h_law_is_piece.p,
  F_Q36:=h_law_due.F,b_Q36:=h_law_due.b2,m_Q36:=mg_of X G h_law_due.p,
  F_Q31:=h_law_with.F,b_Q31:=h_law_with.b3,m_Q31:=mg_of X G h_law_with.p,
  F_Q4:=h_law_bent_piece.F,b_Q4:=h_law_bent_piece.b3,m_Q4:=mg_of X G h_law_bent_piece.p,
  F_Q20:=h_law_moved.F,b_Q20:=h_law_moved.b4,m_Q20:=mg_of X G h_law_moved.p,
  F_Q11:=h_law_changed.F,b_Q11:=h_law_changed.b3,m_Q11:=mg_of X G h_law_changed.p,
  F_Q32:=h_law_bent.F,b_Q32:=h_law_bent.b3,m_Q32:=mg_of X G h_law_bent.p,
  F_Q33:=h_law_told.F,b_Q33:=h_law_told.b2,m_Q33:=mg_of X G h_law_told.p,
  F_Q44:=h_law.F,b_Q44:=h_law.b1,m_Q44:=mg_of X G h_law.p,
  m_NOUGHT:=mg_of X G p_NOUGHT,q_NOUGHT:=fun H=>.inr ⟨_,_,_,l_NOUGHT,rfl,rfl,dJ,(.cons ⟨_,rfl⟩ (.cons ⟨_,rfl⟩ .nil))⟩,
  m_TURNS:=mg_of X G p_TURNS,
  X_Q40:=Bw lc_Q40 lB lnB hsB hnB fi_Q40 ti_Q40 kc_Q40 hh_Q40 sa_Q40,F_Q40:=F_Q40,b_Q40:=F6 F_Q40,m_Q40:=mg_of X G p_Q40,n_Q40_word:=na_Q40_word,n_Q40_number:=na_Q40_number,g_Q40:=⟨ga_Q40,gn_Q40,cl_Q40,cgB,ctB⟩,
  m_Q21:=mg_of X G p_Q21,
  m_Q37:=mg_of X G p_Q37,
  m_Q38:=mg_of X G p_Q38,
  m_Q22:=mg_of X G p_Q22,
  x_catch:=w_x_catch,
  y_self:=w_y_self,
  y_val:=w_y_val,
  y_not:=w_y_not,
  z_ValueError:=mg_none_of X G z_ValueError,z_abs:=mg_none_of X G z_abs,z_all:=mg_none_of X G z_all,z_bool:=mg_none_of X G z_bool,z_enumerate:=mg_none_of X G z_enumerate,z_int:=mg_none_of X G z_int,z_isinstance:=mg_none_of X G z_isinstance,z_len:=mg_none_of X G z_len,z_list:=mg_none_of X G z_list,z_max:=mg_none_of X G z_max,z_min:=mg_none_of X G z_min,z_range:=mg_none_of X G z_range,z_repr:=mg_none_of X G z_repr,z_set:=mg_none_of X G z_set,z_sum:=mg_none_of X G z_sum,z_tuple:=mg_none_of X G z_tuple,z_zip:=mg_none_of X G z_zip }
 exact⟨_,fun s v=>.of_eq rfl,fun base _ _=>Ao T⟩
theorem walk {l:PySem.W.OpenLaw} {q:Program} {loose:List Str} {XP:(Str->Option Value)->Heap->Prop} {YP:World->Heap->Prop} {d:DefRec} {K:Params->Fg} (hn:l.most=some 63) (hdf:d.params.defaults=[])
  (hY:∀ (w:World) (h:Heap),YP w h->(K w.params).In h)
  (F:∀ (w:World) (mg:Str->Option Value) (fa:Addr) (h:Heap),(K w.params).In h->h.Ns mainGlobals mg->mg d.name=some (.ref fa)→
   ∃ fd:FuncData,(∀ (s:Shared) (u:Value),BindsTo s fd ⟨[u],[]⟩ [("_law_script", u)])/\∀ base:Heap,(K w.params).In base->base.Ns mainGlobals mg->bh l.prog w (K w.params) mg base cZ 9 fa fd ["_law_script"] (kq (K w.params))) :
  PySem.W.WalkO q loose XP YP l.row.toRowW d [] (fun f vs=>PySem.call f vs):=
 L2.walk_of (n:=63) (k:=9) (x := "_law_script") (CX:=fun _=>cZ) (sp:=fun w=>kq (K w.params)) hn (by decide) hdf ⟨rfl,by decide,by decide,rfl⟩ hY F (fun _ _ a ns hl _ hS=>⟨a,ns,rfl,hS,hl,fun _=>rfl⟩) fun _ _ _ _ _ z=>z
end My
open PySem PySem.W PyProof.Rows
set_option maxRecDepth 100000 in
set_option maxHeartbeats 0 in
theorem PySem.Challenge.cw_paceplan_k17_plans_let_by_or_not_holds : PySem.Challenge.rw_paceplan_k17_plans_let_by_or_not.Holds := by
 w_on;refine HWtop ?_
 k_fill
 refine My.walk (l:=PySem.Challenge.rw_paceplan_k17_plans_let_by_or_not) rfl rfl (fun w h Y=>PySem.W.kIn_of Y) ?F
 case F=>
  intro w mg fa h KX G hmg
  refine' My.all_mk KX G hmg ?h_is_whole ?h_is_tuple_of ?h_is_number_of ?h_copied ?h_greatest_divisor ?h_is_ratio ?h_is_above_nought ?h_ratio ?h_plus ?h_total ?h_in_window ?h_is_piece ?h_are_pieces ?h_is_plan_shaped ?h_are_in_place ?h_pieces_in_order ?h_is_lean_kept ?h_right_plan ?h_law_tape ?h_law_draw ?h_law_gcd ?h_law_ratio ?h_law_plus ?h_law_times ?h_law_sum ?h_law_part ?h_law_works ?h_law_plan ?h_law_spots ?h_law_fitting ?h_law_whole ?h_law_is_piece ?h_law_due ?h_law_with ?h_law_bent_piece ?h_law_moved ?h_law_changed ?h_law_bent ?h_law_told ?h_law ?p_NOUGHT ?l_NOUGHT ?p_TURNS ?pB ?lB ?lnB ?hsB ?hnB ?cgB ?ctB ?p_Q40 ?lc_Q40 ?fi_Q40 ?l_Q40 ?cd_Q40_ ?ki_Q40 ?ti_Q40 ?kc_Q40 ?hh_Q40 ?sa_Q40 ?na_Q40_word ?na_Q40_number ?ga_Q40 ?gn_Q40 ?cl_Q40 ?p_Q21 ?p_Q37 ?p_Q38 ?p_Q22 ?w_x_catch ?w_y_self ?w_y_val ?w_y_not ?z_ValueError ?z_abs ?z_all ?z_bool ?z_enumerate ?z_int ?z_isinstance ?z_len ?z_list ?z_max ?z_min ?z_range ?z_repr ?z_set ?z_sum ?z_tuple ?z_zip
  (case h_is_whole=>refine' B.isF ?a ?b ?c ?d;(case a=>k_is);(case b=>k_is);(case c=>k_is);(case d=>k_is))
  (case h_is_tuple_of=>refine' B.isF ?a ?b ?c ?d;(case a=>k_is);(case b=>k_is);(case c=>k_is);(case d=>k_is))
  (case h_is_number_of=>refine' B.isF ?a ?b ?c ?d;(case a=>k_is);(case b=>k_is);(case c=>k_is);(case d=>k_is))
  (case h_copied=>refine' B.isF ?a ?b ?c ?d;(case a=>k_is);(case b=>k_is);(case c=>k_is);(case d=>k_is))
  (case h_greatest_divisor=>refine' B.isF ?a ?b ?c ?d;(case a=>k_is);(case b=>k_is);(case c=>k_is);(case d=>k_is))
  (case h_is_ratio=>refine' B.isF ?a ?b ?c ?d;(case a=>k_is);(case b=>k_is);(case c=>k_is);(case d=>k_is))
  (case h_is_above_nought=>refine' B.isF ?a ?b ?c ?d;(case a=>k_is);(case b=>k_is);(case c=>k_is);(case d=>k_is))
  (case h_ratio=>refine' B.isF ?a ?b ?c ?d;(case a=>k_is);(case b=>k_is);(case c=>k_is);(case d=>k_is))
  (case h_plus=>refine' B.isF ?a ?b ?c ?d;(case a=>k_is);(case b=>k_is);(case c=>k_is);(case d=>k_is))
  (case h_total=>refine' B.isF ?a ?b ?c ?d;(case a=>k_is);(case b=>k_is);(case c=>k_is);(case d=>k_is))
  (case h_in_window=>refine' B.isF ?a ?b ?c ?d;(case a=>k_is);(case b=>k_is);(case c=>k_is);(case d=>k_is))
  (case h_is_piece=>refine' B.isF ?a ?b ?c ?d;(case a=>k_is);(case b=>k_is);(case c=>k_is);(case d=>k_is))
  (case h_are_pieces=>refine' B.isF ?a ?b ?c ?d;(case a=>k_is);(case b=>k_is);(case c=>k_is);(case d=>k_is))
  (case h_is_plan_shaped=>refine' B.isF ?a ?b ?c ?d;(case a=>k_is);(case b=>k_is);(case c=>k_is);(case d=>k_is))
  (case h_are_in_place=>refine' B.isF ?a ?b ?c ?d;(case a=>k_is);(case b=>k_is);(case c=>k_is);(case d=>k_is))
  (case h_pieces_in_order=>refine' B.isF ?a ?b ?c ?d;(case a=>k_is);(case b=>k_is);(case c=>k_is);(case d=>k_is))
  (case h_is_lean_kept=>refine' B.isF ?a ?b ?c ?d;(case a=>k_is);(case b=>k_is);(case c=>k_is);(case d=>k_is))
  (case h_right_plan=>refine' B.isF ?a ?b ?c ?d;(case a=>k_is);(case b=>k_is);(case c=>k_is);(case d=>k_is))
  (case h_law_tape=>refine' B.isF ?a ?b ?c ?d;(case a=>k_is);(case b=>k_is);(case c=>k_is);(case d=>k_is))
  (case h_law_draw=>refine' B.isF ?a ?b ?c ?d;(case a=>k_is);(case b=>k_is);(case c=>k_is);(case d=>k_is))
  (case h_law_gcd=>refine' B.isF ?a ?b ?c ?d;(case a=>k_is);(case b=>k_is);(case c=>k_is);(case d=>k_is))
  (case h_law_ratio=>refine' B.isF ?a ?b ?c ?d;(case a=>k_is);(case b=>k_is);(case c=>k_is);(case d=>k_is))
  (case h_law_plus=>refine' B.isF ?a ?b ?c ?d;(case a=>k_is);(case b=>k_is);(case c=>k_is);(case d=>k_is))
  (case h_law_times=>refine' B.isF ?a ?b ?c ?d;(case a=>k_is);(case b=>k_is);(case c=>k_is);(case d=>k_is))
  (case h_law_sum=>refine' B.isF ?a ?b ?c ?d;(case a=>k_is);(case b=>k_is);(case c=>k_is);(case d=>k_is))
  (case h_law_part=>refine' B.isF ?a ?b ?c ?d;(case a=>k_is);(case b=>k_is);(case c=>k_is);(case d=>k_is))
  (case h_law_works=>refine' B.isF ?a ?b ?c ?d;(case a=>k_is);(case b=>k_is);(case c=>k_is);(case d=>k_is))
  (case h_law_plan=>refine' B.isF ?a ?b ?c ?d;(case a=>k_is);(case b=>k_is);(case c=>k_is);(case d=>k_is))
  (case h_law_spots=>refine' B.isF ?a ?b ?c ?d;(case a=>k_is);(case b=>k_is);(case c=>k_is);(case d=>k_is))
  (case h_law_fitting=>refine' B.isF ?a ?b ?c ?d;(case a=>k_is);(case b=>k_is);(case c=>k_is);(case d=>k_is))
  (case h_law_whole=>refine' B.isF ?a ?b ?c ?d;(case a=>k_is);(case b=>k_is);(case c=>k_is);(case d=>k_is))
  (case h_law_is_piece=>refine' B.isF ?a ?b ?c ?d;(case a=>k_is);(case b=>k_is);(case c=>k_is);(case d=>k_is))
  (case h_law_due=>refine' B.isF ?a ?b ?c ?d;(case a=>k_is);(case b=>k_is);(case c=>k_is);(case d=>k_is))
  (case h_law_with=>refine' B.isF ?a ?b ?c ?d;(case a=>k_is);(case b=>k_is);(case c=>k_is);(case d=>k_is))
  (case h_law_bent_piece=>refine' B.isF ?a ?b ?c ?d;(case a=>k_is);(case b=>k_is);(case c=>k_is);(case d=>k_is))
  (case h_law_moved=>refine' B.isF ?a ?b ?c ?d;(case a=>k_is);(case b=>k_is);(case c=>k_is);(case d=>k_is))
  (case h_law_changed=>refine' B.isF ?a ?b ?c ?d;(case a=>k_is);(case b=>k_is);(case c=>k_is);(case d=>k_is))
  (case h_law_bent=>refine' B.isF ?a ?b ?c ?d;(case a=>k_is);(case b=>k_is);(case c=>k_is);(case d=>k_is))
  (case h_law_told=>refine' B.isF ?a ?b ?c ?d;(case a=>k_is);(case b=>k_is);(case c=>k_is);(case d=>k_is))
  (case h_law=>refine' B.isF ?a ?b ?c ?d;(case a=>k_is);(case b=>k_is);(case c=>k_is);(case d=>k_is))
  (case p_NOUGHT=>k_is)
  (case l_NOUGHT=>k_is)
  (case p_TURNS=>k_is)
  (case pB=>k_is)
  (case lB=>k_is)
  (case lnB=>k_is)
  (case hsB=>rfl)
  (case hnB=>rfl)
  (case cgB=>k_is)
  (case ctB=>k_is)
  (case p_Q40=>k_is)
  (case lc_Q40=>k_is)
  (case fi_Q40=>k_is)
  (case l_Q40=>k_is)
  (case cd_Q40_=>k_is)
  (case ki_Q40=>k_is)
  (case ti_Q40=>k_is)
  (case kc_Q40=>k_is)
  (case hh_Q40=>k_is)
  (case sa_Q40=>k_is)
  (case na_Q40_word=>k_is)
  (case na_Q40_number=>k_is)
  (case ga_Q40=>k_is)
  (case gn_Q40=>k_is)
  (case cl_Q40=>k_is)
  (case p_Q21=>k_is)
  (case p_Q37=>k_is)
  (case p_Q38=>k_is)
  (case p_Q22=>k_is)
  (case w_x_catch=>kts_exm)
  (case w_y_self=>kit_is)
  (case w_y_val=>kit_is)
  (case w_y_not=>kit_is)
  (case z_ValueError=>k_is)
  (case z_abs=>k_is)
  (case z_all=>k_is)
  (case z_bool=>k_is)
  (case z_enumerate=>k_is)
  (case z_int=>k_is)
  (case z_isinstance=>k_is)
  (case z_len=>k_is)
  (case z_list=>k_is)
  (case z_max=>k_is)
  (case z_min=>k_is)
  (case z_range=>k_is)
  (case z_repr=>k_is)
  (case z_set=>k_is)
  (case z_sum=>k_is)
  (case z_tuple=>k_is)
  (case z_zip=>k_is)
